/- The contract of the document's Read; both joined. -/
import Derived.Test.YtfhlcclbjagdmaaIL
namespace Go.Proofs.Ytfhlcclbjagdmaa
open Go.RowKit
open M

theorem irow_none (w : World) : IRow w 0 0 0 none 0 0 [] := ⟨Row_nil w, rfl, rfl, fun x hx => by simp at hx, by omega, by omega⟩

end Go.Proofs.Ytfhlcclbjagdmaa
