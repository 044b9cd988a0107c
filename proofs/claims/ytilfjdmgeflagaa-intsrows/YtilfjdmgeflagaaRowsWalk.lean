/- The walk of IntsRows. -/
import Derived.Test.YtilfjdmgeflagaaRowsIn
import Derived.Test.YtilfjdmgeflagaaRowsOut
namespace Go.Proofs.Ytilfjdmgeflagaa
open Go.RowKit
open M

theorem rows_walk (a1 : Option Addr) (n1 c1 : Nat) (xs : List Int) (x y : Int) (cut : Bool) (w : World) (e1 : xs.length = n1) (hk1 : n1 ≤ c1) (hm1 : c1 ≤ maxLen) (h1 : NumsAt .i64 w a1 xs) (h64 : I64s xs) (hy : y ≤ 9223372036854775807) :
    Calls Try.prog 3 #[.slice a1 n1 c1, .agg #[.int .i64 x, .int .i64 y], .bool cut] w fun e w' => e = .returned (.bool true) ∧ Below w.heap.size w w' := by
  by_cases hin : 0 ≤ y ∧ y < ((min n1 100 : Nat) : Int)
  · exact rows_walk_in a1 n1 c1 xs x y cut w e1 hk1 hm1 h1 h64 hy _ rfl hin
  · exact rows_walk_out a1 n1 c1 xs x y cut w e1 hk1 hm1 h1 h64 hy _ rfl hin

end Go.Proofs.Ytilfjdmgeflagaa
