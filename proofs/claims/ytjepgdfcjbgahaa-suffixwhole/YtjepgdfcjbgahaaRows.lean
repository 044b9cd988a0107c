/-
  No cell of these rows narrows 'for every input' (looked for: loops, veiled, ifaces, maps, wideKeys, modest, calm, conditions, laid).
  DERIVED. THE GIVEN ROWS OF THIS SEAT. 6 by the template 'for every input the law returns true; each argument reads behind the call as it read before'; 0 by the template 'total and deterministic' (their statements: YtjepgdfcjbgahaaTotals.lean).
  GIVEN WITH THE SEED: the statements are not yours to turn. If you find one false, say at which input.
  Laid BY PROGRAM, IN A SANDBOX (cutbox-rows.mjs): the forced cells as the released guide's own fill.sh prints them over the translation 740346317830a313… (all of the seat's roots in one cut). By AI agents, Wed Nov 11 2026. No macro, syntax, notation, axiom, sorry.
-/
import Derived.Test.YtjepgdfcjbgahaaChecked
import GoSem.Claim
import GoSem.ClaimJoined
import GoSem.ClaimMapViews
import Derived.JoinedTies
import Derived.KernelRfl
namespace Go.Proofs.Ytjepgdfcjbgahaa
/- THE CELL 'sum', in the pinned program and in every row, IS THE sha256 OF THE DUMP (.gsa) THAT YtjepgdfcjbgahaaProg.lean LOADS. Nothing in Lean hashes anything: it is a label: what it is worth is what the hold of that sum in a sandbox is worth. -/
noncomputable def Try.pinned : Pinned := { name := "ytjepgdfcjbgahaa", sum := "740346317830a31318ff1247297823eeaf4fab611064e2e7de6d300e708b3593", checked := Try.checked }
namespace Rows
def none {H : Type} : Left H := { results := [], args := [] }

/-- 'topiarylaw07.SuffixOrders': WHATEVER THE INPUT: true; the input reads as it did. -/
def suffixOrdersSpec : ChangeSpec := { name := "suffixOrders", fn := fun _ => fun
  | [d1, d2] => { results := [.lit (.bool true)], args := [d1, d2] }
  | _ => none }
def suffixOrdersRow : OpenClaim := { program := "ytjepgdfcjbgahaa", sum := "740346317830a31318ff1247297823eeaf4fab611064e2e7de6d300e708b3593", func := "topiary/topiarylaw07.SuffixOrders", spec := "suffixOrders", unfollowed := true, recurses := true, apart := false }
def SuffixOrdersSaid : Prop := suffixOrdersRow.holds Try.pinned (OpenSpec.ofChange suffixOrdersSpec)

/-- ITS FALSE NEIGHBOUR: 'it returns false'. Refute it at one input. -/
def suffixOrdersWrong : ChangeSpec := { name := "suffixOrders", fn := fun _ => fun
  | [d1, d2] => { results := [.lit (.bool false)], args := [d1, d2] }
  | _ => none }
def SuffixOrdersWrongFalsely : Prop := suffixOrdersRow.holds Try.pinned (OpenSpec.ofChange suffixOrdersWrong)

/-- 'topiarylaw07.SuffixCommon': WHATEVER THE INPUT: true; the input reads as it did. -/
def suffixCommonSpec : ChangeSpec := { name := "suffixCommon", fn := fun _ => fun
  | [d1, d2, d3] => { results := [.lit (.bool true)], args := [d1, d2, d3] }
  | _ => none }
def suffixCommonRow : OpenClaim := { program := "ytjepgdfcjbgahaa", sum := "740346317830a31318ff1247297823eeaf4fab611064e2e7de6d300e708b3593", func := "topiary/topiarylaw07.SuffixCommon", spec := "suffixCommon", unfollowed := true, recurses := true, apart := false }
def SuffixCommonSaid : Prop := suffixCommonRow.holds Try.pinned (OpenSpec.ofChange suffixCommonSpec)

/-- ITS FALSE NEIGHBOUR: 'it returns false'. Refute it at one input. -/
def suffixCommonWrong : ChangeSpec := { name := "suffixCommon", fn := fun _ => fun
  | [d1, d2, d3] => { results := [.lit (.bool false)], args := [d1, d2, d3] }
  | _ => none }
def SuffixCommonWrongFalsely : Prop := suffixCommonRow.holds Try.pinned (OpenSpec.ofChange suffixCommonWrong)

/-- 'topiarylaw07.SuffixFinds': WHATEVER THE INPUT: true; the input reads as it did. -/
def suffixFindsSpec : ChangeSpec := { name := "suffixFinds", fn := fun _ => fun
  | [d1, d2, d3] => { results := [.lit (.bool true)], args := [d1, d2, d3] }
  | _ => none }
def suffixFindsRow : OpenClaim := { program := "ytjepgdfcjbgahaa", sum := "740346317830a31318ff1247297823eeaf4fab611064e2e7de6d300e708b3593", func := "topiary/topiarylaw07.SuffixFinds", spec := "suffixFinds", unfollowed := true, recurses := true, apart := false }
def SuffixFindsSaid : Prop := suffixFindsRow.holds Try.pinned (OpenSpec.ofChange suffixFindsSpec)

/-- ITS FALSE NEIGHBOUR: 'it returns false'. Refute it at one input. -/
def suffixFindsWrong : ChangeSpec := { name := "suffixFinds", fn := fun _ => fun
  | [d1, d2, d3] => { results := [.lit (.bool false)], args := [d1, d2, d3] }
  | _ => none }
def SuffixFindsWrongFalsely : Prop := suffixFindsRow.holds Try.pinned (OpenSpec.ofChange suffixFindsWrong)

/-- 'topiarylaw07.SuffixUnlike': WHATEVER THE INPUT: true; the input reads as it did. -/
def suffixUnlikeSpec : ChangeSpec := { name := "suffixUnlike", fn := fun _ => fun
  | [d1, d2] => { results := [.lit (.bool true)], args := [d1, d2] }
  | _ => none }
def suffixUnlikeRow : OpenClaim := { program := "ytjepgdfcjbgahaa", sum := "740346317830a31318ff1247297823eeaf4fab611064e2e7de6d300e708b3593", func := "topiary/topiarylaw07.SuffixUnlike", spec := "suffixUnlike", unfollowed := true, recurses := true, apart := false }
def SuffixUnlikeSaid : Prop := suffixUnlikeRow.holds Try.pinned (OpenSpec.ofChange suffixUnlikeSpec)

/-- ITS FALSE NEIGHBOUR: 'it returns false'. Refute it at one input. -/
def suffixUnlikeWrong : ChangeSpec := { name := "suffixUnlike", fn := fun _ => fun
  | [d1, d2] => { results := [.lit (.bool false)], args := [d1, d2] }
  | _ => none }
def SuffixUnlikeWrongFalsely : Prop := suffixUnlikeRow.holds Try.pinned (OpenSpec.ofChange suffixUnlikeWrong)

/-- 'topiarylaw07.SuffixWhole': WHATEVER THE INPUT: true; the input reads as it did. -/
def suffixWholeSpec : ChangeSpec := { name := "suffixWhole", fn := fun _ => fun
  | [d1, d2, d3] => { results := [.lit (.bool true)], args := [d1, d2, d3] }
  | _ => none }
def suffixWholeRow : OpenClaim := { program := "ytjepgdfcjbgahaa", sum := "740346317830a31318ff1247297823eeaf4fab611064e2e7de6d300e708b3593", func := "topiary/topiarylaw07.SuffixWhole", spec := "suffixWhole", unfollowed := true, recurses := true, apart := false }
def SuffixWholeSaid : Prop := suffixWholeRow.holds Try.pinned (OpenSpec.ofChange suffixWholeSpec)

/-- ITS FALSE NEIGHBOUR: 'it returns false'. Refute it at one input. -/
def suffixWholeWrong : ChangeSpec := { name := "suffixWhole", fn := fun _ => fun
  | [d1, d2, d3] => { results := [.lit (.bool false)], args := [d1, d2, d3] }
  | _ => none }
def SuffixWholeWrongFalsely : Prop := suffixWholeRow.holds Try.pinned (OpenSpec.ofChange suffixWholeWrong)

/-- 'topiarylaw07.SuffixShift': WHATEVER THE INPUT: true; the input reads as it did. -/
def suffixShiftSpec : ChangeSpec := { name := "suffixShift", fn := fun _ => fun
  | [d1, d2, d3] => { results := [.lit (.bool true)], args := [d1, d2, d3] }
  | _ => none }
def suffixShiftRow : OpenClaim := { program := "ytjepgdfcjbgahaa", sum := "740346317830a31318ff1247297823eeaf4fab611064e2e7de6d300e708b3593", func := "topiary/topiarylaw07.SuffixShift", spec := "suffixShift", unfollowed := true, recurses := true, apart := false }
def SuffixShiftSaid : Prop := suffixShiftRow.holds Try.pinned (OpenSpec.ofChange suffixShiftSpec)

/-- ITS FALSE NEIGHBOUR: 'it returns false'. Refute it at one input. -/
def suffixShiftWrong : ChangeSpec := { name := "suffixShift", fn := fun _ => fun
  | [d1, d2, d3] => { results := [.lit (.bool false)], args := [d1, d2, d3] }
  | _ => none }
def SuffixShiftWrongFalsely : Prop := suffixShiftRow.holds Try.pinned (OpenSpec.ofChange suffixShiftWrong)

/- THE SECOND FORM. 'bulk': how many values and letters a reading holds, each counted each time it is reached (what is shared counts as often as it is met; a slice's spare places count too). A statement '..UptoSaid' is the law's where the arguments, and the package variables that the reading takes, are together of bulk at most 1048576: NARROWER than '..Said'. Prove '..Said' where nothing that the law and all that it calls make is longer than what came in: it says more and counts as full. Else prove '..UptoSaid'. A law counts once. -/
mutual
def uptoBulk {H : Type} : DataW H → Nat
  | .lit (.string bytes) => bytes.length + 1
  | .lit _ => 1
  | .nil => 1
  | .ptr d => uptoBulk d + 1
  | .slice elems spare => uptoBulkAll elems + uptoBulkAll spare + 1
  | .agg parts => uptoBulkAll parts + 1
  | .iface _ d => uptoBulk d + 1
  | .map entries => uptoBulkEntries entries + 1
  | .held _ => 1
def uptoBulkAll {H : Type} : List (DataW H) → Nat
  | [] => 0
  | d :: r => uptoBulk d + uptoBulkAll r
def uptoBulkEntries {H : Type} : List (Lit × DataW H) → Nat
  | [] => 0
  | x :: r => uptoBulkEntry x + uptoBulkEntries r
def uptoBulkEntry {H : Type} : Lit × DataW H → Nat
  | (.string bytes, d) => bytes.length + uptoBulk d + 1
  | (_, d) => uptoBulk d + 1
 end
def uptoSmall : (H : Type) → List (DataW H) → Bool := fun _ ds => decide (uptoBulkAll ds ≤ 1048576)
def OpenSpec.upto (s : _root_.Go.ChangeSpec) : _root_.Go.OpenSpec := { _root_.Go.OpenSpec.ofChange s with cond := some uptoSmall }

/-- 'topiarylaw07.SuffixOrders', WHERE WHAT IT READS IS OF BULK AT MOST 1048576: true; the input reads as it did. -/
def suffixOrdersUptoRow : OpenClaim := { program := "ytjepgdfcjbgahaa", sum := "740346317830a31318ff1247297823eeaf4fab611064e2e7de6d300e708b3593", func := "topiary/topiarylaw07.SuffixOrders", spec := "suffixOrders", unfollowed := true, recurses := true, apart := false, narrowed := true }
def SuffixOrdersUptoSaid : Prop := suffixOrdersUptoRow.holds Try.pinned (OpenSpec.upto suffixOrdersSpec)

/-- 'topiarylaw07.SuffixCommon', WHERE WHAT IT READS IS OF BULK AT MOST 1048576: true; the input reads as it did. -/
def suffixCommonUptoRow : OpenClaim := { program := "ytjepgdfcjbgahaa", sum := "740346317830a31318ff1247297823eeaf4fab611064e2e7de6d300e708b3593", func := "topiary/topiarylaw07.SuffixCommon", spec := "suffixCommon", unfollowed := true, recurses := true, apart := false, narrowed := true }
def SuffixCommonUptoSaid : Prop := suffixCommonUptoRow.holds Try.pinned (OpenSpec.upto suffixCommonSpec)

/-- 'topiarylaw07.SuffixFinds', WHERE WHAT IT READS IS OF BULK AT MOST 1048576: true; the input reads as it did. -/
def suffixFindsUptoRow : OpenClaim := { program := "ytjepgdfcjbgahaa", sum := "740346317830a31318ff1247297823eeaf4fab611064e2e7de6d300e708b3593", func := "topiary/topiarylaw07.SuffixFinds", spec := "suffixFinds", unfollowed := true, recurses := true, apart := false, narrowed := true }
def SuffixFindsUptoSaid : Prop := suffixFindsUptoRow.holds Try.pinned (OpenSpec.upto suffixFindsSpec)

/-- 'topiarylaw07.SuffixUnlike', WHERE WHAT IT READS IS OF BULK AT MOST 1048576: true; the input reads as it did. -/
def suffixUnlikeUptoRow : OpenClaim := { program := "ytjepgdfcjbgahaa", sum := "740346317830a31318ff1247297823eeaf4fab611064e2e7de6d300e708b3593", func := "topiary/topiarylaw07.SuffixUnlike", spec := "suffixUnlike", unfollowed := true, recurses := true, apart := false, narrowed := true }
def SuffixUnlikeUptoSaid : Prop := suffixUnlikeUptoRow.holds Try.pinned (OpenSpec.upto suffixUnlikeSpec)

/-- 'topiarylaw07.SuffixWhole', WHERE WHAT IT READS IS OF BULK AT MOST 1048576: true; the input reads as it did. -/
def suffixWholeUptoRow : OpenClaim := { program := "ytjepgdfcjbgahaa", sum := "740346317830a31318ff1247297823eeaf4fab611064e2e7de6d300e708b3593", func := "topiary/topiarylaw07.SuffixWhole", spec := "suffixWhole", unfollowed := true, recurses := true, apart := false, narrowed := true }
def SuffixWholeUptoSaid : Prop := suffixWholeUptoRow.holds Try.pinned (OpenSpec.upto suffixWholeSpec)

/-- 'topiarylaw07.SuffixShift', WHERE WHAT IT READS IS OF BULK AT MOST 1048576: true; the input reads as it did. -/
def suffixShiftUptoRow : OpenClaim := { program := "ytjepgdfcjbgahaa", sum := "740346317830a31318ff1247297823eeaf4fab611064e2e7de6d300e708b3593", func := "topiary/topiarylaw07.SuffixShift", spec := "suffixShift", unfollowed := true, recurses := true, apart := false, narrowed := true }
def SuffixShiftUptoSaid : Prop := suffixShiftUptoRow.holds Try.pinned (OpenSpec.upto suffixShiftSpec)

end Rows
end Go.Proofs.Ytjepgdfcjbgahaa
