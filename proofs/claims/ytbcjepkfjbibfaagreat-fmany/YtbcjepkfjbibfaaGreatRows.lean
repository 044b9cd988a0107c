/-
  No cell of these rows narrows 'for every input' (looked for: loops, veiled, ifaces, maps, wideKeys, modest, calm, conditions, laid).
  DERIVED. THE GIVEN ROWS OF THIS SEAT. 6 by the template 'for every input the law returns true; each argument reads behind the call as it read before'; 0 by the template 'total and deterministic' (their statements: YtbcjepkfjbibfaaGreatTotals.lean).
  GIVEN WITH THE SEED: the statements are not yours to turn. If you find one false, say at which input.
  Laid BY PROGRAM, IN A SANDBOX (cutbox-rows.mjs): the forced cells as the released guide's own fill.sh prints them over the translation 9e35483460c06c1c… (all of the seat's roots in one cut). By AI agents, Wed Nov 11 2026. No macro, syntax, notation, axiom, sorry.
-/
import Derived.Test.YtbcjepkfjbibfaaGreatChecked
import GoSem.Claim
import GoSem.ClaimJoined
import GoSem.ClaimMapViews
import Derived.JoinedTies
import Derived.KernelRfl
namespace Go.Proofs.YtbcjepkfjbibfaaGreat
/- THE CELL 'sum', in the pinned program and in every row, IS THE sha256 OF THE DUMP (.gsa) THAT YtbcjepkfjbibfaaGreatProg.lean LOADS. Nothing in Lean hashes anything: it is a label: what it is worth is what the hold of that sum in a sandbox is worth. -/
noncomputable def Tryz.pinned : Pinned := { name := "ytbcjepkfjbibfaagreat", sum := "9e35483460c06c1c6835f7c27f7f4492f673100756f40b2656082235b050c4bb", checked := Tryz.checked }
namespace Rows
def none {H : Type} : Left H := { results := [], args := [] }

/-- 'topiarylaw09.FmMakes': WHATEVER THE INPUT: true; the input reads as it did. -/
def fmMakesSpec : ChangeSpec := { name := "fmMakes", fn := fun _ => fun
  | [d1, d2] => { results := [.lit (.bool true)], args := [d1, d2] }
  | _ => none }
def fmMakesRow : OpenClaim := { program := "ytbcjepkfjbibfaagreat", sum := "9e35483460c06c1c6835f7c27f7f4492f673100756f40b2656082235b050c4bb", func := "topiary/topiarylaw09.FmMakes", spec := "fmMakes", unfollowed := true, recurses := true, apart := false }
def FmMakesSaid : Prop := fmMakesRow.holds Tryz.pinned (OpenSpec.ofChange fmMakesSpec)

/-- ITS FALSE NEIGHBOUR: 'it returns false'. Refute it at one input. -/
def fmMakesWrong : ChangeSpec := { name := "fmMakes", fn := fun _ => fun
  | [d1, d2] => { results := [.lit (.bool false)], args := [d1, d2] }
  | _ => none }
def FmMakesWrongFalsely : Prop := fmMakesRow.holds Tryz.pinned (OpenSpec.ofChange fmMakesWrong)

/-- 'topiarylaw09.FmFinds': WHATEVER THE INPUT: true; the input reads as it did. -/
def fmFindsSpec : ChangeSpec := { name := "fmFinds", fn := fun _ => fun
  | [d1, d2, d3] => { results := [.lit (.bool true)], args := [d1, d2, d3] }
  | _ => none }
def fmFindsRow : OpenClaim := { program := "ytbcjepkfjbibfaagreat", sum := "9e35483460c06c1c6835f7c27f7f4492f673100756f40b2656082235b050c4bb", func := "topiary/topiarylaw09.FmFinds", spec := "fmFinds", unfollowed := true, recurses := true, apart := false }
def FmFindsSaid : Prop := fmFindsRow.holds Tryz.pinned (OpenSpec.ofChange fmFindsSpec)

/-- ITS FALSE NEIGHBOUR: 'it returns false'. Refute it at one input. -/
def fmFindsWrong : ChangeSpec := { name := "fmFinds", fn := fun _ => fun
  | [d1, d2, d3] => { results := [.lit (.bool false)], args := [d1, d2, d3] }
  | _ => none }
def FmFindsWrongFalsely : Prop := fmFindsRow.holds Tryz.pinned (OpenSpec.ofChange fmFindsWrong)

/-- 'topiarylaw09.FmWhole': WHATEVER THE INPUT: true; the input reads as it did. -/
def fmWholeSpec : ChangeSpec := { name := "fmWhole", fn := fun _ => fun
  | [d1, d2, d3] => { results := [.lit (.bool true)], args := [d1, d2, d3] }
  | _ => none }
def fmWholeRow : OpenClaim := { program := "ytbcjepkfjbibfaagreat", sum := "9e35483460c06c1c6835f7c27f7f4492f673100756f40b2656082235b050c4bb", func := "topiary/topiarylaw09.FmWhole", spec := "fmWhole", unfollowed := true, recurses := true, apart := false }
def FmWholeSaid : Prop := fmWholeRow.holds Tryz.pinned (OpenSpec.ofChange fmWholeSpec)

/-- ITS FALSE NEIGHBOUR: 'it returns false'. Refute it at one input. -/
def fmWholeWrong : ChangeSpec := { name := "fmWhole", fn := fun _ => fun
  | [d1, d2, d3] => { results := [.lit (.bool false)], args := [d1, d2, d3] }
  | _ => none }
def FmWholeWrongFalsely : Prop := fmWholeRow.holds Tryz.pinned (OpenSpec.ofChange fmWholeWrong)

/-- 'topiarylaw09.FmLoads': WHATEVER THE INPUT: true; the input reads as it did. -/
def fmLoadsSpec : ChangeSpec := { name := "fmLoads", fn := fun _ => fun
  | [d1, d2, d3] => { results := [.lit (.bool true)], args := [d1, d2, d3] }
  | _ => none }
def fmLoadsRow : OpenClaim := { program := "ytbcjepkfjbibfaagreat", sum := "9e35483460c06c1c6835f7c27f7f4492f673100756f40b2656082235b050c4bb", func := "topiary/topiarylaw09.FmLoads", spec := "fmLoads", unfollowed := true, recurses := true, apart := false }
def FmLoadsSaid : Prop := fmLoadsRow.holds Tryz.pinned (OpenSpec.ofChange fmLoadsSpec)

/-- ITS FALSE NEIGHBOUR: 'it returns false'. Refute it at one input. -/
def fmLoadsWrong : ChangeSpec := { name := "fmLoads", fn := fun _ => fun
  | [d1, d2, d3] => { results := [.lit (.bool false)], args := [d1, d2, d3] }
  | _ => none }
def FmLoadsWrongFalsely : Prop := fmLoadsRow.holds Tryz.pinned (OpenSpec.ofChange fmLoadsWrong)

/-- 'topiarylaw09.FmAny': WHATEVER THE INPUT: true; the input reads as it did. -/
def fmAnySpec : ChangeSpec := { name := "fmAny", fn := fun _ => fun
  | [d1, d2, d3] => { results := [.lit (.bool true)], args := [d1, d2, d3] }
  | _ => none }
def fmAnyRow : OpenClaim := { program := "ytbcjepkfjbibfaagreat", sum := "9e35483460c06c1c6835f7c27f7f4492f673100756f40b2656082235b050c4bb", func := "topiary/topiarylaw09.FmAny", spec := "fmAny", unfollowed := true, recurses := true, apart := false }
def FmAnySaid : Prop := fmAnyRow.holds Tryz.pinned (OpenSpec.ofChange fmAnySpec)

/-- ITS FALSE NEIGHBOUR: 'it returns false'. Refute it at one input. -/
def fmAnyWrong : ChangeSpec := { name := "fmAny", fn := fun _ => fun
  | [d1, d2, d3] => { results := [.lit (.bool false)], args := [d1, d2, d3] }
  | _ => none }
def FmAnyWrongFalsely : Prop := fmAnyRow.holds Tryz.pinned (OpenSpec.ofChange fmAnyWrong)

/-- 'topiarylaw09.FmGrows': WHATEVER THE INPUT: true; the input reads as it did. -/
def fmGrowsSpec : ChangeSpec := { name := "fmGrows", fn := fun _ => fun
  | [d1, d2, d3] => { results := [.lit (.bool true)], args := [d1, d2, d3] }
  | _ => none }
def fmGrowsRow : OpenClaim := { program := "ytbcjepkfjbibfaagreat", sum := "9e35483460c06c1c6835f7c27f7f4492f673100756f40b2656082235b050c4bb", func := "topiary/topiarylaw09.FmGrows", spec := "fmGrows", unfollowed := true, recurses := true, apart := false }
def FmGrowsSaid : Prop := fmGrowsRow.holds Tryz.pinned (OpenSpec.ofChange fmGrowsSpec)

/-- ITS FALSE NEIGHBOUR: 'it returns false'. Refute it at one input. -/
def fmGrowsWrong : ChangeSpec := { name := "fmGrows", fn := fun _ => fun
  | [d1, d2, d3] => { results := [.lit (.bool false)], args := [d1, d2, d3] }
  | _ => none }
def FmGrowsWrongFalsely : Prop := fmGrowsRow.holds Tryz.pinned (OpenSpec.ofChange fmGrowsWrong)

/- THE SECOND FORM. 'bulk': how many values and letters a reading holds, each counted each time it is reached (what is shared counts as often as it is met; a slice's spare places count too). A statement '..UptoSaid' is the law's where the arguments, and the package variables that the reading takes, are together of bulk at most 1048576: NARROWER than '..Said'. Prove '..Said' where nothing that the law and all that it calls make is longer than what came in: it says more and counts as full. Else prove '..UptoSaid'. A law counts once. -/
mutual
def uptoBulk {H : Type} : DataW H → Nat
  | .lit (.string bytes) => bytes.length + 1
  | .lit _ => 1
  | .nil => 1
  | .ptr d => uptoBulk d + 1
  | .slice elems spare => uptoBulkAll elems + uptoBulkAll spare + 1
  | .agg parts => uptoBulkAll parts + 1
  | .iface _ d => uptoBulk d + 1
  | .map entries => uptoBulkEntries entries + 1
  | .held _ => 1
def uptoBulkAll {H : Type} : List (DataW H) → Nat
  | [] => 0
  | d :: r => uptoBulk d + uptoBulkAll r
def uptoBulkEntries {H : Type} : List (Lit × DataW H) → Nat
  | [] => 0
  | x :: r => uptoBulkEntry x + uptoBulkEntries r
def uptoBulkEntry {H : Type} : Lit × DataW H → Nat
  | (.string bytes, d) => bytes.length + uptoBulk d + 1
  | (_, d) => uptoBulk d + 1
 end
def uptoSmall : (H : Type) → List (DataW H) → Bool := fun _ ds => decide (uptoBulkAll ds ≤ 1048576)
def OpenSpec.upto (s : _root_.Go.ChangeSpec) : _root_.Go.OpenSpec := { _root_.Go.OpenSpec.ofChange s with cond := some uptoSmall }

/-- 'topiarylaw09.FmMakes', WHERE WHAT IT READS IS OF BULK AT MOST 1048576: true; the input reads as it did. -/
def fmMakesUptoRow : OpenClaim := { program := "ytbcjepkfjbibfaagreat", sum := "9e35483460c06c1c6835f7c27f7f4492f673100756f40b2656082235b050c4bb", func := "topiary/topiarylaw09.FmMakes", spec := "fmMakes", unfollowed := true, recurses := true, apart := false, narrowed := true }
def FmMakesUptoSaid : Prop := fmMakesUptoRow.holds Tryz.pinned (OpenSpec.upto fmMakesSpec)

/-- 'topiarylaw09.FmFinds', WHERE WHAT IT READS IS OF BULK AT MOST 1048576: true; the input reads as it did. -/
def fmFindsUptoRow : OpenClaim := { program := "ytbcjepkfjbibfaagreat", sum := "9e35483460c06c1c6835f7c27f7f4492f673100756f40b2656082235b050c4bb", func := "topiary/topiarylaw09.FmFinds", spec := "fmFinds", unfollowed := true, recurses := true, apart := false, narrowed := true }
def FmFindsUptoSaid : Prop := fmFindsUptoRow.holds Tryz.pinned (OpenSpec.upto fmFindsSpec)

/-- 'topiarylaw09.FmWhole', WHERE WHAT IT READS IS OF BULK AT MOST 1048576: true; the input reads as it did. -/
def fmWholeUptoRow : OpenClaim := { program := "ytbcjepkfjbibfaagreat", sum := "9e35483460c06c1c6835f7c27f7f4492f673100756f40b2656082235b050c4bb", func := "topiary/topiarylaw09.FmWhole", spec := "fmWhole", unfollowed := true, recurses := true, apart := false, narrowed := true }
def FmWholeUptoSaid : Prop := fmWholeUptoRow.holds Tryz.pinned (OpenSpec.upto fmWholeSpec)

/-- 'topiarylaw09.FmLoads', WHERE WHAT IT READS IS OF BULK AT MOST 1048576: true; the input reads as it did. -/
def fmLoadsUptoRow : OpenClaim := { program := "ytbcjepkfjbibfaagreat", sum := "9e35483460c06c1c6835f7c27f7f4492f673100756f40b2656082235b050c4bb", func := "topiary/topiarylaw09.FmLoads", spec := "fmLoads", unfollowed := true, recurses := true, apart := false, narrowed := true }
def FmLoadsUptoSaid : Prop := fmLoadsUptoRow.holds Tryz.pinned (OpenSpec.upto fmLoadsSpec)

/-- 'topiarylaw09.FmAny', WHERE WHAT IT READS IS OF BULK AT MOST 1048576: true; the input reads as it did. -/
def fmAnyUptoRow : OpenClaim := { program := "ytbcjepkfjbibfaagreat", sum := "9e35483460c06c1c6835f7c27f7f4492f673100756f40b2656082235b050c4bb", func := "topiary/topiarylaw09.FmAny", spec := "fmAny", unfollowed := true, recurses := true, apart := false, narrowed := true }
def FmAnyUptoSaid : Prop := fmAnyUptoRow.holds Tryz.pinned (OpenSpec.upto fmAnySpec)

/-- 'topiarylaw09.FmGrows', WHERE WHAT IT READS IS OF BULK AT MOST 1048576: true; the input reads as it did. -/
def fmGrowsUptoRow : OpenClaim := { program := "ytbcjepkfjbibfaagreat", sum := "9e35483460c06c1c6835f7c27f7f4492f673100756f40b2656082235b050c4bb", func := "topiary/topiarylaw09.FmGrows", spec := "fmGrows", unfollowed := true, recurses := true, apart := false, narrowed := true }
def FmGrowsUptoSaid : Prop := fmGrowsUptoRow.holds Tryz.pinned (OpenSpec.upto fmGrowsSpec)

end Rows
end Go.Proofs.YtbcjepkfjbibfaaGreat
