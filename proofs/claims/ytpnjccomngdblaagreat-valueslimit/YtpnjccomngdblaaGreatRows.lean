/-
  No cell of these rows narrows 'for every input' (looked for: loops, veiled, ifaces, maps, wideKeys, modest, calm, conditions, laid).
  DERIVED. THE GIVEN ROWS OF THIS SEAT. 7 by the template 'for every input the law returns true; each argument reads behind the call as it read before'; 0 by the template 'total and deterministic' (their statements: YtpnjccomngdblaaGreatTotals.lean).
  GIVEN WITH THE SEED: the statements are not yours to turn. If you find one false, say at which input.
  Laid BY PROGRAM, IN A SANDBOX (cutbox-rows.mjs): the forced cells as the released guide's own fill.sh prints them over the translation b8251345a67bcfc1… (all of the seat's roots in one cut). By AI agents, Wed Nov 11 2026. No macro, syntax, notation, axiom, sorry.
-/
import Derived.Test.YtpnjccomngdblaaGreatChecked
import GoSem.Claim
import GoSem.ClaimJoined
import GoSem.ClaimMapViews
import Derived.JoinedTies
import Derived.KernelRfl
namespace Go.Proofs.YtpnjccomngdblaaGreat
/- THE CELL 'sum', in the pinned program and in every row, IS THE sha256 OF THE DUMP (.gsa) THAT YtpnjccomngdblaaGreatProg.lean LOADS. Nothing in Lean hashes anything: it is a label: what it is worth is what the hold of that sum in a sandbox is worth. -/
noncomputable def Tryz.pinned : Pinned := { name := "ytpnjccomngdblaagreat", sum := "b8251345a67bcfc17d3ea589585b2000e05b7617e64cd2ecf33adff1a551f0ec", checked := Tryz.checked }
namespace Rows
def none {H : Type} : Left H := { results := [], args := [] }

/-- 'topiarylaw10.ValuesTell': WHATEVER THE INPUT: true; the input reads as it did. -/
def valuesTellSpec : ChangeSpec := { name := "valuesTell", fn := fun _ => fun
  | [d1, d2] => { results := [.lit (.bool true)], args := [d1, d2] }
  | _ => none }
def valuesTellRow : OpenClaim := { program := "ytpnjccomngdblaagreat", sum := "b8251345a67bcfc17d3ea589585b2000e05b7617e64cd2ecf33adff1a551f0ec", func := "topiary/topiarylaw10.ValuesTell", spec := "valuesTell", unfollowed := true, recurses := true, apart := false }
def ValuesTellSaid : Prop := valuesTellRow.holds Tryz.pinned (OpenSpec.ofChange valuesTellSpec)

/-- ITS FALSE NEIGHBOUR: 'it returns false'. Refute it at one input. -/
def valuesTellWrong : ChangeSpec := { name := "valuesTell", fn := fun _ => fun
  | [d1, d2] => { results := [.lit (.bool false)], args := [d1, d2] }
  | _ => none }
def ValuesTellWrongFalsely : Prop := valuesTellRow.holds Tryz.pinned (OpenSpec.ofChange valuesTellWrong)

/-- 'topiarylaw10.ValuesFind': WHATEVER THE INPUT: true; the input reads as it did. -/
def valuesFindSpec : ChangeSpec := { name := "valuesFind", fn := fun _ => fun
  | [d1, d2] => { results := [.lit (.bool true)], args := [d1, d2] }
  | _ => none }
def valuesFindRow : OpenClaim := { program := "ytpnjccomngdblaagreat", sum := "b8251345a67bcfc17d3ea589585b2000e05b7617e64cd2ecf33adff1a551f0ec", func := "topiary/topiarylaw10.ValuesFind", spec := "valuesFind", unfollowed := true, recurses := true, apart := false }
def ValuesFindSaid : Prop := valuesFindRow.holds Tryz.pinned (OpenSpec.ofChange valuesFindSpec)

/-- ITS FALSE NEIGHBOUR: 'it returns false'. Refute it at one input. -/
def valuesFindWrong : ChangeSpec := { name := "valuesFind", fn := fun _ => fun
  | [d1, d2] => { results := [.lit (.bool false)], args := [d1, d2] }
  | _ => none }
def ValuesFindWrongFalsely : Prop := valuesFindRow.holds Tryz.pinned (OpenSpec.ofChange valuesFindWrong)

/-- 'topiarylaw10.ValuesLoad': WHATEVER THE INPUT: true; the input reads as it did. -/
def valuesLoadSpec : ChangeSpec := { name := "valuesLoad", fn := fun _ => fun
  | [d1, d2, d3] => { results := [.lit (.bool true)], args := [d1, d2, d3] }
  | _ => none }
def valuesLoadRow : OpenClaim := { program := "ytpnjccomngdblaagreat", sum := "b8251345a67bcfc17d3ea589585b2000e05b7617e64cd2ecf33adff1a551f0ec", func := "topiary/topiarylaw10.ValuesLoad", spec := "valuesLoad", unfollowed := true, recurses := true, apart := false }
def ValuesLoadSaid : Prop := valuesLoadRow.holds Tryz.pinned (OpenSpec.ofChange valuesLoadSpec)

/-- ITS FALSE NEIGHBOUR: 'it returns false'. Refute it at one input. -/
def valuesLoadWrong : ChangeSpec := { name := "valuesLoad", fn := fun _ => fun
  | [d1, d2, d3] => { results := [.lit (.bool false)], args := [d1, d2, d3] }
  | _ => none }
def ValuesLoadWrongFalsely : Prop := valuesLoadRow.holds Tryz.pinned (OpenSpec.ofChange valuesLoadWrong)

/-- 'topiarylaw10.ValuesOwn': WHATEVER THE INPUT: true; the input reads as it did. -/
def valuesOwnSpec : ChangeSpec := { name := "valuesOwn", fn := fun _ => fun
  | [d1, d2] => { results := [.lit (.bool true)], args := [d1, d2] }
  | _ => none }
def valuesOwnRow : OpenClaim := { program := "ytpnjccomngdblaagreat", sum := "b8251345a67bcfc17d3ea589585b2000e05b7617e64cd2ecf33adff1a551f0ec", func := "topiary/topiarylaw10.ValuesOwn", spec := "valuesOwn", unfollowed := true, recurses := true, apart := false }
def ValuesOwnSaid : Prop := valuesOwnRow.holds Tryz.pinned (OpenSpec.ofChange valuesOwnSpec)

/-- ITS FALSE NEIGHBOUR: 'it returns false'. Refute it at one input. -/
def valuesOwnWrong : ChangeSpec := { name := "valuesOwn", fn := fun _ => fun
  | [d1, d2] => { results := [.lit (.bool false)], args := [d1, d2] }
  | _ => none }
def ValuesOwnWrongFalsely : Prop := valuesOwnRow.holds Tryz.pinned (OpenSpec.ofChange valuesOwnWrong)

/-- 'topiarylaw10.ValuesLimit': WHATEVER THE INPUT: true; the input reads as it did. -/
def valuesLimitSpec : ChangeSpec := { name := "valuesLimit", fn := fun _ => fun
  | [d] => { results := [.lit (.bool true)], args := [d] }
  | _ => none }
def valuesLimitRow : OpenClaim := { program := "ytpnjccomngdblaagreat", sum := "b8251345a67bcfc17d3ea589585b2000e05b7617e64cd2ecf33adff1a551f0ec", func := "topiary/topiarylaw10.ValuesLimit", spec := "valuesLimit", unfollowed := true, recurses := true, apart := false }
def ValuesLimitSaid : Prop := valuesLimitRow.holds Tryz.pinned (OpenSpec.ofChange valuesLimitSpec)

/-- ITS FALSE NEIGHBOUR: 'it returns false'. Refute it at one input. -/
def valuesLimitWrong : ChangeSpec := { name := "valuesLimit", fn := fun _ => fun
  | [d] => { results := [.lit (.bool false)], args := [d] }
  | _ => none }
def ValuesLimitWrongFalsely : Prop := valuesLimitRow.holds Tryz.pinned (OpenSpec.ofChange valuesLimitWrong)

/-- 'topiarylaw10.ValuesZero': WHATEVER THE INPUT: true; the input reads as it did. -/
def valuesZeroSpec : ChangeSpec := { name := "valuesZero", fn := fun _ => fun
  | [d1, d2] => { results := [.lit (.bool true)], args := [d1, d2] }
  | _ => none }
def valuesZeroRow : OpenClaim := { program := "ytpnjccomngdblaagreat", sum := "b8251345a67bcfc17d3ea589585b2000e05b7617e64cd2ecf33adff1a551f0ec", func := "topiary/topiarylaw10.ValuesZero", spec := "valuesZero", unfollowed := true, recurses := true, apart := false }
def ValuesZeroSaid : Prop := valuesZeroRow.holds Tryz.pinned (OpenSpec.ofChange valuesZeroSpec)

/-- ITS FALSE NEIGHBOUR: 'it returns false'. Refute it at one input. -/
def valuesZeroWrong : ChangeSpec := { name := "valuesZero", fn := fun _ => fun
  | [d1, d2] => { results := [.lit (.bool false)], args := [d1, d2] }
  | _ => none }
def ValuesZeroWrongFalsely : Prop := valuesZeroRow.holds Tryz.pinned (OpenSpec.ofChange valuesZeroWrong)

/-- 'topiarylaw10.ValuesJoins': WHATEVER THE INPUT: true; the input reads as it did. -/
def valuesJoinsSpec : ChangeSpec := { name := "valuesJoins", fn := fun _ => fun
  | [d1, d2, d3] => { results := [.lit (.bool true)], args := [d1, d2, d3] }
  | _ => none }
def valuesJoinsRow : OpenClaim := { program := "ytpnjccomngdblaagreat", sum := "b8251345a67bcfc17d3ea589585b2000e05b7617e64cd2ecf33adff1a551f0ec", func := "topiary/topiarylaw10.ValuesJoins", spec := "valuesJoins", unfollowed := true, recurses := true, apart := false }
def ValuesJoinsSaid : Prop := valuesJoinsRow.holds Tryz.pinned (OpenSpec.ofChange valuesJoinsSpec)

/-- ITS FALSE NEIGHBOUR: 'it returns false'. Refute it at one input. -/
def valuesJoinsWrong : ChangeSpec := { name := "valuesJoins", fn := fun _ => fun
  | [d1, d2, d3] => { results := [.lit (.bool false)], args := [d1, d2, d3] }
  | _ => none }
def ValuesJoinsWrongFalsely : Prop := valuesJoinsRow.holds Tryz.pinned (OpenSpec.ofChange valuesJoinsWrong)

/- THE SECOND FORM. 'bulk': how many values and letters a reading holds, each counted each time it is reached (what is shared counts as often as it is met; a slice's spare places count too). A statement '..UptoSaid' is the law's where the arguments, and the package variables that the reading takes, are together of bulk at most 1048576: NARROWER than '..Said'. Prove '..Said' where nothing that the law and all that it calls make is longer than what came in: it says more and counts as full. Else prove '..UptoSaid'. A law counts once. -/
mutual
def uptoBulk {H : Type} : DataW H → Nat
  | .lit (.string bytes) => bytes.length + 1
  | .lit _ => 1
  | .nil => 1
  | .ptr d => uptoBulk d + 1
  | .slice elems spare => uptoBulkAll elems + uptoBulkAll spare + 1
  | .agg parts => uptoBulkAll parts + 1
  | .iface _ d => uptoBulk d + 1
  | .map entries => uptoBulkEntries entries + 1
  | .held _ => 1
def uptoBulkAll {H : Type} : List (DataW H) → Nat
  | [] => 0
  | d :: r => uptoBulk d + uptoBulkAll r
def uptoBulkEntries {H : Type} : List (Lit × DataW H) → Nat
  | [] => 0
  | x :: r => uptoBulkEntry x + uptoBulkEntries r
def uptoBulkEntry {H : Type} : Lit × DataW H → Nat
  | (.string bytes, d) => bytes.length + uptoBulk d + 1
  | (_, d) => uptoBulk d + 1
 end
def uptoSmall : (H : Type) → List (DataW H) → Bool := fun _ ds => decide (uptoBulkAll ds ≤ 1048576)
def OpenSpec.upto (s : _root_.Go.ChangeSpec) : _root_.Go.OpenSpec := { _root_.Go.OpenSpec.ofChange s with cond := some uptoSmall }

/-- 'topiarylaw10.ValuesTell', WHERE WHAT IT READS IS OF BULK AT MOST 1048576: true; the input reads as it did. -/
def valuesTellUptoRow : OpenClaim := { program := "ytpnjccomngdblaagreat", sum := "b8251345a67bcfc17d3ea589585b2000e05b7617e64cd2ecf33adff1a551f0ec", func := "topiary/topiarylaw10.ValuesTell", spec := "valuesTell", unfollowed := true, recurses := true, apart := false, narrowed := true }
def ValuesTellUptoSaid : Prop := valuesTellUptoRow.holds Tryz.pinned (OpenSpec.upto valuesTellSpec)

/-- 'topiarylaw10.ValuesFind', WHERE WHAT IT READS IS OF BULK AT MOST 1048576: true; the input reads as it did. -/
def valuesFindUptoRow : OpenClaim := { program := "ytpnjccomngdblaagreat", sum := "b8251345a67bcfc17d3ea589585b2000e05b7617e64cd2ecf33adff1a551f0ec", func := "topiary/topiarylaw10.ValuesFind", spec := "valuesFind", unfollowed := true, recurses := true, apart := false, narrowed := true }
def ValuesFindUptoSaid : Prop := valuesFindUptoRow.holds Tryz.pinned (OpenSpec.upto valuesFindSpec)

/-- 'topiarylaw10.ValuesLoad', WHERE WHAT IT READS IS OF BULK AT MOST 1048576: true; the input reads as it did. -/
def valuesLoadUptoRow : OpenClaim := { program := "ytpnjccomngdblaagreat", sum := "b8251345a67bcfc17d3ea589585b2000e05b7617e64cd2ecf33adff1a551f0ec", func := "topiary/topiarylaw10.ValuesLoad", spec := "valuesLoad", unfollowed := true, recurses := true, apart := false, narrowed := true }
def ValuesLoadUptoSaid : Prop := valuesLoadUptoRow.holds Tryz.pinned (OpenSpec.upto valuesLoadSpec)

/-- 'topiarylaw10.ValuesOwn', WHERE WHAT IT READS IS OF BULK AT MOST 1048576: true; the input reads as it did. -/
def valuesOwnUptoRow : OpenClaim := { program := "ytpnjccomngdblaagreat", sum := "b8251345a67bcfc17d3ea589585b2000e05b7617e64cd2ecf33adff1a551f0ec", func := "topiary/topiarylaw10.ValuesOwn", spec := "valuesOwn", unfollowed := true, recurses := true, apart := false, narrowed := true }
def ValuesOwnUptoSaid : Prop := valuesOwnUptoRow.holds Tryz.pinned (OpenSpec.upto valuesOwnSpec)

/-- 'topiarylaw10.ValuesLimit', WHERE WHAT IT READS IS OF BULK AT MOST 1048576: true; the input reads as it did. -/
def valuesLimitUptoRow : OpenClaim := { program := "ytpnjccomngdblaagreat", sum := "b8251345a67bcfc17d3ea589585b2000e05b7617e64cd2ecf33adff1a551f0ec", func := "topiary/topiarylaw10.ValuesLimit", spec := "valuesLimit", unfollowed := true, recurses := true, apart := false, narrowed := true }
def ValuesLimitUptoSaid : Prop := valuesLimitUptoRow.holds Tryz.pinned (OpenSpec.upto valuesLimitSpec)

/-- 'topiarylaw10.ValuesZero', WHERE WHAT IT READS IS OF BULK AT MOST 1048576: true; the input reads as it did. -/
def valuesZeroUptoRow : OpenClaim := { program := "ytpnjccomngdblaagreat", sum := "b8251345a67bcfc17d3ea589585b2000e05b7617e64cd2ecf33adff1a551f0ec", func := "topiary/topiarylaw10.ValuesZero", spec := "valuesZero", unfollowed := true, recurses := true, apart := false, narrowed := true }
def ValuesZeroUptoSaid : Prop := valuesZeroUptoRow.holds Tryz.pinned (OpenSpec.upto valuesZeroSpec)

/-- 'topiarylaw10.ValuesJoins', WHERE WHAT IT READS IS OF BULK AT MOST 1048576: true; the input reads as it did. -/
def valuesJoinsUptoRow : OpenClaim := { program := "ytpnjccomngdblaagreat", sum := "b8251345a67bcfc17d3ea589585b2000e05b7617e64cd2ecf33adff1a551f0ec", func := "topiary/topiarylaw10.ValuesJoins", spec := "valuesJoins", unfollowed := true, recurses := true, apart := false, narrowed := true }
def ValuesJoinsUptoSaid : Prop := valuesJoinsUptoRow.holds Tryz.pinned (OpenSpec.upto valuesJoinsSpec)

end Rows
end Go.Proofs.YtpnjccomngdblaaGreat
