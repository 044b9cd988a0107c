/-
  No cell of these rows narrows 'for every input' (looked for: loops, veiled, ifaces, maps, wideKeys, modest, calm, conditions, laid).
  DERIVED. THE GIVEN ROWS OF THIS SEAT. 6 by the template 'for every input the law returns true; each argument reads behind the call as it read before'; 0 by the template 'total and deterministic' (their statements: YtilfjdmgeflagaaTotals.lean).
  GIVEN WITH THE SEED: the statements are not yours to turn. If you find one false, say at which input.
  Laid BY PROGRAM, IN A SANDBOX (cutbox-rows.mjs): the forced cells as the released guide's own fill.sh prints them over the translation c4007671d0059254… (all of the seat's roots in one cut). By AI agents, Wed Nov 11 2026. No macro, syntax, notation, axiom, sorry.
-/
import Derived.Test.YtilfjdmgeflagaaChecked
import GoSem.Claim
import GoSem.ClaimJoined
import GoSem.ClaimMapViews
import Derived.JoinedTies
import Derived.KernelRfl
namespace Go.Proofs.Ytilfjdmgeflagaa
/- THE CELL 'sum', in the pinned program and in every row, IS THE sha256 OF THE DUMP (.gsa) THAT YtilfjdmgeflagaaProg.lean LOADS. Nothing in Lean hashes anything: it is a label: what it is worth is what the hold of that sum in a sandbox is worth. -/
noncomputable def Try.pinned : Pinned := { name := "ytilfjdmgeflagaa", sum := "c4007671d00592549796d0e66b0a0c02e83c7e0f10b546c3f4622ac83077bca8", checked := Try.checked }
namespace Rows
def none {H : Type} : Left H := { results := [], args := [] }

/-- 'topiarylaw02.IntsRows': WHATEVER THE INPUT: true; the input reads as it did. -/
def intsRowsSpec : ChangeSpec := { name := "intsRows", fn := fun _ => fun
  | [d1, d2, d3] => { results := [.lit (.bool true)], args := [d1, d2, d3] }
  | _ => none }
def intsRowsRow : OpenClaim := { program := "ytilfjdmgeflagaa", sum := "c4007671d00592549796d0e66b0a0c02e83c7e0f10b546c3f4622ac83077bca8", func := "topiary/topiarylaw02.IntsRows", spec := "intsRows", unfollowed := true, recurses := true, apart := false }
def IntsRowsSaid : Prop := intsRowsRow.holds Try.pinned (OpenSpec.ofChange intsRowsSpec)

/-- ITS FALSE NEIGHBOUR: 'it returns false'. Refute it at one input. -/
def intsRowsWrong : ChangeSpec := { name := "intsRows", fn := fun _ => fun
  | [d1, d2, d3] => { results := [.lit (.bool false)], args := [d1, d2, d3] }
  | _ => none }
def IntsRowsWrongFalsely : Prop := intsRowsRow.holds Try.pinned (OpenSpec.ofChange intsRowsWrong)

/-- 'topiarylaw02.IntsReads': WHATEVER THE INPUT: true; the input reads as it did. -/
def intsReadsSpec : ChangeSpec := { name := "intsReads", fn := fun _ => fun
  | [d1, d2, d3] => { results := [.lit (.bool true)], args := [d1, d2, d3] }
  | _ => none }
def intsReadsRow : OpenClaim := { program := "ytilfjdmgeflagaa", sum := "c4007671d00592549796d0e66b0a0c02e83c7e0f10b546c3f4622ac83077bca8", func := "topiary/topiarylaw02.IntsReads", spec := "intsReads", unfollowed := true, recurses := true, apart := false }
def IntsReadsSaid : Prop := intsReadsRow.holds Try.pinned (OpenSpec.ofChange intsReadsSpec)

/-- ITS FALSE NEIGHBOUR: 'it returns false'. Refute it at one input. -/
def intsReadsWrong : ChangeSpec := { name := "intsReads", fn := fun _ => fun
  | [d1, d2, d3] => { results := [.lit (.bool false)], args := [d1, d2, d3] }
  | _ => none }
def IntsReadsWrongFalsely : Prop := intsReadsRow.holds Try.pinned (OpenSpec.ofChange intsReadsWrong)

/-- 'topiarylaw02.IntsTight': WHATEVER THE INPUT: true; the input reads as it did. -/
def intsTightSpec : ChangeSpec := { name := "intsTight", fn := fun _ => fun
  | [d] => { results := [.lit (.bool true)], args := [d] }
  | _ => none }
def intsTightRow : OpenClaim := { program := "ytilfjdmgeflagaa", sum := "c4007671d00592549796d0e66b0a0c02e83c7e0f10b546c3f4622ac83077bca8", func := "topiary/topiarylaw02.IntsTight", spec := "intsTight", unfollowed := true, recurses := true, apart := false }
def IntsTightSaid : Prop := intsTightRow.holds Try.pinned (OpenSpec.ofChange intsTightSpec)

/-- ITS FALSE NEIGHBOUR: 'it returns false'. Refute it at one input. -/
def intsTightWrong : ChangeSpec := { name := "intsTight", fn := fun _ => fun
  | [d] => { results := [.lit (.bool false)], args := [d] }
  | _ => none }
def IntsTightWrongFalsely : Prop := intsTightRow.holds Try.pinned (OpenSpec.ofChange intsTightWrong)

/-- 'topiarylaw02.IntsFind': WHATEVER THE INPUT: true; the input reads as it did. -/
def intsFindSpec : ChangeSpec := { name := "intsFind", fn := fun _ => fun
  | [d1, d2] => { results := [.lit (.bool true)], args := [d1, d2] }
  | _ => none }
def intsFindRow : OpenClaim := { program := "ytilfjdmgeflagaa", sum := "c4007671d00592549796d0e66b0a0c02e83c7e0f10b546c3f4622ac83077bca8", func := "topiary/topiarylaw02.IntsFind", spec := "intsFind", unfollowed := true, recurses := true, apart := false }
def IntsFindSaid : Prop := intsFindRow.holds Try.pinned (OpenSpec.ofChange intsFindSpec)

/-- ITS FALSE NEIGHBOUR: 'it returns false'. Refute it at one input. -/
def intsFindWrong : ChangeSpec := { name := "intsFind", fn := fun _ => fun
  | [d1, d2] => { results := [.lit (.bool false)], args := [d1, d2] }
  | _ => none }
def IntsFindWrongFalsely : Prop := intsFindRow.holds Try.pinned (OpenSpec.ofChange intsFindWrong)

/-- 'topiarylaw02.IntsSame': WHATEVER THE INPUT: true; the input reads as it did. -/
def intsSameSpec : ChangeSpec := { name := "intsSame", fn := fun _ => fun
  | [d1, d2, d3] => { results := [.lit (.bool true)], args := [d1, d2, d3] }
  | _ => none }
def intsSameRow : OpenClaim := { program := "ytilfjdmgeflagaa", sum := "c4007671d00592549796d0e66b0a0c02e83c7e0f10b546c3f4622ac83077bca8", func := "topiary/topiarylaw02.IntsSame", spec := "intsSame", unfollowed := true, recurses := true, apart := false }
def IntsSameSaid : Prop := intsSameRow.holds Try.pinned (OpenSpec.ofChange intsSameSpec)

/-- ITS FALSE NEIGHBOUR: 'it returns false'. Refute it at one input. -/
def intsSameWrong : ChangeSpec := { name := "intsSame", fn := fun _ => fun
  | [d1, d2, d3] => { results := [.lit (.bool false)], args := [d1, d2, d3] }
  | _ => none }
def IntsSameWrongFalsely : Prop := intsSameRow.holds Try.pinned (OpenSpec.ofChange intsSameWrong)

/-- 'topiarylaw02.IntsWide': WHATEVER THE INPUT: true; the input reads as it did. -/
def intsWideSpec : ChangeSpec := { name := "intsWide", fn := fun _ => fun
  | [d1, d2] => { results := [.lit (.bool true)], args := [d1, d2] }
  | _ => none }
def intsWideRow : OpenClaim := { program := "ytilfjdmgeflagaa", sum := "c4007671d00592549796d0e66b0a0c02e83c7e0f10b546c3f4622ac83077bca8", func := "topiary/topiarylaw02.IntsWide", spec := "intsWide", unfollowed := true, recurses := true, apart := false }
def IntsWideSaid : Prop := intsWideRow.holds Try.pinned (OpenSpec.ofChange intsWideSpec)

/-- ITS FALSE NEIGHBOUR: 'it returns false'. Refute it at one input. -/
def intsWideWrong : ChangeSpec := { name := "intsWide", fn := fun _ => fun
  | [d1, d2] => { results := [.lit (.bool false)], args := [d1, d2] }
  | _ => none }
def IntsWideWrongFalsely : Prop := intsWideRow.holds Try.pinned (OpenSpec.ofChange intsWideWrong)

/- THE SECOND FORM. 'bulk': how many values and letters a reading holds, each counted each time it is reached (what is shared counts as often as it is met; a slice's spare places count too). A statement '..UptoSaid' is the law's where the arguments, and the package variables that the reading takes, are together of bulk at most 1048576: NARROWER than '..Said'. Prove '..Said' where nothing that the law and all that it calls make is longer than what came in: it says more and counts as full. Else prove '..UptoSaid'. A law counts once. -/
mutual
def uptoBulk {H : Type} : DataW H → Nat
  | .lit (.string bytes) => bytes.length + 1
  | .lit _ => 1
  | .nil => 1
  | .ptr d => uptoBulk d + 1
  | .slice elems spare => uptoBulkAll elems + uptoBulkAll spare + 1
  | .agg parts => uptoBulkAll parts + 1
  | .iface _ d => uptoBulk d + 1
  | .map entries => uptoBulkEntries entries + 1
  | .held _ => 1
def uptoBulkAll {H : Type} : List (DataW H) → Nat
  | [] => 0
  | d :: r => uptoBulk d + uptoBulkAll r
def uptoBulkEntries {H : Type} : List (Lit × DataW H) → Nat
  | [] => 0
  | x :: r => uptoBulkEntry x + uptoBulkEntries r
def uptoBulkEntry {H : Type} : Lit × DataW H → Nat
  | (.string bytes, d) => bytes.length + uptoBulk d + 1
  | (_, d) => uptoBulk d + 1
 end
def uptoSmall : (H : Type) → List (DataW H) → Bool := fun _ ds => decide (uptoBulkAll ds ≤ 1048576)
def OpenSpec.upto (s : _root_.Go.ChangeSpec) : _root_.Go.OpenSpec := { _root_.Go.OpenSpec.ofChange s with cond := some uptoSmall }

/-- 'topiarylaw02.IntsRows', WHERE WHAT IT READS IS OF BULK AT MOST 1048576: true; the input reads as it did. -/
def intsRowsUptoRow : OpenClaim := { program := "ytilfjdmgeflagaa", sum := "c4007671d00592549796d0e66b0a0c02e83c7e0f10b546c3f4622ac83077bca8", func := "topiary/topiarylaw02.IntsRows", spec := "intsRows", unfollowed := true, recurses := true, apart := false, narrowed := true }
def IntsRowsUptoSaid : Prop := intsRowsUptoRow.holds Try.pinned (OpenSpec.upto intsRowsSpec)

/-- 'topiarylaw02.IntsReads', WHERE WHAT IT READS IS OF BULK AT MOST 1048576: true; the input reads as it did. -/
def intsReadsUptoRow : OpenClaim := { program := "ytilfjdmgeflagaa", sum := "c4007671d00592549796d0e66b0a0c02e83c7e0f10b546c3f4622ac83077bca8", func := "topiary/topiarylaw02.IntsReads", spec := "intsReads", unfollowed := true, recurses := true, apart := false, narrowed := true }
def IntsReadsUptoSaid : Prop := intsReadsUptoRow.holds Try.pinned (OpenSpec.upto intsReadsSpec)

/-- 'topiarylaw02.IntsTight', WHERE WHAT IT READS IS OF BULK AT MOST 1048576: true; the input reads as it did. -/
def intsTightUptoRow : OpenClaim := { program := "ytilfjdmgeflagaa", sum := "c4007671d00592549796d0e66b0a0c02e83c7e0f10b546c3f4622ac83077bca8", func := "topiary/topiarylaw02.IntsTight", spec := "intsTight", unfollowed := true, recurses := true, apart := false, narrowed := true }
def IntsTightUptoSaid : Prop := intsTightUptoRow.holds Try.pinned (OpenSpec.upto intsTightSpec)

/-- 'topiarylaw02.IntsFind', WHERE WHAT IT READS IS OF BULK AT MOST 1048576: true; the input reads as it did. -/
def intsFindUptoRow : OpenClaim := { program := "ytilfjdmgeflagaa", sum := "c4007671d00592549796d0e66b0a0c02e83c7e0f10b546c3f4622ac83077bca8", func := "topiary/topiarylaw02.IntsFind", spec := "intsFind", unfollowed := true, recurses := true, apart := false, narrowed := true }
def IntsFindUptoSaid : Prop := intsFindUptoRow.holds Try.pinned (OpenSpec.upto intsFindSpec)

/-- 'topiarylaw02.IntsSame', WHERE WHAT IT READS IS OF BULK AT MOST 1048576: true; the input reads as it did. -/
def intsSameUptoRow : OpenClaim := { program := "ytilfjdmgeflagaa", sum := "c4007671d00592549796d0e66b0a0c02e83c7e0f10b546c3f4622ac83077bca8", func := "topiary/topiarylaw02.IntsSame", spec := "intsSame", unfollowed := true, recurses := true, apart := false, narrowed := true }
def IntsSameUptoSaid : Prop := intsSameUptoRow.holds Try.pinned (OpenSpec.upto intsSameSpec)

/-- 'topiarylaw02.IntsWide', WHERE WHAT IT READS IS OF BULK AT MOST 1048576: true; the input reads as it did. -/
def intsWideUptoRow : OpenClaim := { program := "ytilfjdmgeflagaa", sum := "c4007671d00592549796d0e66b0a0c02e83c7e0f10b546c3f4622ac83077bca8", func := "topiary/topiarylaw02.IntsWide", spec := "intsWide", unfollowed := true, recurses := true, apart := false, narrowed := true }
def IntsWideUptoSaid : Prop := intsWideUptoRow.holds Try.pinned (OpenSpec.upto intsWideSpec)

end Rows
end Go.Proofs.Ytilfjdmgeflagaa
