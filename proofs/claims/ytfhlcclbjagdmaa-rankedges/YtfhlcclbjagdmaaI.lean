/- The contract of List. -/
import Derived.Test.YtfhlcclbjagdmaaH
import Derived.Deep.RegionLaw
import Derived.BigRegion
namespace Go.Proofs.Ytfhlcclbjagdmaa
open Go.RowKit
open M

theorem info4 : (Try.prog.info? 4).map (fun i => (i.zero, i.size, i.bytes)) = some (some (.bool false), 1, 1) := by kernel_rfl

/-- What holds while a row is listed: bb the box of the row, lb that of the list. -/
def ListI (w : World) (bb lb : Nat) (s : Value) (l : List Bool) (p : Nat) (wr : World) : Prop :=
  ∃ v, wr.cell? ⟨lb, 0, none⟩ = some v ∧ wr.frozen? ⟨lb, 0, none⟩ = false ∧ wr.ownsRow w.heap.size 4 1 v p ((l.take p).map Value.bool) ∧ v.ownBlock ≠ some lb ∧ v.ownBlock ≠ some bb ∧
    wr.cell? ⟨bb, 1, none⟩ = some s ∧ lb < wr.heap.size ∧ bb < wr.heap.size ∧ Below w.heap.size w wr

theorem list_next (w wr w1 : World) (bb lb gg p cap : Nat) (s v : Value) (l : List Bool) (o : Obj) (b b' : Bool) (hbb : w.heap.size ≤ bb) (hlb : w.heap.size ≤ lb) (hne : bb ≠ lb)
    (r3 : wr.ownsRow w.heap.size 4 1 v p ((l.take p).map Value.bool)) (r4 : v.ownBlock ≠ some lb) (r5 : v.ownBlock ≠ some bb) (r6 : wr.cell? ⟨bb, 1, none⟩ = some s) (r7 : lb < wr.heap.size) (r8 : bb < wr.heap.size) (r9 : Below w.heap.size w wr)
    (hown : w1.ownsRow w.heap.size 4 1 (.slice (some ⟨gg, 0, none⟩) (p + 1) cap) (p + 1) ((l.take p).map Value.bool ++ [.bool b])) (hgrow : (wr.alloc o).drew.grownBy w1 v.ownBlock) (hat : v.ownBlock = some gg ∨ gg = wr.heap.size + 1)
    (f1 : w1.cell? ⟨lb, 0, none⟩ = some v) (f2 : w1.frozen? ⟨lb, 0, none⟩ = false) (hb : b = b') (ht : l.take (p + 1) = l.take p ++ [b']) :
    ListI w bb lb s l (p + 1) (w1.setCell ⟨lb, 0, none⟩ (.slice (some ⟨gg, 0, none⟩) (p + 1) cap)) := by
  subst hb
  have hgs := hgrow.size
  simp only [World.size_drew, World.size_alloc] at hgs
  have hgl : gg ≠ lb := by rintro rfl; rcases hat with e | e; exact r4 e; omega
  have hgb : gg ≠ bb := by rintro rfl; rcases hat with e | e; exact r5 e; omega
  refine ⟨.slice (some ⟨gg, 0, none⟩) (p + 1) cap, ?_, ?_, ?_, ?_, ?_, ?_, ?_, ?_, ?_⟩
  · rw [World.cell?_setCell_same _ _ _ f1]
  · simpa using f2
  · rw [ht, List.map_append]
    exact hown.kept (grown_setCell w1 ⟨lb, 0, none⟩ _) (.inr (by simpa [Value.ownBlock] using hgl))
  · simpa [Value.ownBlock] using hgl
  · simpa [Value.ownBlock] using hgb
  · rw [World.cell?_setCell_other _ _ _ _ (by simp), hgrow.cell_far _ (by simp; omega) (Ne.symm r5)]
    simp only [World.cell?_drew]
    rw [cell_old _ _ _ _ r8]; exact r6
  · simp; omega
  · simp; omega
  · refine Below.setCell ?_ hlb _
    refine ((r9.alloc r9.size o).drew).grown hgrow ?_ ?_
    · have := r9.size; simp; omega
    · intro k hk; exact (r3.lt k hk).1

/-- A list's slice, out of the row that is owned. -/
theorem bools_of_own {w : World} {base : Nat} {v : Value} {l : List Bool} (h : w.ownsRow base 4 1 v l.length (l.map Value.bool)) : ∃ a cap, v = .slice a l.length cap ∧ BoolsAt w a l := by
  have h' := h
  obtain ⟨h1, h2⟩ := h
  rcases h2 with ⟨rfl, hn⟩ | ⟨g, cap, cur, rfl, hg, hh, hc1, hc2, hc3, hc4⟩
  · exact ⟨none, 0, by rw [hn], .inl (List.eq_nil_of_length_eq_zero hn)⟩
  · refine ⟨_, cap, rfl, .inr ⟨g, 0, rfl, (World.ownsRow.lt h' g rfl).2, fun j hj => ?_⟩⟩
    rw [Nat.zero_add, World.ownsRow.cellAt h' j (by omega)]
    simp [List.getD_eq_getElem?_getD, hj]

end Go.Proofs.Ytfhlcclbjagdmaa
