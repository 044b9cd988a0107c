/- Bits behind bits: append of a slice of bits onto one of the call's own. -/
import Derived.Test.YtfhlcclbjagdmaaQ
import Derived.Laws.AppendOwnNone
namespace Go.Proofs.Ytfhlcclbjagdmaa
open Go.RowKit
open M

/-- The slice with the bits l, n of them: a nil one has no room. -/
def SliceOf (w : World) (A : Option Addr) (n c : Nat) (l : List Bool) : Prop := l.length = n ∧ n ≤ c ∧ c ≤ maxLen ∧ BoolsAt w A l ∧ (A = none → n = 0 ∧ c = 0)

theorem slice_in {H : Type} {enc : TypeId × Value → H} {W : World} {a0 : Option Addr} {len cap : Nat} {x : DataW H} {pl : List MemPlace}
    (h : DataW.Trod enc Try.prog W 0 (fun _ => true) true 22 (.slice a0 len cap) x pl) : ∃ l : List Bool, SliceOf W a0 len cap l := by
  obtain ⟨l, h1, h2, h3, h4⟩ := bools_in h
  refine ⟨l, h1, h2, h3, h4, ?_⟩
  rintro rfl
  obtain ⟨fuel, hf⟩ := h
  rcases Deep.open_bools Try.underlying22 Try.underlying4 cells4 hf with ⟨hcs, _⟩ | ⟨a, l, c, B, hcs, _⟩
  · simp [Value.cells] at hcs
    exact hcs
  · simp [Value.cells] at hcs

theorem SliceOf.kept {w w' : World} {A : Option Addr} {n c : Nat} {l : List Bool} (h : SliceOf w A n c l) (hb : Below w.heap.size w w') : SliceOf w' A n c l :=
  ⟨h.1, h.2.1, h.2.2.1, h.2.2.2.1.kept hb, h.2.2.2.2⟩

theorem SliceOf.take {w : World} {A : Option Addr} {n c : Nat} {l : List Bool} (h : SliceOf w A n c l) (k : Nat) : SliceOf w A (min n k) c (l.take k) := by
  obtain ⟨h1, h2, h3, h4, h5⟩ := h
  exact ⟨by simp [h1, Nat.min_comm], by omega, h3, h4.take k, fun e => by have := h5 e; omega⟩

theorem BoolsAt.kp {X : Nat → Prop} {w w' : World} {a : Option Addr} {l : List Bool} (h : BoolsAt w a l) (hb : Kp X w w') (hx : ∀ b o, a = some ⟨b, o, none⟩ → ¬ X b) : BoolsAt w' a l := by
  rcases h with h | ⟨b, off, h1, h2, h3⟩
  · exact .inl h
  · refine .inr ⟨b, off, h1, Nat.lt_of_lt_of_le h2 hb.size, fun j hj => ?_⟩
    rw [hb.cell (p := ⟨b, off + j, none⟩) h2 (hx b off h1)]
    exact h3 j hj

theorem wpList_append_bools {w : World} {ops : Array Oper} {rest : List Oper} {o : Oper} {a : Act} {Q : Exit → Act → World → Prop} (hgd : o.guard = none) (s x : Operand)
    (ho : o.op = .call { callee := .builtin .append, args := #[s, x], argTypes := #[22, 22] }) (base : Nat) (v : Value) (n : Nat) (xs : List Value) (hs : a.eval s = v) (hown : w.ownsRow base 4 1 v n xs)
    (A : Option Addr) (m c : Nat) (l : List Bool) (hx : a.eval x = .slice A m c) (hl : SliceOf w A m c l) (h63 : n + m ≤ 1000000000) (hbase : base ≤ w.heap.size)
    (h : ∀ v' w', w'.ownsRow base 4 1 v' (n + m) (xs ++ l.map Value.bool) → w.grownBy w' v.ownBlock → (v'.ownBlock = v.ownBlock ∨ v'.ownBlock = some w.heap.size) → wpList Try.prog ops Q rest (a.put o.dst v') w') :
    wpList Try.prog ops Q (o :: rest) a w := by
  obtain ⟨i0, hi, hz0, hz1, hz2⟩ := info_parts info4
  obtain ⟨h1, h2, h3, h4, h5⟩ := hl
  cases A with
  | none =>
    obtain ⟨rfl, rfl⟩ := h5 rfl
    obtain rfl : l = [] := List.eq_nil_of_length_eq_zero h1
    refine wpList_append_own_none hgd s x 22 ho base 4 i0 1 Try.underlying22 hi v n xs hs hown hx (h v w (by simpa using hown) ⟨rfl, rfl, rfl, Nat.le_refl _, fun _ _ _ => rfl⟩ (.inl rfl))
  | some ad =>
    refine wpList_append_own_at w hgd s x 22 ho base 4 i0 (.bool false) 1 1 Try.underlying22 hi hz0 hz1 hz2 rfl (by omega) v n xs hs hown ad m c (l.map Value.bool) hx (by simp [h1]) ?_ ?_ (by unfold maxLen; omega) (by omega) hbase (fun v' w' k1 k2 _ k4 => h v' w' k1 k2 k4)
    · intro j u hu
      rcases h4 with rfl | ⟨b, off, e, -, hc⟩
      · simp at hu
      · obtain rfl : ad = ⟨b, off, none⟩ := by simpa using e
        obtain ⟨hj, hju⟩ := List.getElem?_eq_some_iff.1 hu
        simp only [List.length_map] at hj
        have := hc j hj
        have ea : (⟨b, off, none⟩ : Addr).add j = ⟨b, off + j, none⟩ := by
          simp only [Addr.add]; split
          · rename_i h; simp_all
          · rfl
        rw [ea, this, ← hju]
        simp [List.getD_eq_getElem?_getD, hj]
    · intro u hu
      obtain ⟨k, -, rfl⟩ := List.mem_map.1 hu
      rfl

/-- A slice of the call's own: the slice that it is. -/
theorem slice_of_own {w : World} {base : Nat} {v : Value} {l : List Bool} (h : w.ownsRow base 4 1 v l.length (l.map Value.bool)) : ∃ a cap, v = .slice a l.length cap ∧ SliceOf w a l.length cap l := by
  have h' := h
  obtain ⟨h1, h2⟩ := h
  rcases h2 with ⟨rfl, hn⟩ | ⟨g, cap, cur, rfl, hg, hh, hc1, hc2, hc3, hc4⟩
  · have hl := List.eq_nil_of_length_eq_zero hn
    subst hl
    exact ⟨none, 0, rfl, rfl, Nat.le_refl _, by unfold maxLen; omega, .inl rfl, fun _ => ⟨rfl, rfl⟩⟩
  · refine ⟨_, cap, rfl, rfl, hc1, hc2, .inr ⟨g, 0, rfl, (World.ownsRow.lt h' g rfl).2, fun j hj => ?_⟩, fun e => by simp at e⟩
    rw [Nat.zero_add, World.ownsRow.cellAt h' j (by omega)]
    simp [List.getD_eq_getElem?_getD, hj]

end Go.Proofs.Ytfhlcclbjagdmaa
