/- Builders in a map: what partsOf holds. -/
import Derived.Test.YtdidoecigkbffaaGreatMB
set_option maxRecDepth 100000
namespace Go.Proofs.YtdidoecigkbffaaGreat
open Go.RowKit
open S J M

set_option maxHeartbeats 1000000 in
theorem add_any (pb : Nat) (a0 : Option Addr) (m0 cap : Nat) (l : List Bool) (b : Bool) (w : World) (hB : BuildAt w pb (.slice a0 m0 cap) l) (hl : l.length + 1 ≤ 1000000000) :
    Calls Tryz.prog 39 #[.pointer (some ⟨pb, 0, none⟩), .bool b] w fun e w' => e = .returned (.int .i64 ((l.length + 1 : Nat) : Int)) ∧ PutPost w pb (.slice a0 m0 cap) (l ++ [b]) w' := by
  cases b
  · have hp := put_any pb a0 m0 cap l [false] 0 1 w hB rfl rfl (by omega) hl
    have HP := Lib.hid hp
    clear hp hB
    go_enter Tryz.func39, Tryz.ntmps39
    go_wp2_with fail
    refine HP.out.mono ?_
    rintro e w' ⟨rfl, hpost⟩
    obtain ⟨s', ⟨d1, d2, d3, d4, d5, d6⟩, -⟩ := id hpost
    have HQ := Lib.hid hpost
    clear d2 d3 d4 d5 d6 hpost
    go_wp2
    go_ret
    exact ⟨ret_int (by simp), HQ.out⟩
  · have hp := put_any pb a0 m0 cap l [true] 1 1 w hB rfl rfl (by omega) hl
    have HP := Lib.hid hp
    clear hp hB
    go_enter Tryz.func39, Tryz.ntmps39
    go_wp2_with fail
    refine HP.out.mono ?_
    rintro e w' ⟨rfl, hpost⟩
    obtain ⟨s', ⟨d1, d2, d3, d4, d5, d6⟩, -⟩ := id hpost
    have HQ := Lib.hid hpost
    clear d2 d3 d4 d5 d6 hpost
    go_wp2
    go_ret
    exact ⟨ret_int (by simp), HQ.out⟩


theorem BuildAt.kpX {X : Nat → Prop} {u u' : World} {pb : Nat} {s : Value} {l : List Bool} (h : BuildAt u pb s l) (hk : Kp X u u') (h1 : ¬ X pb) (h2 : ∀ k, s.ownBlock = some k → ¬ X k) : BuildAt u' pb s l := by
  obtain ⟨b1, b2, b3, b4, b5, b6⟩ := h
  have hl := World.block_lt_of_cell? u _ b1
  exact ⟨by rw [hk.cell (p := ⟨pb, 0, none⟩) hl h1]; exact b1, by rw [hk.cell (p := ⟨pb, 1, none⟩) hl h1]; exact b2, by rw [hk.frozen (p := ⟨pb, 0, none⟩) hl h1]; exact b3, by rw [hk.frozen (p := ⟨pb, 1, none⟩) hl h1]; exact b4, row_kp b5 hk h2, b6⟩

theorem BuildAt.blk {u : World} {pb : Nat} {s : Value} {l : List Bool} (h : BuildAt u pb s l) : pb < u.heap.size ∧ ∀ k, s.ownBlock = some k → k < u.heap.size := ⟨World.block_lt_of_cell? u _ h.1, fun k e => row_lt h.2.2.2.2.1 k e⟩

/-- Builders, each under its text, in a map at block mb. -/
structure BM (w : World) (mb N : Nat) (hs : List Bool → Bool) (B : List Bool → List Bool) (pb : List Bool → Nat) (sv : List Bool → Value) (u : World) : Prop where
  map : MapAt u mb N (fun p => if hs p then some (.pointer (some ⟨pb p, 0, none⟩)) else none)
  bld : ∀ p, hs p = true → BuildAt u (pb p) (sv p) (B p)
  non : ∀ p, hs p = false → B p = []
  pbi : ∀ p q, hs p = true → hs q = true → p ≠ q → pb p ≠ pb q
  svi : ∀ p q, hs p = true → hs q = true → p ≠ q → ∀ k, (sv p).ownBlock = some k → (sv q).ownBlock ≠ some k
  pbs : ∀ p q, hs p = true → hs q = true → (sv p).ownBlock ≠ some (pb q)
  pbm : ∀ p, hs p = true → pb p ≠ mb ∧ (sv p).ownBlock ≠ some mb
  lo : w.heap.size ≤ mb ∧ ∀ p, hs p = true → w.heap.size ≤ pb p ∧ ∀ k, (sv p).ownBlock = some k → w.heap.size ≤ k
  bel : Below w.heap.size w u

variable {w u u' : World} {mb N : Nat} {hs : List Bool → Bool} {B : List Bool → List Bool} {pb : List Bool → Nat} {sv : List Bool → Value}

/-- Blocks that are none of these may turn. -/
theorem BM.kp {X : Nat → Prop} (h : BM w mb N hs B pb sv u) (hk : Kp X u u') (h1 : ¬ X mb) (h2 : ∀ p, hs p = true → ¬ X (pb p) ∧ ∀ k, (sv p).ownBlock = some k → ¬ X k) (h3 : ∀ k, k < w.heap.size → ¬ X k) : BM w mb N hs B pb sv u' :=
  { h with
    map := h.map.kp hk h1
    bld := fun p hp => (h.bld p hp).kpX hk (h2 p hp).1 (h2 p hp).2
    bel := h.bel.trans (hk.toBelow h.bel.size h3) }
theorem BM.kept (h : BM w mb N hs B pb sv u) (hb : Below u.heap.size u u') : BM w mb N hs B pb sv u' := h.kp (X := fun _ => False) (Below.kp hb) (fun e => e) (fun _ _ => ⟨fun e => e, fun _ _ e => e⟩) (fun _ _ e => e)

/-- A block from outside. -/
theorem BM.out (h : BM w mb N hs B pb sv u) {r : Nat} (hr : r ≠ mb) (hr2 : ∀ p, hs p = true → r ≠ pb p ∧ (sv p).ownBlock ≠ some r) (h0 : w.heap.size ≤ r) (hk : Kp (fun k => k = r) u u') : BM w mb N hs B pb sv u' :=
  h.kp hk (fun e => hr e.symm) (fun p hp => ⟨fun e => (hr2 p hp).1 e.symm, fun k hk e => (hr2 p hp).2 (e ▸ hk)⟩) (fun k hk e => by omega)

theorem BM.start (w : World) : BM w w.heap.size 0 (fun _ => false) (fun _ => []) (fun _ => 0) (fun _ => .slice none 0 0) (w.alloc (.map #[] 0)) where
  map := MapAt.made w
  bld := fun p h => by cases h
  non := fun p _ => rfl
  pbi := fun p q h => by cases h
  svi := fun p q h => by cases h
  pbs := fun p q h => by cases h
  pbm := fun p h => by cases h
  lo := ⟨Nat.le_refl _, fun p h => by cases h⟩
  bel := (Below.refl _ _).alloc (Nat.le_refl _) _

/-- A builder more, of no bits. -/
theorem BM.new {u1 u2 : World} {p : List Bool} (h : BM w mb N hs B pb sv u) (hp : hs p = false) (hB : BuildAt u1 u.heap.size (.slice none 0 0) []) (hb1 : Below u.heap.size u u1) (hm : MapAt u2 mb (N + 1) (fun k => if k = p then some (.pointer (some ⟨u.heap.size, 0, none⟩)) else if hs k then some (.pointer (some ⟨pb k, 0, none⟩)) else none)) (hg : u1.grownBy u2 (some mb)) :
    BM w mb (N + 1) (fun k => if k = p then true else hs k) B (fun k => if k = p then u.heap.size else pb k) (fun k => if k = p then .slice none 0 0 else sv k) u2 := by
  have hk1 : Kp (fun k => k = mb) u1 u2 := ⟨hg.os, hg.tape, hg.output, hg.size, fun k hk hx => hg.block k hk (fun e => hx (by cases e; rfl))⟩
  have hmb := h.map.lt
  have hfr : ∀ q, hs q = true → pb q < u.heap.size ∧ ∀ k, (sv q).ownBlock = some k → k < u.heap.size := fun q hq => (h.bld q hq).blk
  have hno : ∀ k, (Value.slice none 0 0).ownBlock ≠ some k := fun k e => by simp [Value.ownBlock] at e
  refine ⟨?_, fun q hq => ?_, fun q hq => ?_, fun q r hq hr hne => ?_, fun q r hq hr hne k => ?_, fun q r hq hr => ?_, fun q hq => ?_, ⟨h.lo.1, fun q hq => ?_⟩, ?_⟩
  · have e : (fun k => if (if k = p then true else hs k) then some (Value.pointer (some ⟨if k = p then u.heap.size else pb k, 0, none⟩)) else none) = (fun k => if k = p then some (Value.pointer (some ⟨u.heap.size, 0, none⟩)) else if hs k then some (.pointer (some ⟨pb k, 0, none⟩)) else none) := by
      funext k
      by_cases e : k = p
      · simp [e]
      · simp [e]
    rw [e]; exact hm
  · by_cases e : q = p
    · subst e
      simp only [if_true]
      rw [h.non q hp]
      exact hB.kpX hk1 (fun e => by omega) (fun k e => absurd e (hno k))
    · simp only [e, if_false] at hq ⊢
      exact ((h.bld q hq).kept hb1).kpX hk1 (fun e => (h.pbm q hq).1 e) (fun k hk e => (h.pbm q hq).2 (e ▸ hk))
  · by_cases e : q = p
    · simp [e] at hq
    · simp only [e, if_false] at hq
      exact h.non q hq
  · by_cases e : q = p
    · by_cases e2 : r = p
      · exact absurd (e.trans e2.symm) hne
      · simp only [e, e2, if_true, if_false] at hr ⊢
        have := (hfr r hr).1; omega
    · by_cases e2 : r = p
      · simp only [e, e2, if_true, if_false] at hq ⊢
        have := (hfr q hq).1; omega
      · simp only [e, e2, if_false] at hq hr ⊢
        exact h.pbi q r hq hr hne
  · by_cases e : q = p
    · simp only [e, if_true]; intro h1; exact absurd h1 (hno k)
    · by_cases e2 : r = p
      · simp only [e2, if_true]; intro _; exact hno k
      · simp only [e, e2, if_false] at hq hr ⊢
        exact h.svi q r hq hr hne k
  · by_cases e : q = p
    · simp only [e, if_true]; exact hno _
    · by_cases e2 : r = p
      · simp only [e, e2, if_true, if_false] at hq ⊢
        intro h1; have := (hfr q hq).2 _ h1; omega
      · simp only [e, e2, if_false] at hq hr ⊢
        exact h.pbs q r hq hr
  · by_cases e : q = p
    · simp only [e, if_true]; exact ⟨by omega, hno _⟩
    · simp only [e, if_false] at hq ⊢
      exact h.pbm q hq
  · by_cases e : q = p
    · simp only [e, if_true]; exact ⟨h.bel.size, fun k e => absurd e (hno k)⟩
    · simp only [e, if_false] at hq ⊢
      exact h.lo.2 q hq
  · exact (h.bel.trans (hb1.mono h.bel.size)).trans (hk1.toBelow (Nat.le_trans h.bel.size hb1.size) (fun k hk e => by have := h.lo.1; omega))

/-- A bit more, behind those of one text. -/
theorem BM.add {p : List Bool} {bs : List Bool} (h : BM w mb N hs B pb sv u) (hp : hs p = true) (hpost : PutPost u (pb p) (sv p) bs u') :
    ∃ s', BM w mb N hs (fun k => if k = p then bs else B k) pb (fun k => if k = p then s' else sv k) u' ∧ Kp (fun k => k = pb p ∨ (sv p).ownBlock = some k) u u' ∧ (∀ k, s'.ownBlock = some k → (sv p).ownBlock = some k ∨ u.heap.size ≤ k) := by
  obtain ⟨s', k1, k2, k3⟩ := hpost
  have hfr : ∀ q, hs q = true → pb q < u.heap.size ∧ ∀ k, (sv q).ownBlock = some k → k < u.heap.size := fun q hq => (h.bld q hq).blk
  have hmb := h.map.lt
  have hs' : ∀ k, s'.ownBlock = some k → (sv p).ownBlock = some k ∨ u.heap.size ≤ k := k2
  refine ⟨s', ⟨?_, fun q hq => ?_, fun q hq => ?_, h.pbi, fun q r hq hr hne k => ?_, fun q r hq hr => ?_, fun q hq => ?_, ⟨h.lo.1, fun q hq => ?_⟩, ?_⟩, ⟨k3.os, k3.tape, k3.output, k3.size, fun k hk hx => k3.block k hk hx⟩, k2⟩
  · exact h.map.kp k3 (fun e => by
      rcases e with e | e
      · exact (h.pbm p hp).1 e.symm
      · exact (h.pbm p hp).2 e)
  · by_cases e : q = p
    · subst e; simp only [if_true]; exact k1
    · simp only [e, if_false]
      refine (h.bld q hq).kpX k3 (fun e2 => ?_) (fun k hk e2 => ?_)
      · rcases e2 with e2 | e2
        · exact h.pbi q p hq hp e e2
        · exact h.pbs p q hp hq e2
      · rcases e2 with e2 | e2
        · exact h.pbs q p hq hp (e2 ▸ hk)
        · exact h.svi q p hq hp e k hk e2
  · by_cases e : q = p
    · subst e; rw [hp] at hq; cases hq
    · simp only [e, if_false]; exact h.non q hq
  · by_cases e : q = p
    · by_cases e2 : r = p
      · exact absurd (e.trans e2.symm) hne
      · simp only [e, e2, if_true, if_false]
        intro h1 h2
        rcases hs' k h1 with h3 | h3
        · exact h.svi p r hp hr (fun e3 => e2 e3.symm) k h3 h2
        · have := (hfr r hr).2 k h2; omega
    · by_cases e2 : r = p
      · simp only [e, e2, if_true, if_false]
        intro h1 h2
        rcases hs' k h2 with h3 | h3
        · exact h.svi q p hq hp e k h1 h3
        · have := (hfr q hq).2 k h1; omega
      · simp only [e, e2, if_false]
        exact h.svi q r hq hr hne k
  · by_cases e : q = p
    · simp only [e, if_true]
      intro h1
      rcases hs' _ h1 with h3 | h3
      · exact h.pbs p r hp hr h3
      · have := (hfr r hr).1; omega
    · simp only [e, if_false]
      exact h.pbs q r hq hr
  · by_cases e : q = p
    · simp only [e, if_true]
      refine ⟨(h.pbm p hp).1, fun h1 => ?_⟩
      rcases hs' _ h1 with h3 | h3
      · exact (h.pbm p hp).2 h3
      · omega
    · simp only [e, if_false]; exact h.pbm q hq
  · by_cases e : q = p
    · simp only [e, if_true]
      refine ⟨(h.lo.2 p hp).1, fun k h1 => ?_⟩
      rcases hs' _ h1 with h3 | h3
      · exact (h.lo.2 p hp).2 k h3
      · have := h.bel.size; omega
    · simp only [e, if_false]; exact h.lo.2 q hq
  · exact h.bel.trans (k3.toBelow h.bel.size (fun k hk e => by
      rcases e with e | e
      · have := (h.lo.2 p hp).1; omega
      · have := (h.lo.2 p hp).2 k e; omega))

end Go.Proofs.YtdidoecigkbffaaGreat
