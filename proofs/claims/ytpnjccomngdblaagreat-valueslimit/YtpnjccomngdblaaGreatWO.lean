/- A row of symbols that is made rank by rank: its box, where it is told, and its ranks. -/
import Derived.Test.YtpnjccomngdblaaGreatWL
import Derived.Test.YtpnjccomngdblaaGreatWN
set_option maxRecDepth 100000
namespace Go.Proofs.YtpnjccomngdblaaGreat
open Go.RowKit
open M

/-- The block b has cells of that type. -/
def Typ (u : World) (b : Nat) (t : TypeId) : Prop := ∃ cs fr, u.heap[b]? = some (.cells cs t fr)
theorem Typ.lt {u : World} {b : Nat} {t : TypeId} (h : Typ u b t) : b < u.heap.size := by
  obtain ⟨cs, fr, h⟩ := h
  exact (Array.getElem?_eq_some_iff.1 h).1
theorem Typ.kp {X : Nat → Prop} {u u' : World} {b : Nat} {t : TypeId} (h : Typ u b t) (hk : Kp X u u') (hb : ¬ X b) : Typ u' b t := by
  have hl := h.lt
  obtain ⟨cs, fr, h⟩ := h
  exact ⟨cs, fr, by rw [hk.block b hl hb]; exact h⟩
theorem Typ.kept {u u' : World} {b : Nat} {t : TypeId} (h : Typ u b t) (hb : Below u.heap.size u u') : Typ u' b t := by
  have hl := h.lt
  obtain ⟨cs, fr, h⟩ := h
  exact ⟨cs, fr, by rw [hb.block b hl]; exact h⟩
theorem Typ.set {u : World} {b : Nat} {t : TypeId} (h : Typ u b t) (p : Addr) (v : Value) : Typ (u.setCell p v) b t := by
  obtain ⟨cs, fr, h⟩ := h
  unfold Typ World.setCell
  simp only [Array.getElem?_modify]
  by_cases hb : p.block = b
  · rw [if_pos hb, h]; exact ⟨_, fr, rfl⟩
  · rw [if_neg hb]; exact ⟨cs, fr, h⟩
theorem own_typ {w : World} {b e z n k : Nat} {v : Value} {xs : List Value} {t : TypeId} (h1 : w.ownsRow b e z v n xs) (h2 : Typ w k t) (hne : e ≠ t) : v.ownBlock ≠ some k := by
  intro hk
  rcases h1.2 with ⟨rfl, -⟩ | ⟨g, cap, cur, rfl, -, hh, -⟩
  · simp [Value.ownBlock] at hk
  simp only [Value.ownBlock, Option.some.injEq] at hk
  subst hk
  obtain ⟨cs, fr, h2⟩ := h2
  rw [hh] at h2
  simp only [Option.some.injEq, Obj.cells.injEq] at h2
  exact hne h2.2.1
theorem RK.typ {X : Nat → Prop} {u u' : World} {R : RP} {l : List Bool} (h : RK u R l) (hk : Kp X u u') (hx : ∀ b, X b → Typ u b 28 ∨ Typ u b 35) : RK u' R l := by
  have hno : ∀ (v : Value) (n : Nat) (xs : List Value), u.ownsRow 0 103 1 v n xs → ∀ k, v.ownBlock = some k → ¬ X k := fun v n xs hv k e hxk => by
    rcases hx k hxk with h | h
    · exact own_typ hv h (by decide) e
    · exact own_typ hv h (by decide) e
  exact h.kp hk (fun k e => hno _ _ _ h.row k e) (fun _ hi k e => hno _ _ _ hi.row k e)

/-- The ranks Rs of the rows ls, in a list of the call's own at v. -/
structure OR (w : World) (n : Nat) (v : Value) (Rs : List RP) (ls : List (List Bool)) (u : World) : Prop where
  len : Rs.length = ls.length
  own : u.ownsRow w.heap.size 35 6 v ls.length (Rs.flatMap rcl)
  rk : ∀ j, j < ls.length → RK u (Rs.getD j R0) (ls.getD j []) ∧ (Rs.getD j R0).n = n
theorem OR.kept {w u u' : World} {n : Nat} {v : Value} {Rs : List RP} {ls : List (List Bool)} (h : OR w n v Rs ls u) (hb : Below u.heap.size u u') : OR w n v Rs ls u' :=
  ⟨h.len, own_kept h.own hb, fun j hj => ⟨(h.rk j hj).1.kept hb, (h.rk j hj).2⟩⟩
theorem OR.set {w u : World} {n : Nat} {v : Value} {Rs : List RP} {ls : List (List Bool)} {b : Nat} (h : OR w n v Rs ls u) (ht : Typ u b 28) (o : Nat) (x : Value) : OR w n v Rs ls (u.setCell ⟨b, o, none⟩ x) := by
  have hk : Kp (fun k => k = b) u (u.setCell ⟨b, o, none⟩ x) := Kp.setCell (p := ⟨b, o, none⟩) (Kp.refl (fun k => k = b) u) (.inl rfl) _
  refine ⟨h.len, own_kp h.own hk (fun k e ek => ?_), fun j hj => ⟨(h.rk j hj).1.typ hk (fun k ek => .inl (by rw [ek]; exact ht)), (h.rk j hj).2⟩⟩
  rw [ek] at e
  exact own_typ h.own ht (by decide) e
theorem OR.rs {w u : World} {n : Nat} {v : Value} {Rs : List RP} {ls : List (List Bool)} (h : OR w n v Rs ls u) (hb : Below w.heap.size w u) : ∃ a cap, v = .slice a ls.length cap ∧ RS u n a ls.length ls :=
  OwnR.rs ⟨⟨Rs, h.len, h.own, h.rk⟩, hb⟩
theorem own_of_typ {w : World} {b z n k : Nat} {v : Value} {xs : List Value} {e : TypeId} (h1 : w.ownsRow b e z v n xs) (hk : v.ownBlock = some k) : Typ w k e := by
  rcases h1.2 with ⟨rfl, -⟩ | ⟨g, cap, cur, rfl, -, hh, -⟩
  · simp [Value.ownBlock] at hk
  simp only [Value.ownBlock, Option.some.injEq] at hk
  subst hk
  exact ⟨_, _, hh⟩

/-- What New and Load hold: where they tell, the box of the row, its ranks. -/
structure NI (w : World) (n : Nat) (size : Int) (rv : Value) (Rs : List RP) (ls : List (List Bool)) (u : World) : Prop where
  res : Arr w w.heap.size 3 (fun _ => .bool false) 0 u
  box : WBx u (w.heap.size + 1) (n : Int) size rv
  bz : u.frozen? ⟨w.heap.size + 1, 2, none⟩ = false
  t0 : Typ u w.heap.size 28
  t1 : Typ u (w.heap.size + 1) 28
  orr : OR w n rv Rs ls u
  far : ∀ g, rv.ownBlock = some g → w.heap.size + 2 ≤ g
theorem NI.bel {w u : World} {n : Nat} {size : Int} {rv : Value} {Rs : List RP} {ls : List (List Bool)} (h : NI w n size rv Rs ls u) : Below w.heap.size w u := h.res.bel
theorem NI.kept {w u u' : World} {n : Nat} {size : Int} {rv : Value} {Rs : List RP} {ls : List (List Bool)} (h : NI w n size rv Rs ls u) (hb : Below u.heap.size u u') : NI w n size rv Rs ls u' :=
  ⟨h.res.kept hb, h.box.kept hb, by rw [hb.frozen (p := ⟨w.heap.size + 1, 2, none⟩) h.box.lt]; exact h.bz, h.t0.kept hb, h.t1.kept hb, h.orr.kept hb, h.far⟩
theorem NI.drew {w u : World} {n : Nat} {size : Int} {rv : Value} {Rs : List RP} {ls : List (List Bool)} (h : NI w n size rv Rs ls u) : NI w n size rv Rs ls u.drew := h.kept ((Below.refl _ _).drew)
theorem NI.start (w : World) (n : Nat) (size : Int) : NI w n size (.slice none 0 0) [] [] ((w.alloc (.cells #[.int .i64 0, .int .i64 0, .slice none 0 0] 28)).alloc (.cells #[.int .i64 (n : Int), .int .i64 size, .slice none 0 0] 28)) := by
  have hb : Below w.heap.size w ((w.alloc (.cells #[.int .i64 0, .int .i64 0, .slice none 0 0] 28)).alloc (.cells #[.int .i64 (n : Int), .int .i64 size, .slice none 0 0] 28)) := ((Below.refl _ _).alloc (Nat.le_refl _) _).alloc (by simp) _
  refine ⟨⟨Nat.le_refl _, fun o ho => ?_, fun j hj => absurd hj (by omega), hb, by simp; omega⟩, ⟨by simp, by simp, by simp⟩, by simp, ?_, ?_, ⟨rfl, World.ownsRow_nil _ _ _ _, fun j hj => absurd hj (by simp)⟩, fun g e => by simp [Value.ownBlock] at e⟩
  · have : o = 0 ∨ o = 1 ∨ o = 2 := by omega
    rcases this with rfl | rfl | rfl <;> exact ⟨by simp, by simp⟩
  · exact Typ.kept ⟨_, _, heap_alloc_new w _⟩ ((Below.refl _ _).alloc (Nat.le_refl _) _)
  · have h1 : Typ ((w.alloc (.cells #[.int .i64 0, .int .i64 0, .slice none 0 0] 28)).alloc (.cells #[.int .i64 (n : Int), .int .i64 size, .slice none 0 0] 28)) (w.alloc (.cells #[.int .i64 0, .int .i64 0, .slice none 0 0] 28)).heap.size 28 := ⟨_, _, heap_alloc_new _ _⟩
    rw [World.size_alloc] at h1
    exact h1

/-- A rank more. -/
theorem NI.app {w u w1 : World} {n : Nat} {size : Int} {rv : Value} {Rs : List RP} {ls : List (List Bool)} {R : RP} {row : List Bool} {g cap : Nat} (h : NI w n size rv Rs ls u) (hr : RK u R row) (hn : R.n = n) (o : Obj)
    (hown : w1.ownsRow w.heap.size 35 6 (.slice (some ⟨g, 0, none⟩) (ls.length + 1) cap) (ls.length + 1) (Rs.flatMap rcl ++ rcl R)) (hg : (u.alloc o).grownBy w1 rv.ownBlock) (hat : rv.ownBlock = some g ∨ g = u.heap.size + 1) :
    NI w n size (.slice (some ⟨g, 0, none⟩) (ls.length + 1) cap) (Rs ++ [R]) (ls ++ [row]) (w1.setCell ⟨w.heap.size + 1, 2, none⟩ (.slice (some ⟨g, 0, none⟩) (ls.length + 1) cap)) ∧
    Kp (fun k => rv.ownBlock = some k ∨ k = w.heap.size + 1) u (w1.setCell ⟨w.heap.size + 1, 2, none⟩ (.slice (some ⟨g, 0, none⟩) (ls.length + 1) cap)) := by
  have hk1 : Kp (fun k => rv.ownBlock = some k) u w1 := ((Kp.refl _ u).alloc o).grown hg (fun k hk _ => hk)
  have hk2 : Kp (fun k => rv.ownBlock = some k ∨ k = w.heap.size + 1) u w1 := ⟨hk1.os, hk1.tape, hk1.output, hk1.size, fun k hk hx => hk1.block k hk (fun e => hx (.inl e))⟩
  have hk3 : Kp (fun k => rv.ownBlock = some k ∨ k = w.heap.size + 1) u (w1.setCell ⟨w.heap.size + 1, 2, none⟩ (.slice (some ⟨g, 0, none⟩) (ls.length + 1) cap)) := hk2.setCell (p := ⟨w.heap.size + 1, 2, none⟩) (.inl (.inr rfl)) _
  have hw0 : w.heap.size < u.heap.size := h.t0.lt
  have hw1 : w.heap.size + 1 < u.heap.size := h.t1.lt
  have hfar := h.far
  have n0 : ¬ (rv.ownBlock = some w.heap.size) := fun e => by have := hfar _ e; omega
  have n1 : ¬ (rv.ownBlock = some (w.heap.size + 1)) := fun e => by have := hfar _ e; omega
  have n0' : ¬ (rv.ownBlock = some w.heap.size ∨ w.heap.size = w.heap.size + 1) := fun e => by
    rcases e with e | e
    · exact n0 e
    · omega
  have c0 := hk1.cell (p := ⟨w.heap.size + 1, 0, none⟩) hw1 n1
  have c1 := hk1.cell (p := ⟨w.heap.size + 1, 1, none⟩) hw1 n1
  have c2 := hk1.cell (p := ⟨w.heap.size + 1, 2, none⟩) hw1 n1
  have f2 := hk1.frozen (p := ⟨w.heap.size + 1, 2, none⟩) hw1 n1
  rw [h.box.c0] at c0
  rw [h.box.c1] at c1
  rw [h.box.c2] at c2
  rw [h.bz] at f2
  have t0 := h.t0.kp hk1 n0
  have t1 := h.t1.kp hk1 n1
  have hor : OR w n (.slice (some ⟨g, 0, none⟩) (ls.length + 1) cap) (Rs ++ [R]) (ls ++ [row]) w1 := by
    refine ⟨by simp [h.orr.len], by rw [List.length_append, List.flatMap_append]; simpa using hown, fun j hj => ?_⟩
    have hx : ∀ b, rv.ownBlock = some b → Typ u b 28 ∨ Typ u b 35 := fun b e => .inr (own_of_typ h.orr.own e)
    rw [List.length_append] at hj
    by_cases hlt : j < ls.length
    · have e1 : (ls ++ [row]).getD j [] = ls.getD j [] := by simp [List.getD_eq_getElem?_getD, List.getElem?_append_left hlt]
      have e2 : (Rs ++ [R]).getD j R0 = Rs.getD j R0 := by simp [List.getD_eq_getElem?_getD, List.getElem?_append_left (show j < Rs.length by rw [h.orr.len]; exact hlt)]
      rw [e1, e2]
      exact ⟨(h.orr.rk j hlt).1.typ hk1 hx, (h.orr.rk j hlt).2⟩
    · obtain rfl : j = ls.length := by simp at hj; omega
      have e1 : (ls ++ [row]).getD ls.length [] = row := by simp [List.getD_eq_getElem?_getD]
      have e2 : (Rs ++ [R]).getD ls.length R0 = R := by rw [← h.orr.len]; simp [List.getD_eq_getElem?_getD]
      rw [e1, e2]
      exact ⟨hr.typ hk1 hx, hn⟩
  refine ⟨⟨⟨Nat.le_refl _, fun o ho => ?_, fun j hj => absurd hj (by omega), h.bel.trans (hk3.toBelow h.bel.size (fun k hk e => ?_)), Nat.lt_of_lt_of_le hw0 hk3.size⟩, ⟨?_, ?_, ?_⟩, ?_, t0.set _ _, t1.set _ _, hor.set t1 _ _, ?_⟩, hk3⟩
  · obtain ⟨⟨y, ey⟩, fy⟩ := h.res.ex o ho
    exact ⟨⟨y, by rw [hk3.cell (p := ⟨w.heap.size, o, none⟩) hw0 n0']; exact ey⟩, by rw [hk3.frozen (p := ⟨w.heap.size, o, none⟩) hw0 n0']; exact fy⟩
  · rcases e with e | e
    · have := hfar _ e; omega
    · omega
  · rw [World.cell?_setCell_other _ _ _ _ (by simp)]; exact c0
  · rw [World.cell?_setCell_other _ _ _ _ (by simp)]; exact c1
  · exact World.cell?_setCell_same _ _ _ c2
  · simpa using f2
  · intro g' e
    simp only [Value.ownBlock, Option.some.injEq] at e
    rcases hat with h1 | h1
    · have := hfar _ h1; omega
    · omega

end Go.Proofs.YtpnjccomngdblaaGreat
