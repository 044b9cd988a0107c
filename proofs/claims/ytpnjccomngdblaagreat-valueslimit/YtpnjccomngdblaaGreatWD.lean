/- A row of symbols in memory; the contracts of isSize, has, hasAll, Len, Size, keep, Rows. -/
import Derived.Test.YtpnjccomngdblaaGreatWC
set_option maxRecDepth 100000
namespace Go.Proofs.YtpnjccomngdblaaGreat
open Go.RowKit
open M
attribute [local go_sem ↓] Go.wp_at_zero Go.wp_at_succ

/-- The six cells of a rank, at a place of a block. -/
structure RCx (w : World) (b o : Nat) (R : RP) : Prop where
  c0 : w.cell? ⟨b, o, none⟩ = some (.int .i64 (R.n : Int))
  c1 : w.cell? ⟨b, o + 1, none⟩ = some (.slice R.a R.m R.c)
  c2 : w.cell? ⟨b, o + 2, none⟩ = some (.int .i64 (R.cn : Int))
  c3 : w.cell? ⟨b, o + 3, none⟩ = some (.int .i64 (R.cW : Int))
  c4 : w.cell? ⟨b, o + 4, none⟩ = some (.int .i64 (R.cL : Int))
  c5 : w.cell? ⟨b, o + 5, none⟩ = some (.slice R.a2 R.m2 R.c2)
theorem RCx.lt {w : World} {b o : Nat} {R : RP} (h : RCx w b o R) : b < w.heap.size := World.block_lt_of_cell? w _ h.c0
theorem RCx.kept {w w' : World} {b o : Nat} {R : RP} (h : RCx w b o R) (hb : Below w.heap.size w w') : RCx w' b o R :=
  ⟨by rw [hb.cell (p := ⟨b, o, none⟩) h.lt]; exact h.c0, by rw [hb.cell (p := ⟨b, o + 1, none⟩) h.lt]; exact h.c1, by rw [hb.cell (p := ⟨b, o + 2, none⟩) h.lt]; exact h.c2,
   by rw [hb.cell (p := ⟨b, o + 3, none⟩) h.lt]; exact h.c3, by rw [hb.cell (p := ⟨b, o + 4, none⟩) h.lt]; exact h.c4, by rw [hb.cell (p := ⟨b, o + 5, none⟩) h.lt]; exact h.c5⟩

/-- Ranks of rows of n bits, side by side. -/
structure RS (w : World) (n : Nat) (a : Option Addr) (m : Nat) (ls : List (List Bool)) : Prop where
  len : ls.length = m
  at_ : ∀ j, j < m → ∃ g R, a = some ⟨g, 0, none⟩ ∧ RCx w g (j * 6) R ∧ RK w R (ls.getD j []) ∧ R.n = n
theorem RS.kept {w w' : World} {n : Nat} {a : Option Addr} {m : Nat} {ls : List (List Bool)} (h : RS w n a m ls) (hb : Below w.heap.size w w') : RS w' n a m ls :=
  ⟨h.len, fun j hj => by obtain ⟨g, R, e, h1, h2, h3⟩ := h.at_ j hj; exact ⟨g, R, e, h1.kept hb, h2.kept hb, h3⟩⟩

/-- Whether there is such a size; such a symbol. -/
def sizeB (x : Int) : Bool := decide (1 ≤ x ∧ x ≤ 65536)
def hasB (size x : Int) : Bool := decide (0 ≤ x ∧ x < size)

theorem isSize_any (x : Int) (w : World) : Calls Tryz.prog 68 #[.int .i64 x] w fun e w' => e = .returned (.bool (sizeB x)) ∧ w = w' := by
  by_cases h1 : 1 ≤ x
  · by_cases h2 : x ≤ 65536
    · go_enter Tryz.func68, Tryz.ntmps68
      go_wp2
      go_ret
      exact ⟨ret_bool (decide_eq_true ⟨h1, h2⟩).symm, rfl⟩
    · go_enter Tryz.func68, Tryz.ntmps68
      go_wp2
      go_ret
      exact ⟨ret_bool (decide_eq_false (by omega)).symm, rfl⟩
  · go_enter Tryz.func68, Tryz.ntmps68
    go_wp2
    go_ret
    exact ⟨ret_bool (decide_eq_false (by omega)).symm, rfl⟩

theorem wbel (w : World) (x y z : Value) : Below w.heap.size w (w.alloc (.cells #[x, y, z] 28)) := (Below.refl _ _).alloc (Nat.le_refl _) _

theorem has_any (n size : Int) (s : Value) (x : Int) (w : World) : Calls Tryz.prog 96 #[.agg #[.int .i64 n, .int .i64 size, s], .int .i64 x] w fun e w' => e = .returned (.bool (hasB size x)) ∧ Below w.heap.size w w' := by
  have HB := Lib.hid (wbel w (.int .i64 n) (.int .i64 size) s)
  by_cases h1 : 0 ≤ x
  · by_cases h2 : x < size
    · go_enter Tryz.func96, Tryz.ntmps96
      go_wp2
      go_ret
      exact ⟨ret_bool (decide_eq_true ⟨h1, h2⟩).symm, HB.out⟩
    · go_enter Tryz.func96, Tryz.ntmps96
      go_wp2
      go_ret
      exact ⟨ret_bool (decide_eq_false (by omega)).symm, HB.out⟩
  · go_enter Tryz.func96, Tryz.ntmps96
    go_wp2
    go_ret
    exact ⟨ret_bool (decide_eq_false (by omega)).symm, HB.out⟩

theorem wlen_any (n size : Int) (s : Value) (w : World) : Calls Tryz.prog 58 #[.agg #[.int .i64 n, .int .i64 size, s]] w fun e w' => e = .returned (.int .i64 n) ∧ Below w.heap.size w w' := by
  have HB := Lib.hid (wbel w (.int .i64 n) (.int .i64 size) s)
  go_enter Tryz.func58, Tryz.ntmps58
  go_wp2
  go_ret
  exact ⟨rfl, HB.out⟩
theorem wsize_any (n size : Int) (s : Value) (w : World) : Calls Tryz.prog 44 #[.agg #[.int .i64 n, .int .i64 size, s]] w fun e w' => e = .returned (.int .i64 size) ∧ Below w.heap.size w w' := by
  have HB := Lib.hid (wbel w (.int .i64 n) (.int .i64 size) s)
  go_enter Tryz.func44, Tryz.ntmps44
  go_wp2
  go_ret
  exact ⟨rfl, HB.out⟩

set_option maxHeartbeats 1000000 in
theorem hasAll_any (n size : Int) (s : Value) (a : Option Addr) (k cap : Nat) (l : List Int) (w : World) (h : NumsAt .i64 w a l) (hl : l.length = k) (hk : k ≤ 1000000000) :
    Calls Tryz.prog 69 #[.agg #[.int .i64 n, .int .i64 size, s], .slice a k cap] w fun e w' => e = .returned (.bool (l.all fun x => hasB size x)) ∧ Below w.heap.size w w' := by
  have hb0 := wbel w (.int .i64 n) (.int .i64 size) s
  have HH := Lib.hid (And.intro h (And.intro hl hb0))
  clear h hl hb0
  go_enter Tryz.func69, Tryz.ntmps69
  go_wp2
  go_loopw [9] (fun v9 wr => ∃ i : Nat, i ≤ k ∧ v9 = .int .i64 (i : Int) ∧ ((l.take i).all fun x => hasB size x) = true ∧ (wr.cell? ⟨w.heap.size, 0, none⟩ = some (.int .i64 n) ∧ wr.cell? ⟨w.heap.size, 1, none⟩ = some (.int .i64 size) ∧ wr.cell? ⟨w.heap.size, 2, none⟩ = some s) ∧ Below w.heap.size w wr) (fun v9 _ => k - (intOf v9).toNat)
  case atStart => exact ⟨0, Nat.zero_le _, rfl, by simp, ⟨by simp, by simp, by simp⟩, HH.out.2.2⟩
  case round =>
    obtain ⟨i, hi, rfl, hall, ⟨c0, c1, c2⟩, hbel⟩ := hrel
    by_cases hlt : i < k
    · have hlk : i < l.length := by rw [HH.out.2.1]; exact hlt
      obtain ⟨bb, off, rfl, hbl, hcb⟩ := num_at (HH.out.1.kept hbel) (i := i) hlk
      have hs : l.take (i + 1) = l.take i ++ [l.getD i 0] := by
        rw [List.take_add_one]; simp [List.getD_eq_getElem?_getD, hlk]
      have hmem : l.getD i 0 ∈ l := by simp [List.getD_eq_getElem?_getD, hlk]
      generalize l.getD i 0 = y at *
      have q1 : (i : Int) < (k : Int) := by omega
      have q2 : (0 : Int) ≤ (i : Int) := by omega
      have hl0 := World.block_lt_of_cell? wr _ c0
      have HS := Lib.hid (And.intro hs (And.intro hmem (And.intro hall (And.intro hbel (And.intro c0 (And.intro c1 c2))))))
      clear hs hmem hall hbel
      go_wp2_with fail
      refine (has_any n size s y _).mono ?_
      rintro e u ⟨rfl, hb⟩
      have hb2 := HS.out.2.2.2.1.trans (hb.mono HS.out.2.2.2.1.size)
      have e0 := hb.cell (p := ⟨w.heap.size, 0, none⟩) hl0
      have e1 := hb.cell (p := ⟨w.heap.size, 1, none⟩) hl0
      have e2 := hb.cell (p := ⟨w.heap.size, 2, none⟩) hl0
      rw [HS.out.2.2.2.2.1] at e0
      rw [HS.out.2.2.2.2.2.1] at e1
      rw [HS.out.2.2.2.2.2.2] at e2
      have HB := Lib.hid (And.intro hb2 (And.intro e0 (And.intro e1 e2)))
      clear hb hb2 e0 e1 e2 c0 c1 c2 hcb
      by_cases hy : 0 ≤ y ∧ y < size
      · have hy2 : hasB size y = true := decide_eq_true hy
        rw [hy2]
        have HT : Hid (((l.take (i + 1)).all fun x => hasB size x) = true) := Lib.hid (by rw [HS.out.1, List.all_append, HS.out.2.2.1]; simp [hy2])
        clear hy hy2
        go_wp2
        go_roundw
        case rel => exact ⟨i + 1, by omega, by go_num, HT.out, HB.out.2, HB.out.1⟩
        case measure => simp [intOf]; omega
      · have hy2 : hasB size y = false := decide_eq_false hy
        rw [hy2]
        have HT : Hid ((l.all fun x => hasB size x) = false) := Lib.hid (by
          rw [List.all_eq_false]; exact ⟨y, HS.out.2.1, by simp [hy2]⟩)
        clear hy hy2
        go_wp2
        go_ret
        exact ⟨ret_bool HT.out.symm, HB.out.1⟩
    · obtain rfl : i = k := by omega
      have e : l.take i = l := by rw [List.take_of_length_le (by rw [HH.out.2.1]; omega)]
      rw [e] at hall
      have HE := Lib.hid (And.intro hall hbel)
      clear e hall hbel
      go_wp2
      go_ret
      exact ⟨ret_bool HE.out.1.symm, HE.out.2⟩

theorem info31 : (Tryz.prog.info? 31).map (fun i => (i.zero, i.size, i.bytes)) = some (some (.agg #[.int .i64 0, .slice none 0 0]), 2, 32) := by kernel_rfl

theorem ret_two {x y x' y' : Int} (h1 : x = x') (h2 : y = y') : Ending.returned (.tuple #[.int .i64 x, .int .i64 y]) = Ending.returned (.tuple #[.int .i64 x', .int .i64 y']) := by rw [h1, h2]

/-- A range kept in n places. -/
theorem wkeep_any (n : Nat) (size : Int) (s : Value) (f t : Int) (w : World) (hn : n ≤ 1000000000) :
    Calls Tryz.prog 80 #[.agg #[.int .i64 (n : Int), .int .i64 size, s], .int .i64 f, .int .i64 t] w fun e w' => e = .returned (.tuple #[.int .i64 (lo n f : Nat), .int .i64 (hi n f t : Nat)]) ∧ Below w.heap.size w w' := by
  have HB := Lib.hid (wbel w (.int .i64 (n : Int)) (.int .i64 size) s)
  have hc : f < 0 ∨ (¬ f < 0 ∧ ¬ (n : Int) < f) ∨ (¬ f < 0 ∧ (n : Int) < f) := by omega
  rcases hc with h1 | ⟨h1, h2⟩ | ⟨h1, h2⟩
  · have h3 : ¬ (n : Int) < 0 := by omega
    by_cases h4 : t < 0
    all_goals
      go_enter Tryz.func80, Tryz.ntmps80
      go_wp2
      go_quiet (fail)
      go_wp2
      all_goals
        go_ret2
        exact ⟨ret_two (by unfold lo; omega) (by unfold hi lo; omega), below_drewN HB.out _⟩
  · by_cases h4 : t < f
    all_goals
      go_enter Tryz.func80, Tryz.ntmps80
      go_wp2
      go_quiet (fail)
      go_wp2
      all_goals
        go_ret2
        exact ⟨ret_two (by unfold lo; omega) (by unfold hi lo; omega), below_drewN HB.out _⟩
  · by_cases h4 : t < (n : Int)
    all_goals
      go_enter Tryz.func80, Tryz.ntmps80
      go_wp2
      go_quiet (fail)
      go_wp2
      all_goals
        go_ret2
        exact ⟨ret_two (by unfold lo; omega) (by unfold hi lo; omega), below_drewN HB.out _⟩

/-- Rows of n bits, side by side. -/
structure BS (w : World) (n : Nat) (a : Option Addr) (m : Nat) (ls : List (List Bool)) : Prop where
  len : ls.length = m
  at_ : ∀ j, j < m → ∃ g b k c, a = some ⟨g, 0, none⟩ ∧ w.cell? ⟨g, j * 2, none⟩ = some (.int .i64 (n : Int)) ∧ w.cell? ⟨g, j * 2 + 1, none⟩ = some (.slice b k c) ∧ RowAt w (.slice b k c) (ls.getD j []) ∧ (ls.getD j []).length = n
theorem BS.kept {w w' : World} {n : Nat} {a : Option Addr} {m : Nat} {ls : List (List Bool)} (h : BS w n a m ls) (hb : Below w.heap.size w w') : BS w' n a m ls :=
  ⟨h.len, fun j hj => by
    obtain ⟨g, b, k, c, e, h1, h2, h3, h4⟩ := h.at_ j hj
    have hg := World.block_lt_of_cell? w _ h1
    exact ⟨g, b, k, c, e, by rw [hb.cell (p := ⟨g, j * 2, none⟩) hg]; exact h1, by rw [hb.cell (p := ⟨g, j * 2 + 1, none⟩) hg]; exact h2, h3.kept hb, h4⟩⟩

/-- What Rows holds: the first k rows in the block g. -/
structure RWI (w : World) (n : Nat) (size : Int) (s : Value) (m g k : Nat) (ls : List (List Bool)) (u : World) : Prop where
  c0 : u.cell? ⟨w.heap.size, 0, none⟩ = some (.int .i64 (n : Int))
  c1 : u.cell? ⟨w.heap.size, 1, none⟩ = some (.int .i64 size)
  c2 : u.cell? ⟨w.heap.size, 2, none⟩ = some s
  gl : w.heap.size < g
  ex : ∀ o, o < m * 2 → (∃ v, u.cell? ⟨g, o, none⟩ = some v) ∧ u.frozen? ⟨g, o, none⟩ = false
  at_ : ∀ j, j < k → ∃ b q c, u.cell? ⟨g, j * 2, none⟩ = some (.int .i64 (n : Int)) ∧ u.cell? ⟨g, j * 2 + 1, none⟩ = some (.slice b q c) ∧ RowAt w (.slice b q c) (ls.getD j []) ∧ (ls.getD j []).length = n
  bel : Below w.heap.size w u

theorem RWI.kept {w u u' : World} {n : Nat} {size : Int} {s : Value} {m g k : Nat} {ls : List (List Bool)} (h : RWI w n size s m g k ls u) (hb : Below u.heap.size u u') : RWI w n size s m g k ls u' := by
  have l0 : w.heap.size < u.heap.size := World.block_lt_of_cell? u _ h.c0
  have cl : ∀ q o, q < u.heap.size → u'.cell? ⟨q, o, none⟩ = u.cell? ⟨q, o, none⟩ := fun q o hq => hb.cell (p := ⟨q, o, none⟩) hq
  refine ⟨by rw [cl _ _ l0]; exact h.c0, by rw [cl _ _ l0]; exact h.c1, by rw [cl _ _ l0]; exact h.c2, h.gl, fun o ho => ?_, fun j hj => ?_, h.bel.trans (hb.mono h.bel.size)⟩
  · obtain ⟨⟨v, e⟩, f⟩ := h.ex o ho
    have hg := World.block_lt_of_cell? u _ e
    exact ⟨⟨v, by rw [cl _ _ hg]; exact e⟩, by rw [hb.frozen (p := ⟨g, o, none⟩) hg]; exact f⟩
  · obtain ⟨b, q, c, e1, e2, e3⟩ := h.at_ j hj
    have hg := World.block_lt_of_cell? u _ e1
    exact ⟨b, q, c, by rw [cl _ _ hg]; exact e1, by rw [cl _ _ hg]; exact e2, e3⟩

theorem RWI.put {w u : World} {n : Nat} {size : Int} {s : Value} {m g k : Nat} {ls : List (List Bool)} {R : RP} (h : RWI w n size s m g k ls u) (hk : k < m) (hn : R.n = n) (hr : RowAt w (.slice R.a R.m R.c) (ls.getD k [])) (hl : (ls.getD k []).length = R.n) :
    RWI w n size s m g (k + 1) ls ((u.setCell ⟨g, k * 2, none⟩ (.int .i64 (R.n : Int))).setCell ⟨g, k * 2 + 1, none⟩ (.slice R.a R.m R.c)) := by
  have hgl := h.gl
  obtain ⟨⟨y0, e0⟩, -⟩ := h.ex (k * 2) (by omega)
  obtain ⟨⟨y1, e1⟩, -⟩ := h.ex (k * 2 + 1) (by omega)
  have far : ∀ q o, (q ≠ g ∨ (o ≠ k * 2 ∧ o ≠ k * 2 + 1)) → ((u.setCell ⟨g, k * 2, none⟩ (.int .i64 (R.n : Int))).setCell ⟨g, k * 2 + 1, none⟩ (.slice R.a R.m R.c)).cell? ⟨q, o, none⟩ = u.cell? ⟨q, o, none⟩ := by
    intro q o hq
    rw [World.cell?_setCell_other _ _ _ _ (by simp only [ne_eq, Addr.mk.injEq]; omega), World.cell?_setCell_other _ _ _ _ (by simp only [ne_eq, Addr.mk.injEq]; omega)]
  have at0 : ((u.setCell ⟨g, k * 2, none⟩ (.int .i64 (R.n : Int))).setCell ⟨g, k * 2 + 1, none⟩ (.slice R.a R.m R.c)).cell? ⟨g, k * 2, none⟩ = some (.int .i64 (R.n : Int)) := by
    rw [World.cell?_setCell_other _ _ _ _ (by simp only [ne_eq, Addr.mk.injEq]; omega), World.cell?_setCell_same _ _ _ e0]
  have at1 : ((u.setCell ⟨g, k * 2, none⟩ (.int .i64 (R.n : Int))).setCell ⟨g, k * 2 + 1, none⟩ (.slice R.a R.m R.c)).cell? ⟨g, k * 2 + 1, none⟩ = some (.slice R.a R.m R.c) := by
    have e1' : (u.setCell ⟨g, k * 2, none⟩ (.int .i64 (R.n : Int))).cell? ⟨g, k * 2 + 1, none⟩ = some y1 := by
      rw [World.cell?_setCell_other _ _ _ _ (by simp only [ne_eq, Addr.mk.injEq]; omega)]; exact e1
    exact World.cell?_setCell_same _ _ _ e1'
  refine ⟨by rw [far _ _ (by omega)]; exact h.c0, by rw [far _ _ (by omega)]; exact h.c1, by rw [far _ _ (by omega)]; exact h.c2, h.gl, fun o ho => ?_, fun j hj => ?_, (h.bel.setCell (p := ⟨g, k * 2, none⟩) (by simp only; omega) _).setCell (p := ⟨g, k * 2 + 1, none⟩) (by simp only; omega) _⟩
  · obtain ⟨⟨v, e⟩, f⟩ := h.ex o ho
    refine ⟨?_, by simpa using f⟩
    by_cases h0 : o = k * 2
    · subst h0; exact ⟨_, at0⟩
    · by_cases h1 : o = k * 2 + 1
      · subst h1; exact ⟨_, at1⟩
      · exact ⟨v, by rw [far _ _ (by omega)]; exact e⟩
  · by_cases hjk : j < k
    · obtain ⟨b, q, c, e1, e2, e3⟩ := h.at_ j hjk
      exact ⟨b, q, c, by rw [far _ _ (by omega)]; exact e1, by rw [far _ _ (by omega)]; exact e2, e3⟩
    · obtain rfl : j = k := by omega
      exact ⟨R.a, R.m, R.c, by rw [at0, hn], at1, hr, by rw [hl, hn]⟩

end Go.Proofs.YtpnjccomngdblaaGreat
