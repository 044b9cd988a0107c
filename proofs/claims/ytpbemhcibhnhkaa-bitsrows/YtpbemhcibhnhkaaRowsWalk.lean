/- The walk of BitsRows. -/
import Derived.Test.YtpbemhcibhnhkaaU
import Derived.Test.YtpbemhcibhnhkaaJoins
namespace Go.Proofs.Ytpbemhcibhnhkaa
open Go.RowKit
open M
attribute [local go_sem ↓] Go.wp_at_zero Go.wp_at_succ

/-- A row in memory, with its numbers under names. -/
def RX (u : World) (g n mx : Nat) (l : List Bool) : Prop := l.length = n ∧ nw n = mx ∧ n ≤ 300 ∧ RowAt u (.slice (some ⟨g, 0, none⟩) mx mx) l
theorem RX.kept {u u' : World} {g n mx : Nat} {l : List Bool} (h : RX u g n mx l) (hb : Below u.heap.size u u') : RX u' g n mx l := ⟨h.1, h.2.1, h.2.2.1, h.2.2.2.kept hb⟩
/-- Three numbers in a box. -/
def QB (u : World) (qb : Nat) (q0 q1 q2 : Int) : Prop := u.cell? ⟨qb, 0, none⟩ = some (.int .i64 q0) ∧ u.cell? ⟨qb, 1, none⟩ = some (.int .i64 q1) ∧ u.cell? ⟨qb, 2, none⟩ = some (.int .i64 q2)
theorem QB.lt {u : World} {qb : Nat} {q0 q1 q2 : Int} (h : QB u qb q0 q1 q2) : qb < u.heap.size := World.block_lt_of_cell? u _ h.1
theorem QB.kept {u u' : World} {qb : Nat} {q0 q1 q2 : Int} (h : QB u qb q0 q1 q2) (hb : Below u.heap.size u u') : QB u' qb q0 q1 q2 :=
  ⟨by rw [hb.cell (p := ⟨qb, 0, none⟩) h.lt]; exact h.1, by rw [hb.cell (p := ⟨qb, 1, none⟩) h.lt]; exact h.2.1, by rw [hb.cell (p := ⟨qb, 2, none⟩) h.lt]; exact h.2.2⟩
/-- What BitsRows has in memory. -/
def RQ (w : World) (qb : Nat) (q0 q1 q2 : Int) (b g n mx : Nat) (l : List Bool) (a1 : Option Addr) (u : World) : Prop :=
  Below w.heap.size w u ∧ QB u qb q0 q1 q2 ∧ Bx u b n (.slice (some ⟨g, 0, none⟩) mx mx) ∧ RX u g n mx l ∧ BoolsAt u a1 l
theorem RQ.kept {w u u' : World} {qb : Nat} {q0 q1 q2 : Int} {b g n mx : Nat} {l : List Bool} {a1 : Option Addr} (h : RQ w qb q0 q1 q2 b g n mx l a1 u) (hb : Below u.heap.size u u') : RQ w qb q0 q1 q2 b g n mx l a1 u' :=
  ⟨h.1.trans (hb.mono h.1.size), h.2.1.kept hb, h.2.2.1.kept hb, h.2.2.2.1.kept hb, h.2.2.2.2.kept hb⟩
theorem RQ.drew {w u : World} {qb : Nat} {q0 q1 q2 : Int} {b g n mx : Nat} {l : List Bool} {a1 : Option Addr} (h : RQ w qb q0 q1 q2 b g n mx l a1 u) : RQ w qb q0 q1 q2 b g n mx l a1 u.drew := h.kept ((Below.refl _ _).drew)
theorem RQ.cells {w u : World} {qb : Nat} {q0 q1 q2 : Int} {b g n mx : Nat} {l : List Bool} {a1 : Option Addr} (h : RQ w qb q0 q1 q2 b g n mx l a1 u) :
    u.cell? ⟨b, 0, none⟩ = some (.int .i64 (n : Int)) ∧ u.cell? ⟨b, 1, none⟩ = some (.slice (some ⟨g, 0, none⟩) mx mx) ∧ u.cell? ⟨qb, 0, none⟩ = some (.int .i64 q0) ∧ u.cell? ⟨qb, 1, none⟩ = some (.int .i64 q1) ∧ u.cell? ⟨qb, 2, none⟩ = some (.int .i64 q2) :=
  ⟨h.2.2.1.1, h.2.2.1.2, h.2.1⟩
theorem RQ.rx {w u : World} {qb : Nat} {q0 q1 q2 : Int} {b g n mx : Nat} {l : List Bool} {a1 : Option Addr} (h : RQ w qb q0 q1 q2 b g n mx l a1 u) : RX u g n mx l := h.2.2.2.1
theorem RQ.bools {w u : World} {qb : Nat} {q0 q1 q2 : Int} {b g n mx : Nat} {l : List Bool} {a1 : Option Addr} (h : RQ w qb q0 q1 q2 b g n mx l a1 u) : BoolsAt u a1 l ∧ LenIs l n ∧ n ≤ 300 := ⟨h.2.2.2.2, h.2.2.2.1.1, h.2.2.2.1.2.2.1⟩

def getE (n : Nat) (i : Int) : Int := if 0 ≤ i ∧ i < (n : Int) then 0 else 13
def numV (l : List Bool) (a m : Int) : Nat := if 0 ≤ m ∧ m ≤ 64 ∧ 0 ≤ a ∧ a + m ≤ (l.length : Int) then num ((l.drop a.toNat).take m.toNat) else 0
def numE (n : Nat) (a m : Int) : Int := if m < 0 ∨ 64 < m then 1 else if a < 0 ∨ (n : Int) < a + m then 13 else 0

theorem get_val {u : World} {g n mx : Nat} {l : List Bool} (i : Int) (h : RX u g n mx l) :
    Calls Try.prog 14 #[.agg #[.int .i64 (n : Int), .slice (some ⟨g, 0, none⟩) mx mx], .int .i64 i] u fun e w' => e = .returned (.tuple #[.bool (getB l i), .int .i64 (getE n i)]) ∧ Below u.heap.size u w' := by
  obtain ⟨rfl, rfl, hl, h⟩ := h
  by_cases hi : 0 ≤ i ∧ i < (l.length : Int)
  · obtain ⟨k, rfl⟩ := Int.eq_ofNat_of_zero_le hi.1
    refine (get_in _ l k u h (by omega) (by omega)).mono ?_
    rintro e w' ⟨rfl, hb⟩
    exact ⟨by simp [getB, getE, hi], hb⟩
  · refine (get_out _ l i u h (by omega) (by omega)).mono ?_
    rintro e w' ⟨rfl, hb⟩
    refine ⟨?_, hb⟩
    have h1 : getB l i = false := by
      unfold getB
      by_cases h0 : 0 ≤ i
      · rw [List.getD_eq_getElem?_getD, List.getElem?_eq_none (by omega)]; simp
      · simp [h0]
    rw [h1, getE, if_neg hi]

theorem rget_val (a0 : Option Addr) (cap n : Nat) (l : List Bool) (i : Int) (w : World) (h : BoolsAt w a0 l) (hn : l.length = n) (hl : n ≤ 300) :
    Calls Try.prog 15 #[.slice a0 n cap, .int .i64 i] w fun e w' => e = .returned (.tuple #[.bool (getB l i), .int .i64 (getE n i)]) ∧ w = w' := by
  by_cases hi : 0 ≤ i ∧ i < (n : Int)
  · obtain ⟨k, rfl⟩ := Int.eq_ofNat_of_zero_le hi.1
    refine (rget_in a0 cap n l k w h hn (by omega) (by omega)).mono ?_
    rintro e w' ⟨rfl, hb⟩
    exact ⟨by simp [getB, getE, hi], hb⟩
  · refine (rget_out a0 cap n i w (by omega) (by omega)).mono ?_
    rintro e w' ⟨rfl, hb⟩
    refine ⟨?_, hb⟩
    have h1 : getB l i = false := by
      unfold getB
      by_cases h0 : 0 ≤ i
      · rw [List.getD_eq_getElem?_getD, List.getElem?_eq_none (by omega)]; simp
      · simp [h0]
    rw [h1, getE, if_neg hi]

theorem num_val {u : World} {g n mx : Nat} {l : List Bool} (x y : Int) (h : RX u g n mx l) (hx : x ≤ 9223372036854775807) :
    Calls Try.prog 16 #[.agg #[.int .i64 (n : Int), .slice (some ⟨g, 0, none⟩) mx mx], .int .i64 x, .int .i64 y] u fun e w' => e = .returned (.tuple #[.int .u64 (numV l x y : Nat), .int .i64 (numE n x y)]) ∧ Below u.heap.size u w' := by
  obtain ⟨rfl, rfl, hl, h⟩ := h
  by_cases hy : y < 0 ∨ 64 < y
  · refine (number_arg _ _ _ _ x y u hy).mono ?_
    rintro e w' ⟨rfl, hb⟩
    refine ⟨?_, hb⟩
    rw [numV, if_neg (by omega), numE, if_pos hy]; rfl
  · by_cases hxx : x < 0 ∨ (l.length : Int) < x + y
    · refine (number_range _ _ _ l.length x y u (by omega) (by omega) (by omega) hxx hx).mono ?_
      rintro e w' ⟨rfl, hb⟩
      refine ⟨?_, hb⟩
      rw [numV, if_neg (by omega), numE, if_neg hy, if_pos hxx]; rfl
    · obtain ⟨a, rfl⟩ := Int.eq_ofNat_of_zero_le (a := x) (by omega)
      obtain ⟨m, rfl⟩ := Int.eq_ofNat_of_zero_le (a := y) (by omega)
      refine (number_in _ _ _ l a m u h (by omega) (by omega) (by omega)).mono ?_
      rintro e w' ⟨rfl, hb⟩
      refine ⟨?_, hb⟩
      rw [numV, if_pos (by omega), numE, if_neg hy, if_neg hxx]; rfl

theorem rnum_val (a0 : Option Addr) (cap n : Nat) (l : List Bool) (x y : Int) (w : World) (h : BoolsAt w a0 l) (hn : l.length = n) (hl : n ≤ 300) (hx : x ≤ 9223372036854775807) :
    Calls Try.prog 17 #[.slice a0 n cap, .int .i64 x, .int .i64 y] w fun e w' => e = .returned (.tuple #[.int .u64 (numV l x y : Nat), .int .i64 (numE n x y)]) ∧ w = w' := by
  by_cases hy : y < 0 ∨ 64 < y
  · refine (rnum_arg a0 cap n x y w hy).mono ?_
    rintro e w' ⟨rfl, hb⟩
    refine ⟨?_, hb⟩
    rw [numV, if_neg (by omega), numE, if_pos hy]; rfl
  · by_cases hxx : x < 0 ∨ (n : Int) < x + y
    · refine (rnum_range a0 cap n x y w (by omega) (by omega) (by omega) hxx hx).mono ?_
      rintro e w' ⟨rfl, hb⟩
      refine ⟨?_, hb⟩
      rw [numV, if_neg (by omega), numE, if_neg hy, if_pos hxx]; rfl
    · obtain ⟨a, rfl⟩ := Int.eq_ofNat_of_zero_le (a := x) (by omega)
      obtain ⟨m, rfl⟩ := Int.eq_ofNat_of_zero_le (a := y) (by omega)
      refine (rnum_in a0 cap n l a m w h hn (by omega) (by omega) (by omega)).mono ?_
      rintro e w' ⟨rfl, hb⟩
      refine ⟨?_, hb⟩
      rw [numV, if_pos (by omega), numE, if_neg hy, if_neg hxx]; rfl

theorem list_val {u : World} {g n mx : Nat} {l : List Bool} (h : RX u g n mx l) :
    Calls Try.prog 19 #[.agg #[.int .i64 (n : Int), .slice (some ⟨g, 0, none⟩) mx mx]] u fun e w' => (∃ a cap, e = .returned (.slice a n cap) ∧ BoolsAt w' a l) ∧ Below u.heap.size u w' := by
  obtain ⟨rfl, rfl, hl, h⟩ := h
  refine (list_any _ _ _ l u h (by omega)).mono ?_
  rintro e w' ⟨v, rfl, ⟨a, cap, rfl, hb⟩, hbel⟩
  exact ⟨⟨a, cap, rfl, hb⟩, hbel⟩

theorem bytes_val {u : World} {g n mx : Nat} {l : List Bool} (h : RX u g n mx l) :
    Calls Try.prog 24 #[.agg #[.int .i64 (n : Int), .slice (some ⟨g, 0, none⟩) mx mx]] u fun e w' => e = .returned (.string (strOfNums (bytI l (p8 n)))) ∧ Below u.heap.size u w' := by
  obtain ⟨rfl, rfl, hl, h⟩ := h
  exact bytes_any _ _ _ l u h (by omega)

theorem len_val {u : World} {g n mx : Nat} {l : List Bool} (h : RX u g n mx l) :
    Calls Try.prog 20 #[.agg #[.int .i64 (n : Int), .slice (some ⟨g, 0, none⟩) mx mx]] u fun e w' => e = .returned (.int .i64 (n : Int)) ∧ Below u.heap.size u w' := by
  obtain ⟨rfl, rfl, hl, h⟩ := h
  exact len_any _ l u h
theorem one_val {u : World} {g n mx : Nat} {l : List Bool} (x : Int) (h : RX u g n mx l) :
    Calls Try.prog 21 #[.agg #[.int .i64 (n : Int), .slice (some ⟨g, 0, none⟩) mx mx], .int .i64 x] u fun e w' => e = .returned (.int .i64 (oneI l x)) ∧ Below u.heap.size u w' := by
  obtain ⟨rfl, rfl, hl, h⟩ := h
  exact one_any _ l x u h (by omega)
theorem one_val2 {u : World} {g n mx : Nat} {l : List Bool} (x v : Int) (h : RX u g n mx l) (hv : Hid (oneI l x = v)) :
    Calls Try.prog 21 #[.agg #[.int .i64 (n : Int), .slice (some ⟨g, 0, none⟩) mx mx], .int .i64 x] u fun e w' => e = .returned (.int .i64 v) ∧ Below u.heap.size u w' := by
  rw [← hv.out]
  exact one_val x h
theorem ones_val {u : World} {g n mx : Nat} {l : List Bool} (x y : Int) (h : RX u g n mx l) :
    Calls Try.prog 22 #[.agg #[.int .i64 (n : Int), .slice (some ⟨g, 0, none⟩) mx mx], .int .i64 x, .int .i64 y] u fun e w' => e = .returned (.int .i64 (onesN l x y : Nat)) ∧ Below u.heap.size u w' := by
  obtain ⟨rfl, rfl, hl, h⟩ := h
  exact ones_any _ _ _ l x y u h (by omega)
theorem rones_val {u : World} {n cap : Nat} {l : List Bool} {a1 : Option Addr} (x y : Int) (h : BoolsAt u a1 l ∧ LenIs l n ∧ n ≤ 300) :
    Calls Try.prog 23 #[.slice a1 n cap, .int .i64 x, .int .i64 y] u fun e w' => e = .returned (.int .i64 (onesN l x y : Nat)) ∧ u = w' := rones_any a1 cap n l x y u h.1 h.2.1 (by have := h.2.2; omega)
theorem rbytes_val {u : World} {n cap : Nat} {l : List Bool} {a1 : Option Addr} (h : BoolsAt u a1 l ∧ LenIs l n ∧ n ≤ 300) :
    Calls Try.prog 25 #[.slice a1 n cap] u fun e w' => e = .returned (.string (strOfNums (bytI l (p8 n)))) ∧ Below u.heap.size u w' := rbytes_any a1 cap n l u h.1 h.2.1 (by have := h.2.2; omega)

set_option maxHeartbeats 2000000 in
set_option maxRecDepth 100000 in
theorem rows_walk1 (a1 : Option Addr) (c1 : Nat) (x : List Bool) (q0 q1 q2 : Int) (w : World) (hx : x.length ≤ 300) (h1 : BoolsAt w a1 x)
    (n1 : Nat) (e1 : min n1 300 = x.length) (k1 : n1 ≤ c1) (m1 : c1 ≤ maxLen) (hq0 : q0 ≤ 9223372036854775807) :
    Calls Try.prog 3 #[.slice a1 n1 c1, .agg #[.int .i64 q0, .int .i64 q1, .int .i64 q2]] w fun e w' => e = .returned (.bool true) ∧ Below w.heap.size w w' := by
  have hf1 := fun w => few_any a1 n1 c1 w k1 m1
  rw [e1] at hf1
  have hmk := fun u (hb : Below w.heap.size w u) => make_any a1 c1 x u (h1.kept hb) (by omega)
  have HF := Lib.hid (And.intro hf1 hmk)
  have H1 := Lib.hid h1
  clear hf1 e1 h1 hmk
  unfold maxLen at m1
  generalize hlx : x.length = lx at *
  generalize hnx : nw lx = mx at *
  have HL := Lib.hid (And.intro hlx hnx)
  clear hlx hnx
  go_enter Try.func3, Try.ntmps3
  go_wp2_with fail
  refine (awake_any _).mono ?_
  rintro e w1 ⟨rfl, hb1⟩
  have hqb0 : QB (w.alloc (.cells #[.int .i64 q0, .int .i64 q1, .int .i64 q2] 23)) w.heap.size q0 q1 q2 := ⟨by simp, by simp, by simp⟩
  have hqb := hqb0.kept hb1
  have hB1 : Below w.heap.size w w1 := ((Below.refl _ _).alloc (Nat.le_refl _) _).trans (hb1.mono (by simp))
  have HW := Lib.hid (And.intro hB1 hqb)
  clear hb1 hqb0 hqb hB1
  go_wp2_with fail
  refine (HF.out.1 _).mono ?_
  rintro e w' ⟨rfl, rfl⟩
  go_wp2_with fail
  have hm2 := HF.out.2 w1 HW.out.1
  refine hm2.mono ?_
  clear hm2
  rintro e w2 ⟨rfl, hr2, hb2⟩
  have hal2 : Below w2.heap.size w2 (w2.alloc (.cells #[.int .i64 (lx : Int), .slice (some ⟨w1.heap.size + 1, 0, none⟩) mx mx] 28)) := (Below.refl _ _).alloc (Nat.le_refl _) _
  have hB3 : Below w.heap.size w (w2.alloc (.cells #[.int .i64 (lx : Int), .slice (some ⟨w1.heap.size + 1, 0, none⟩) mx mx] 28)) := (HW.out.1.trans (hb2.mono HW.out.1.size)).trans (hal2.mono (Nat.le_trans HW.out.1.size hb2.size))
  have hR : RQ w w.heap.size q0 q1 q2 w2.heap.size (w1.heap.size + 1) lx mx x a1 (w2.alloc (.cells #[.int .i64 (lx : Int), .slice (some ⟨w1.heap.size + 1, 0, none⟩) mx mx] 28)) :=
    ⟨hB3, (HW.out.2.kept hb2).kept hal2, Bx.new w2 lx _, ⟨HL.out.1, HL.out.2, hx, hr2.kept hal2⟩, H1.out.kept hB3⟩
  have hlt := (HW.out.2.kept hb2).lt
  have d0 := (HW.out.2.kept hb2).1
  have HR := Lib.hid hR
  clear hR hal2 hr2 hb2 HF HW hB3 H1
  go_wp2_with fail
  generalize (w2.alloc (.cells #[.int .i64 (lx : Int), .slice (some ⟨w1.heap.size + 1, 0, none⟩) mx mx] 28)) = w3 at *
  generalize w2.heap.size = b1 at *
  generalize w1.heap.size + 1 = g1 at *
  clear d0 hlt
  refine (get_val _ HR.out.rx).mono ?_
  rintro e w4 ⟨rfl, hb4⟩
  have hR := HR.out.kept hb4
  obtain ⟨c0, c1', c2, c3, c4⟩ := hR.cells
  have HR4 := Lib.hid hR
  clear hR hb4 HR
  go_wp2_with fail
  refine (rget_val a1 _ lx x q0 w4 HR4.out.bools.1 HL.out.1 hx).mono ?_
  rintro e w' ⟨rfl, rfl⟩
  have hoe : oneI x q0 = if getB x q0 then 1 else 0 := rfl
  generalize getB x q0 = gx at *
  cases gx
  all_goals
    simp only [if_true, if_false, Bool.false_eq_true] at hoe
    have HO := Lib.hid hoe
    clear hoe
    go_wp2_with fail
    refine (num_val _ _ HR4.out.rx hq0).mono ?_
    rintro e w5 ⟨rfl, hb5⟩
    have hR := HR4.out.kept hb5
    clear c0 c1' c2 c3 c4
    obtain ⟨c0, c1', c2, c3, c4⟩ := hR.cells
    have HR5 := Lib.hid hR
    clear hR hb5
    go_wp2_with fail
    refine (rnum_val a1 _ lx x q0 q1 w5 HR5.out.bools.1 HL.out.1 hx hq0).mono ?_
    rintro e w' ⟨rfl, rfl⟩
    go_wp2_with fail
    refine (list_val HR5.out.rx).mono ?_
    rintro e w6 ⟨⟨la, lcap, rfl, hlb⟩, hb6⟩
    have hR := HR5.out.kept hb6
    have HR6 := Lib.hid (And.intro hR hlb)
    clear hR hb6 hlb c0 c1' c2 c3 c4 HR5
    go_wp2_with fail
    refine (rsame_any la a1 lx lx lcap _ x x w6 HR6.out.2 HR6.out.1.bools.1 HL.out.1 HL.out.1 (by omega)).mono ?_
    rintro e w7 ⟨rfl, hb7⟩
    rw [decide_eq_true rfl]
    have hr := HR6.out.1.kept hb7
    obtain ⟨c0, c1', c2, c3, c4⟩ := hr.cells
    clear hb7 HR6 HR4
    go_wp2
    go_region_held3 (fun w' => w'.cell? ⟨b1, 0, none⟩ = some (.int .i64 (lx : Int)) ∧ w'.cell? ⟨b1, 1, none⟩ = some (.slice (some ⟨g1, 0, none⟩) mx mx) ∧ w'.cell? ⟨w.heap.size, 0, none⟩ = some (.int .i64 q0) ∧ w'.cell? ⟨w.heap.size, 1, none⟩ = some (.int .i64 q1) ∧ w'.cell? ⟨w.heap.size, 2, none⟩ = some (.int .i64 q2))
      (first
        | go_keep
        | exact hr.cells)
      (first
        | (go_at_call 20; (with_reducible refine (len_val hr.drew.rx).mono ?_); rintro e u ⟨rfl, hb⟩; have hr := hr.drew.kept hb)
        | (go_at_call 21; (with_reducible refine (one_val2 _ _ hr.rx HO).mono ?_); rintro e u ⟨rfl, hb⟩; have hr := hr.kept hb)
        | (go_at_call 22; (with_reducible refine (ones_val _ _ hr.rx).mono ?_); rintro e u ⟨rfl, hb⟩; have hr := hr.kept hb)
        | (go_at_call 23; (with_reducible refine (rones_val _ _ hr.bools).mono ?_); rintro e u ⟨rfl, rfl⟩)
        | (go_at_call 24; (with_reducible refine (bytes_val hr.rx).mono ?_); rintro e u ⟨rfl, hb⟩; have hr := hr.kept hb)
        | (go_at_call 25; (with_reducible refine (rbytes_val hr.bools).mono ?_); rintro e u ⟨rfl, hb⟩; have hr := hr.kept hb))
    all_goals
      have HF := Lib.hid hr.1
      clear hr
      go_wp2
      go_ret
      exact ⟨rfl, HF.out⟩

end Go.Proofs.Ytpbemhcibhnhkaa
