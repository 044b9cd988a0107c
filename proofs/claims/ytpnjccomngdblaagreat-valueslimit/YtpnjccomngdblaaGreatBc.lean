/- Merged out of: KA KB KC KD KE KF KG KH KI. -/
import Derived.Test.YtpnjccomngdblaaGreatBb
set_option maxRecDepth 100000

section
/- Plain facts on counting bits ahead of a place, and on finding one. -/
namespace Go.Proofs.YtpnjccomngdblaaGreat
open Go.RowKit
open M

/-- How many of the first i bits are b. -/
def rkN (b : Bool) (l : List Bool) (i : Nat) : Nat := (l.take i).count b

theorem cnt_count (l : List Bool) : cnt l = l.count true := by
  induction l with
  | nil => simp [cnt]
  | cons x r ih => cases x <;> simp [cnt, ih]; omega

theorem rkN_mono (b : Bool) (l : List Bool) (i j : Nat) (h : i ≤ j) : rkN b l i ≤ rkN b l j := by
  unfold rkN
  have e : l.take j = l.take i ++ (l.drop i).take (j - i) := by
    rw [show j = i + (j - i) by omega, List.take_add]; simp
  rw [e, List.count_append]; omega

theorem rkN_le (b : Bool) (l : List Bool) (i : Nat) : rkN b l i ≤ l.length := by
  unfold rkN
  exact Nat.le_trans List.count_le_length (by simp; omega)

theorem rkN_le' (b : Bool) (l : List Bool) (i : Nat) : rkN b l i ≤ i := by
  unfold rkN
  exact Nat.le_trans List.count_le_length (by simp; omega)

theorem count_both (l : List Bool) : l.count true + l.count false = l.length := by
  induction l with
  | nil => simp
  | cons x r ih => cases x <;> simp <;> omega

theorem rkN_both (l : List Bool) (i : Nat) (h : i ≤ l.length) : rkN true l i + rkN false l i = i := by
  unfold rkN; rw [count_both]; simp; omega

theorem rkN_succ (b : Bool) (l : List Bool) (i : Nat) (h : i < l.length) : rkN b l (i + 1) = rkN b l i + if l.getD i false = b then 1 else 0 := by
  unfold rkN
  rw [take_snoc l i (l.getD i false) h rfl, List.count_append]
  generalize l.getD i false = x
  cases x <;> cases b <;> simp

theorem rkN_zero (b : Bool) (l : List Bool) : rkN b l 0 = 0 := by simp [rkN]

theorem lo_le (n : Nat) (i : Int) : lo n i ≤ n := by unfold lo; omega

/-- How many of the first i bits are 1, and how many are 0, for any i. -/
def rk1 (l : List Bool) (i : Int) : Nat := rkN true l (lo l.length i)
def rk0 (l : List Bool) (i : Int) : Nat := rkN false l (lo l.length i)

theorem rk1_le (l : List Bool) (i : Int) : rk1 l i ≤ l.length := rkN_le _ _ _
theorem rk0_le (l : List Bool) (i : Int) : rk0 l i ≤ l.length := rkN_le _ _ _
theorem rk1_all (l : List Bool) (n : Nat) (h : l.length = n) : rk1 l (n : Int) = rkN true l n := by
  unfold rk1; rw [h, show lo n (n : Int) = n by unfold lo; omega]
theorem rk0_all (l : List Bool) (n : Nat) (h : l.length = n) : rk0 l (n : Int) = rkN false l n := by
  unfold rk0; rw [h, show lo n (n : Int) = n by unfold lo; omega]
theorem rk1_at (l : List Bool) (i : Nat) (h : i ≤ l.length) : rk1 l (i : Int) = rkN true l i := by
  unfold rk1; rw [show lo l.length (i : Int) = i by unfold lo; omega]
theorem rk0_at (l : List Bool) (i : Nat) (h : i ≤ l.length) : rk0 l (i : Int) = rkN false l i := by
  unfold rk0; rw [show lo l.length (i : Int) = i by unfold lo; omega]
theorem rk_both (l : List Bool) (i : Int) : rk1 l i + rk0 l i = lo l.length i := rkN_both l _ (lo_le _ _)

/-- Counts of blocks and the rest. -/
theorem rk_block (l : List Bool) (a t : Nat) (h : a ≤ t) (ht : t ≤ l.length) : rkN true l a + onesN l (a : Int) (t : Int) = rkN true l t := by
  unfold rkN onesN
  rw [show lo l.length (a : Int) = a by unfold lo; omega, show hi l.length (a : Int) (t : Int) = t by unfold hi lo; omega, cnt_count, ← List.count_append]
  congr 1
  have : l.take t = l.take a ++ (l.drop a).take (t - a) := by
    rw [show t = a + (t - a) by omega, List.take_add]; simp
  exact this.symm

/-- The first place from 0 up to n of which p holds; n, if there is none. -/
def firstN (n : Nat) (p : Nat → Bool) : Nat := (List.range n).findIdx p

theorem firstN_eq (n : Nat) (p : Nat → Bool) (k : Nat) (hk : k ≤ n) (h1 : ∀ j, j < k → p j = false) (h2 : k < n → p k = true) : firstN n p = k := by
  unfold firstN
  rcases Nat.lt_or_ge k n with h | h
  · rw [List.findIdx_eq (by simpa using h)]
    refine ⟨by simpa using h2 h, ?_⟩
    intro j hj
    simpa using h1 j hj
  · have e : k = n := by omega
    subst e
    have := List.findIdx_eq_length (xs := List.range k) (p := p)
    rw [List.length_range] at this
    rw [this]
    intro y hy
    exact h1 y (by simpa using hy)

theorem firstN_le (n : Nat) (p : Nat → Bool) : firstN n p ≤ n := by
  have := List.findIdx_le_length (xs := List.range n) (p := p)
  simpa [firstN] using this

/-- The place of the bit b ahead of which just k are; -1, if there is none. -/
def selN (b : Bool) (l : List Bool) (k : Int) : Int :=
  if 0 ≤ k ∧ k < (rkN b l l.length : Int) then ((firstN l.length fun i => decide (k < (rkN b l (i + 1) : Int)) : Nat) : Int) else -1

theorem selN_none (b : Bool) (l : List Bool) (k : Int) (h : k < 0 ∨ (rkN b l l.length : Int) ≤ k) : selN b l k = -1 := by
  unfold selN; rw [if_neg (by omega)]

end Go.Proofs.YtpnjccomngdblaaGreat
end

section
/- A rank in memory; the contracts of Len, One, Bits, keep. -/
namespace Go.Proofs.YtpnjccomngdblaaGreat
open Go.RowKit
open M
attribute [local go_sem ↓] Go.wp_at_zero Go.wp_at_succ

/-- What a rank is made of. -/
structure RP where
  n : Nat
  a : Option Addr
  m : Nat
  c : Nat
  cn : Nat
  cW : Nat
  cL : Nat
  a2 : Option Addr
  m2 : Nat
  c2 : Nat

/-- The ones ahead of each border of blocks. -/
def ahd (l : List Bool) : List Int := (List.range (l.length / 256 + 1)).map fun j => (rkN true l (j * 256) : Int)

/-- The rank of the bits l in memory. -/
structure RK (w : World) (R : RP) (l : List Bool) : Prop where
  row : RowAt w (.slice R.a R.m R.c) l
  len : l.length = R.n
  small : R.n ≤ 1000000000
  cnts : (R.cn = 0 ∧ l = []) ∨ IRow w R.cn R.cW R.cL R.a2 R.m2 R.c2 (ahd l)

theorem RK.kept {w w' : World} {R : RP} {l : List Bool} (h : RK w R l) (hb : Below w.heap.size w w') : RK w' R l :=
  { h with row := h.row.kept hb, cnts := h.cnts.imp id fun x => x.kept hb }

/-- The six cells of a boxed rank. -/
structure RBx (w : World) (b : Nat) (R : RP) : Prop where
  c0 : w.cell? ⟨b, 0, none⟩ = some (.int .i64 (R.n : Int))
  c1 : w.cell? ⟨b, 1, none⟩ = some (.slice R.a R.m R.c)
  c2 : w.cell? ⟨b, 2, none⟩ = some (.int .i64 (R.cn : Int))
  c3 : w.cell? ⟨b, 3, none⟩ = some (.int .i64 (R.cW : Int))
  c4 : w.cell? ⟨b, 4, none⟩ = some (.int .i64 (R.cL : Int))
  c5 : w.cell? ⟨b, 5, none⟩ = some (.slice R.a2 R.m2 R.c2)
theorem RBx.lt {w : World} {b : Nat} {R : RP} (h : RBx w b R) : b < w.heap.size := World.block_lt_of_cell? w _ h.c0
theorem RBx.kept {w w' : World} {b : Nat} {R : RP} (h : RBx w b R) (hb : Below w.heap.size w w') : RBx w' b R :=
  ⟨by rw [hb.cell (p := ⟨b, 0, none⟩) h.lt]; exact h.c0, by rw [hb.cell (p := ⟨b, 1, none⟩) h.lt]; exact h.c1, by rw [hb.cell (p := ⟨b, 2, none⟩) h.lt]; exact h.c2,
   by rw [hb.cell (p := ⟨b, 3, none⟩) h.lt]; exact h.c3, by rw [hb.cell (p := ⟨b, 4, none⟩) h.lt]; exact h.c4, by rw [hb.cell (p := ⟨b, 5, none⟩) h.lt]; exact h.c5⟩
theorem RBx.new (w : World) (R : RP) : RBx (w.alloc (.cells #[.int .i64 (R.n : Int), .slice R.a R.m R.c, .int .i64 (R.cn : Int), .int .i64 (R.cW : Int), .int .i64 (R.cL : Int), .slice R.a2 R.m2 R.c2] 35)) w.heap.size R := ⟨by simp, by simp, by simp, by simp, by simp, by simp⟩

theorem rbel (w : World) (R : RP) : Below w.heap.size w (w.alloc (.cells #[.int .i64 (R.n : Int), .slice R.a R.m R.c, .int .i64 (R.cn : Int), .int .i64 (R.cW : Int), .int .i64 (R.cL : Int), .slice R.a2 R.m2 R.c2] 35)) := (Below.refl _ _).alloc (Nat.le_refl _) _

/-- The boxed rank at b, in a call that began at w. -/
structure RA (w : World) (b : Nat) (R : RP) (l : List Bool) (u : World) : Prop where
  box : RBx u b R
  rk : RK u R l
  bel : Below w.heap.size w u

theorem RA.kept {w u u' : World} {b : Nat} {R : RP} {l : List Bool} (h : RA w b R l u) (hb : Below u.heap.size u u') : RA w b R l u' :=
  ⟨h.box.kept hb, h.rk.kept hb, h.bel.trans (hb.mono h.bel.size)⟩
theorem RA.drew {w u : World} {b : Nat} {R : RP} {l : List Bool} (h : RA w b R l u) : RA w b R l u.drew := h.kept ((Below.refl _ _).drew)
theorem RA.new {w : World} {R : RP} {l : List Bool} (h : RK w R l) : RA w w.heap.size R l (w.alloc (.cells #[.int .i64 (R.n : Int), .slice R.a R.m R.c, .int .i64 (R.cn : Int), .int .i64 (R.cW : Int), .int .i64 (R.cL : Int), .slice R.a2 R.m2 R.c2] 35)) :=
  ⟨RBx.new w R, h.kept (rbel w R), rbel w R⟩

theorem below_drewN {B : Nat} {w u : World} (h : Below B w u) (n : Nat) : Below B w (u.drewN n) :=
  ⟨h.os, h.tape, h.output, h.size, h.block⟩

theorem blen_rk {w : World} {R : RP} {l : List Bool} (h : RK w R l) :
    Calls Tryz.prog 97 #[.agg #[.int .i64 (R.n : Int), .slice R.a R.m R.c]] w fun e w' => e = .returned (.int .i64 (R.n : Int)) ∧ Below w.heap.size w w' := by
  have := len_any _ l w h.row
  rw [h.len] at this
  exact this

theorem rlen_any (R : RP) (l : List Bool) (w : World) (h : RK w R l) :
    Calls Tryz.prog 142 #[.agg #[.int .i64 (R.n : Int), .slice R.a R.m R.c, .int .i64 (R.cn : Int), .int .i64 (R.cW : Int), .int .i64 (R.cL : Int), .slice R.a2 R.m2 R.c2]] w fun e w' => e = .returned (.int .i64 (R.n : Int)) ∧ Below w.heap.size w w' := by
  have HF := Lib.hid (blen_rk (h.kept (rbel w R)))
  clear h
  go_enter Tryz.func142, Tryz.ntmps142
  go_wp2_with fail
  refine HF.out.mono ?_
  rintro e w' ⟨rfl, hb⟩
  have HB := Lib.hid ((rbel w R).trans (hb.mono (rbel w R).size))
  clear hb HF
  go_wp2
  go_ret
  exact ⟨rfl, HB.out⟩
theorem rlen_ra {w u : World} {b : Nat} {R : RP} {l : List Bool} (h : RA w b R l u) :
    Calls Tryz.prog 142 #[.agg #[.int .i64 (R.n : Int), .slice R.a R.m R.c, .int .i64 (R.cn : Int), .int .i64 (R.cW : Int), .int .i64 (R.cL : Int), .slice R.a2 R.m2 R.c2]] u fun e u' => e = .returned (.int .i64 (R.n : Int)) ∧ RA w b R l u' :=
  (rlen_any R l u h.rk).mono fun _ _ hh => ⟨hh.1, h.kept hh.2⟩

theorem bone_rk {w : World} {R : RP} {l : List Bool} (i : Int) (h : RK w R l) :
    Calls Tryz.prog 110 #[.agg #[.int .i64 (R.n : Int), .slice R.a R.m R.c], .int .i64 i] w fun e w' => e = .returned (.int .i64 (oneI l i)) ∧ Below w.heap.size w w' := by
  have := one_any _ l i w h.row (by rw [h.len]; exact h.small)
  rw [h.len] at this
  exact this

theorem rone_any (R : RP) (l : List Bool) (i : Int) (w : World) (h : RK w R l) :
    Calls Tryz.prog 84 #[.agg #[.int .i64 (R.n : Int), .slice R.a R.m R.c, .int .i64 (R.cn : Int), .int .i64 (R.cW : Int), .int .i64 (R.cL : Int), .slice R.a2 R.m2 R.c2], .int .i64 i] w fun e w' => e = .returned (.int .i64 (oneI l i)) ∧ Below w.heap.size w w' := by
  have HF := Lib.hid (bone_rk i (h.kept (rbel w R)))
  clear h
  go_enter Tryz.func84, Tryz.ntmps84
  go_wp2_with fail
  refine HF.out.mono ?_
  rintro e w' ⟨rfl, hb⟩
  have HB := Lib.hid ((rbel w R).trans (hb.mono (rbel w R).size))
  clear hb HF
  go_wp2
  go_ret
  exact ⟨rfl, HB.out⟩
theorem rone_ra {w u : World} {b : Nat} {R : RP} {l : List Bool} (i : Int) (h : RA w b R l u) :
    Calls Tryz.prog 84 #[.agg #[.int .i64 (R.n : Int), .slice R.a R.m R.c, .int .i64 (R.cn : Int), .int .i64 (R.cW : Int), .int .i64 (R.cL : Int), .slice R.a2 R.m2 R.c2], .int .i64 i] u fun e u' => e = .returned (.int .i64 (oneI l i)) ∧ RA w b R l u' :=
  (rone_any R l i u h.rk).mono fun _ _ hh => ⟨hh.1, h.kept hh.2⟩

set_option maxHeartbeats 1000000 in
theorem keep_any (R : RP) (l : List Bool) (i : Int) (w : World) (h : RK w R l) :
    Calls Tryz.prog 111 #[.agg #[.int .i64 (R.n : Int), .slice R.a R.m R.c, .int .i64 (R.cn : Int), .int .i64 (R.cW : Int), .int .i64 (R.cL : Int), .slice R.a2 R.m2 R.c2], .int .i64 i] w fun e w' => e = .returned (.int .i64 (lo R.n i : Nat)) ∧ Below w.heap.size w w' := by
  have HF := Lib.hid (rlen_ra (RA.new h))
  clear h
  go_enter Tryz.func111, Tryz.ntmps111
  go_wp2_with fail
  all_goals
    refine HF.out.mono ?_
    rintro e w' ⟨rfl, hA⟩
    have HB := Lib.hid hA.bel
    clear hA HF
    go_wp2
    all_goals
      go_ret
      exact ⟨ret_int (by unfold lo; omega), HB.out⟩
theorem keep_ra {w u : World} {b : Nat} {R : RP} {l : List Bool} (i : Int) (h : RA w b R l u) :
    Calls Tryz.prog 111 #[.agg #[.int .i64 (R.n : Int), .slice R.a R.m R.c, .int .i64 (R.cn : Int), .int .i64 (R.cW : Int), .int .i64 (R.cL : Int), .slice R.a2 R.m2 R.c2], .int .i64 i] u fun e u' => e = .returned (.int .i64 (lo R.n i : Nat)) ∧ RA w b R l u' :=
  (keep_any R l i u h.rk).mono fun _ _ hh => ⟨hh.1, h.kept hh.2⟩

end Go.Proofs.YtpnjccomngdblaaGreat
end

section
/- The contracts of Rank1, Ones and Rank0 of ranks. -/
namespace Go.Proofs.YtpnjccomngdblaaGreat
open Go.RowKit
open M
attribute [local go_sem ↓] Go.wp_at_zero Go.wp_at_succ

theorem bones_ra {w u : World} {b : Nat} {R : RP} {l : List Bool} (x y : Int) (h : RA w b R l u) :
    Calls Tryz.prog 98 #[.agg #[.int .i64 (R.n : Int), .slice R.a R.m R.c], .int .i64 x, .int .i64 y] u fun e u' => e = .returned (.int .i64 (onesN l x y : Nat)) ∧ RA w b R l u' := by
  have := ones_any _ _ _ l x y u h.rk.row (by rw [h.rk.len]; exact h.rk.small)
  rw [h.rk.len] at this
  exact this.mono fun _ _ hh => ⟨hh.1, h.kept hh.2⟩

theorem ahd_get (l : List Bool) (j : Nat) (h : j ≤ l.length / 256) : (ahd l).getD j 0 = (rkN true l (j * 256) : Int) := by
  unfold ahd
  simp [List.getD_eq_getElem?_getD, show j < l.length / 256 + 1 by omega]
theorem ahd_length (l : List Bool) : (ahd l).length = l.length / 256 + 1 := by simp [ahd]

/-- What Get of the counts tells: the count, and some error. -/
def GetEnd (v : Nat) (P : World → Prop) (e : Ending) (u' : World) : Prop := ∃ er : Int, e = .returned (.tuple #[.int .i64 (v : Int), .int .i64 er]) ∧ P u'

theorem rget_ra {w u : World} {b : Nat} {R : RP} {l : List Bool} (j : Nat) (x : Int) (h : RA w b R l u) (hj : j ≤ R.n / 256) (hx : x = (j : Int)) :
    Calls Tryz.prog 59 #[.agg #[.int .i64 (R.cn : Int), .int .i64 (R.cW : Int), .int .i64 (R.cL : Int), .slice R.a2 R.m2 R.c2], .int .i64 x] u (GetEnd (rkN true l (j * 256)) (RA w b R l)) := by
  subst hx
  rcases h.rk.cnts with ⟨h0, rfl⟩ | hi
  · refine (iget_out R.cn R.cW R.cL R.a2 R.m2 R.c2 (j : Int) u (by omega)).mono ?_
    rintro e u' ⟨rfl, hb⟩
    exact ⟨13, by simp [rkN], h.kept hb⟩
  · have hlen := h.rk.len
    have hal := hi.len
    rw [ahd_length] at hal
    refine (iget_in R.cn R.cW R.cL R.a2 R.m2 R.c2 (ahd l) j u hi.row hi.len hi.mul hi.lb (by have := hi.hn; omega) hi.hW hi.fit (by omega)).mono ?_
    rintro e u' ⟨rfl, hb⟩
    exact ⟨0, by rw [ahd_get l j (by omega)], h.kept hb⟩

set_option maxHeartbeats 1000000 in
theorem rank1_any (R : RP) (l : List Bool) (i : Int) (w : World) (h : RK w R l) :
    Calls Tryz.prog 88 #[.agg #[.int .i64 (R.n : Int), .slice R.a R.m R.c, .int .i64 (R.cn : Int), .int .i64 (R.cW : Int), .int .i64 (R.cL : Int), .slice R.a2 R.m2 R.c2], .int .i64 i] w fun e w' => e = .returned (.int .i64 (rk1 l i : Nat)) ∧ Below w.heap.size w w' := by
  have hA := RA.new h
  have hs := h.small
  have hlen := h.len
  have hk := keep_ra i hA
  have hv : rk1 l i = rkN true l (lo R.n i) := by unfold rk1; rw [hlen]
  have ht := lo_le R.n i
  rw [hv]
  clear hv h hA
  generalize lo R.n i = t at *
  have hb1 := rk_block l (t / 256 * 256) t (by omega) (by omega)
  have hb2 := rkN_le true l t
  rw [hlen] at hb2
  have HB := Lib.hid (And.intro hb1 hb2)
  have HK := Lib.hid hk
  clear hb1 hb2 hk hlen
  go_enter Tryz.func88, Tryz.ntmps88
  go_wp2_with fail
  refine HK.out.mono ?_
  rintro e u ⟨rfl, hA⟩
  clear HK
  obtain ⟨l0, l1, l2, l3, l4, l5⟩ := hA.box
  have HA := Lib.hid hA
  clear hA
  generalize hbx : w.heap.size = bx at *
  go_wp2_with fail
  clear l0 l1 l2 l3 l4 l5
  refine (rget_ra (t / 256) _ HA.out (by omega) (by omega)).mono ?_
  rintro e u2 ⟨er, rfl, hA⟩
  clear HA
  obtain ⟨l0, l1, l2, l3, l4, l5⟩ := hA.box
  have HA := Lib.hid hA
  clear hA
  generalize hr : rkN true l (t / 256 * 256) = r at *
  clear hr
  go_wp2_with fail
  clear l0 l1 l2 l3 l4 l5
  have e1 : (t : Int) / 256 * 256 = ((t / 256 * 256 : Nat) : Int) := by omega
  rw [e1]
  refine (bones_ra _ _ HA.out).mono ?_
  rintro e u3 ⟨rfl, hA⟩
  have HL := Lib.hid hA.bel
  subst hbx
  have h1 := HB.out.1
  have h2 := HB.out.2
  clear hA HA e1
  generalize onesN l ((t / 256 * 256 : Nat) : Int) (t : Int) = o at *
  clear HB
  have HE := Lib.hid h1
  have h3 : r ≤ R.n := by omega
  have h4 : o ≤ R.n := by omega
  clear h1 h2
  go_wp2
  go_ret
  exact ⟨ret_int (by rw [← HE.out]; go_num), HL.out⟩
theorem rank1_ra {w u : World} {b : Nat} {R : RP} {l : List Bool} (i : Int) (h : RA w b R l u) :
    Calls Tryz.prog 88 #[.agg #[.int .i64 (R.n : Int), .slice R.a R.m R.c, .int .i64 (R.cn : Int), .int .i64 (R.cW : Int), .int .i64 (R.cL : Int), .slice R.a2 R.m2 R.c2], .int .i64 i] u fun e u' => e = .returned (.int .i64 (rk1 l i : Nat)) ∧ RA w b R l u' :=
  (rank1_any R l i u h.rk).mono fun _ _ hh => ⟨hh.1, h.kept hh.2⟩

set_option maxHeartbeats 1000000 in
theorem rank0_any (R : RP) (l : List Bool) (i : Int) (w : World) (h : RK w R l) :
    Calls Tryz.prog 109 #[.agg #[.int .i64 (R.n : Int), .slice R.a R.m R.c, .int .i64 (R.cn : Int), .int .i64 (R.cW : Int), .int .i64 (R.cL : Int), .slice R.a2 R.m2 R.c2], .int .i64 i] w fun e w' => e = .returned (.int .i64 (rk0 l i : Nat)) ∧ Below w.heap.size w w' := by
  have hA := RA.new h
  have hs := h.small
  have hlen := h.len
  have hb := rk_both l i
  rw [hlen] at hb
  have hk := fun u (hu : RA w w.heap.size R l u) => keep_ra i hu
  have hr := fun u (hu : RA w w.heap.size R l u) => rank1_ra i hu
  have ht := lo_le R.n i
  have hle : rk1 l i ≤ lo R.n i := by omega
  have HK := Lib.hid hk
  have HR := Lib.hid hr
  clear h hlen hk hr
  generalize lo R.n i = t at *
  generalize rk1 l i = y at *
  generalize rk0 l i = z at *
  obtain rfl : z = t - y := by omega
  clear hb
  have q1 : IntKind.i64.wrap ((t : Int) - (y : Int)) = (t : Int) - (y : Int) := IntWalk.i64_in _ (by omega)
  go_enter Tryz.func109, Tryz.ntmps109
  go_wp2
  obtain ⟨l0, l1, l2, l3, l4, l5⟩ := hA.box
  generalize w.alloc (.cells #[.int .i64 (R.n : Int), .slice R.a R.m R.c, .int .i64 (R.cn : Int), .int .i64 (R.cW : Int), .int .i64 (R.cL : Int), .slice R.a2 R.m2 R.c2] 35) = u at *
  generalize hbx : w.heap.size = bx at *
  go_region_held3 (fun w' => w'.cell? ⟨bx, 0, none⟩ = some (.int .i64 (R.n : Int)) ∧ w'.cell? ⟨bx, 1, none⟩ = some (.slice R.a R.m R.c) ∧ w'.cell? ⟨bx, 2, none⟩ = some (.int .i64 (R.cn : Int)) ∧ w'.cell? ⟨bx, 3, none⟩ = some (.int .i64 (R.cW : Int)) ∧ w'.cell? ⟨bx, 4, none⟩ = some (.int .i64 (R.cL : Int)) ∧ w'.cell? ⟨bx, 5, none⟩ = some (.slice R.a2 R.m2 R.c2))
    (first
      | go_keep
      | exact ⟨hA.box.c0, hA.box.c1, hA.box.c2, hA.box.c3, hA.box.c4, hA.box.c5⟩)
    (first
      | (go_at_call 111; (with_reducible refine (HK.out _ hA).mono ?_); rintro e u ⟨rfl, hA⟩)
      | (go_at_call 111; (with_reducible refine (HK.out _ hA.drew).mono ?_); rintro e u ⟨rfl, hA⟩)
      | (go_at_call 88; (with_reducible refine (HR.out _ hA).mono ?_); rintro e u ⟨rfl, hA⟩)
      | (go_at_call 88; (with_reducible refine (HR.out _ hA.drew).mono ?_); rintro e u ⟨rfl, hA⟩))
  all_goals
    have HB := Lib.hid hA.bel
    subst hbx
    clear hA q1
    go_wp2
    go_ret
    exact ⟨ret_int (by omega), HB.out⟩
theorem rank0_ra {w u : World} {b : Nat} {R : RP} {l : List Bool} (i : Int) (h : RA w b R l u) :
    Calls Tryz.prog 109 #[.agg #[.int .i64 (R.n : Int), .slice R.a R.m R.c, .int .i64 (R.cn : Int), .int .i64 (R.cW : Int), .int .i64 (R.cL : Int), .slice R.a2 R.m2 R.c2], .int .i64 i] u fun e u' => e = .returned (.int .i64 (rk0 l i : Nat)) ∧ RA w b R l u' :=
  (rank0_any R l i u h.rk).mono fun _ _ hh => ⟨hh.1, h.kept hh.2⟩

end Go.Proofs.YtpnjccomngdblaaGreat
end

section
/- The contract of firstPlace, for whatever is asked. -/
namespace Go.Proofs.YtpnjccomngdblaaGreat
open Go.RowKit
open M
attribute [local go_sem ↓] Go.wp_at_zero Go.wp_at_succ

end Go.Proofs.YtpnjccomngdblaaGreat
end

section
/- What find holds, and the contract of the closure that it hands on. -/
namespace Go.Proofs.YtpnjccomngdblaaGreat
open Go.RowKit
open M
attribute [local go_sem ↓] Go.wp_at_zero Go.wp_at_succ

/-- The boxed rank at b, k at kb, the counting function at fb. -/
structure FA (w : World) (b : Nat) (R : RP) (l : List Bool) (kb fb : Nat) (k : Int) (fv : Value) (u : World) : Prop where
  ra : RA w b R l u
  kc : u.cell? ⟨kb, 0, none⟩ = some (.int .i64 k)
  fc : u.cell? ⟨fb, 0, none⟩ = some fv

theorem FA.kept {w u u' : World} {b kb fb : Nat} {R : RP} {l : List Bool} {k : Int} {fv : Value} (h : FA w b R l kb fb k fv u) (hb : Below u.heap.size u u') : FA w b R l kb fb k fv u' :=
  ⟨h.ra.kept hb, by rw [hb.cell (p := ⟨kb, 0, none⟩) (World.block_lt_of_cell? u _ h.kc)]; exact h.kc, by rw [hb.cell (p := ⟨fb, 0, none⟩) (World.block_lt_of_cell? u _ h.fc)]; exact h.fc⟩
theorem FA.drew {w u : World} {b kb fb : Nat} {R : RP} {l : List Bool} {k : Int} {fv : Value} (h : FA w b R l kb fb k fv u) : FA w b R l kb fb k fv u.drew := h.kept ((Below.refl _ _).drew)

theorem rlen_fa {w u : World} {b kb fb : Nat} {R : RP} {l : List Bool} {k : Int} {fv : Value} (h : FA w b R l kb fb k fv u) :
    Calls Tryz.prog 142 #[.agg #[.int .i64 (R.n : Int), .slice R.a R.m R.c, .int .i64 (R.cn : Int), .int .i64 (R.cW : Int), .int .i64 (R.cL : Int), .slice R.a2 R.m2 R.c2]] u fun e u' => e = .returned (.int .i64 (R.n : Int)) ∧ FA w b R l kb fb k fv u' :=
  (rlen_any R l u h.ra.rk).mono fun _ _ hh => ⟨hh.1, h.kept hh.2⟩
theorem rank1_fa {w u : World} {b kb fb : Nat} {R : RP} {l : List Bool} {k : Int} {fv : Value} (i : Int) (h : FA w b R l kb fb k fv u) :
    Calls Tryz.prog 88 #[.agg #[.int .i64 (R.n : Int), .slice R.a R.m R.c, .int .i64 (R.cn : Int), .int .i64 (R.cW : Int), .int .i64 (R.cL : Int), .slice R.a2 R.m2 R.c2], .int .i64 i] u fun e u' => e = .returned (.int .i64 (rk1 l i : Nat)) ∧ FA w b R l kb fb k fv u' :=
  (rank1_any R l i u h.ra.rk).mono fun _ _ hh => ⟨hh.1, h.kept hh.2⟩
theorem rank0_fa {w u : World} {b kb fb : Nat} {R : RP} {l : List Bool} {k : Int} {fv : Value} (i : Int) (h : FA w b R l kb fb k fv u) :
    Calls Tryz.prog 109 #[.agg #[.int .i64 (R.n : Int), .slice R.a R.m R.c, .int .i64 (R.cn : Int), .int .i64 (R.cW : Int), .int .i64 (R.cL : Int), .slice R.a2 R.m2 R.c2], .int .i64 i] u fun e u' => e = .returned (.int .i64 (rk0 l i : Nat)) ∧ FA w b R l kb fb k fv u' :=
  (rank0_any R l i u h.ra.rk).mono fun _ _ hh => ⟨hh.1, h.kept hh.2⟩

end Go.Proofs.YtpnjccomngdblaaGreat
end

section
/- The contract of find. -/
namespace Go.Proofs.YtpnjccomngdblaaGreat
open Go.RowKit
open M
attribute [local go_sem ↓] Go.wp_at_zero Go.wp_at_succ

theorem FA.new {w : World} {R : RP} {l : List Bool} (k : Int) (fv : Value) (h : RK w R l) :
    FA w w.heap.size R l (w.heap.size + 1) (w.heap.size + 1 + 1) k fv (((w.alloc (.cells #[.int .i64 (R.n : Int), .slice R.a R.m R.c, .int .i64 (R.cn : Int), .int .i64 (R.cW : Int), .int .i64 (R.cL : Int), .slice R.a2 R.m2 R.c2] 35)).alloc (.cells #[.int .i64 k] 3)).alloc (.cells #[fv] 75)) := by
  have hA := RA.new h
  generalize hw1 : w.alloc (.cells #[.int .i64 (R.n : Int), .slice R.a R.m R.c, .int .i64 (R.cn : Int), .int .i64 (R.cW : Int), .int .i64 (R.cL : Int), .slice R.a2 R.m2 R.c2] 35) = w1 at *
  have hz1 : w1.heap.size = w.heap.size + 1 := by rw [← hw1, World.size_alloc]
  have b1 : Below w1.heap.size w1 (w1.alloc (.cells #[.int .i64 k] 3)) := (Below.refl _ _).alloc (Nat.le_refl _) _
  have c1 : (w1.alloc (.cells #[.int .i64 k] 3)).cell? ⟨w1.heap.size, 0, none⟩ = some (.int .i64 k) := by simp
  generalize hw2 : w1.alloc (.cells #[.int .i64 k] 3) = w2 at *
  have hz2 : w2.heap.size = w1.heap.size + 1 := by rw [← hw2, World.size_alloc]
  have b2 : Below w2.heap.size w2 (w2.alloc (.cells #[fv] 75)) := (Below.refl _ _).alloc (Nat.le_refl _) _
  have c2 : (w2.alloc (.cells #[fv] 75)).cell? ⟨w2.heap.size, 0, none⟩ = some fv := by simp
  rw [← hz1, ← hz2]
  exact ⟨(hA.kept b1).kept b2, by rw [b2.cell (p := ⟨w1.heap.size, 0, none⟩) (by simp only; omega)]; exact c1, c2⟩

theorem sel_mono (b : Bool) (l : List Bool) (k : Int) (n i j : Nat) (hij : i ≤ j) (_hj : j < n) (h : decide (k < (rkN b l (i + 1) : Int)) = true) : decide (k < (rkN b l (j + 1) : Int)) = true := by
  have := rkN_mono b l (i + 1) (j + 1) (by omega)
  simp at h ⊢
  omega

end Go.Proofs.YtpnjccomngdblaaGreat
end

section
/- The contracts of Select1, Select0, Next1, Prev1 of ranks. -/
namespace Go.Proofs.YtpnjccomngdblaaGreat
open Go.RowKit
open M
attribute [local go_sem ↓] Go.wp_at_zero Go.wp_at_succ

/-- The first place from i on whose bit is 1; the last one up to i. -/
def nextN (l : List Bool) (i : Int) : Int := selN true l (rk1 l i : Nat)
def prevN (l : List Bool) (i : Int) : Int := selN true l ((rk1 l (min i ((l.length : Int) - 1) + 1) : Int) - 1)

end Go.Proofs.YtpnjccomngdblaaGreat
end

section
/- The contract of New of ranks. -/
namespace Go.Proofs.YtpnjccomngdblaaGreat
open Go.RowKit
open M
attribute [local go_sem ↓] Go.wp_at_zero Go.wp_at_succ

/-- A row of small numbers, made tight: a new one. -/
theorem tight_new (a0 : Option Addr) (n cap : Nat) (xs : List Int) (w : World) (K : Nat) (hK : K ≤ 62) (hx : NumsAt .i64 w a0 xs) (hn : xs.length = n) (hn' : n ≤ 10000000) (hs : ∀ x ∈ xs, 0 ≤ x ∧ x < 2 ^ K) :
    Calls Tryz.prog 99 #[.slice a0 n cap] w fun e w' => ∃ W g L m : Nat, e = .returned (.tuple #[.agg #[.int .i64 (n : Int), .int .i64 (W : Int), .int .i64 (L : Int), .slice (some ⟨g, 0, none⟩) m m], .int .i64 0]) ∧
      IRow w' n W L (some ⟨g, 0, none⟩) m m xs ∧ w.heap.size ≤ g ∧ Below w.heap.size w w' := by
  have e2 : ((2 : Int) ^ K) = ((2 ^ K : Nat) : Int) := by simp
  have hp : (2 : Nat) ^ K ≤ 2 ^ 62 := Nat.pow_le_pow_right (by decide) hK
  have hp0 : (0 : Nat) < 2 ^ K := Nat.pow_pos (by decide)
  rw [e2] at hs
  have h64 : I64s xs := fun x hx => by have := hs x hx; omega
  have hm : (mostI xs).toNat < 2 ^ K := by
    rcases mostI_mem xs with e | e
    · rw [e]; exact hp0
    · have := hs _ e; omega
  have hW := (wid_le _ _).2 hm
  have hfit : Fits xs (wid (mostI xs).toNat) := by
    intro x hx
    have h1 := hs x hx
    have h2 := (mostI_ge xs).2 x hx
    have h3 := (wid_le (mostI xs).toNat _).1 (Nat.le_refl _)
    have e3 : ((2 : Int) ^ wid (mostI xs).toNat) = ((2 ^ wid (mostI xs).toNat : Nat) : Int) := by simp
    rw [e3]
    omega
  refine (tight_ok a0 n cap xs _ w hx hn hn' h64 rfl (by omega) hfit).mono ?_
  rintro e w' ⟨g, rfl, hr, hg, hb⟩
  exact ⟨_, g, _, _, rfl, ⟨hr, hn, rfl, hfit, by omega, hn'⟩, hg, hb⟩

/-- The counts that are made: up to number i, the others 0. -/
def cl (l : List Bool) (K i : Nat) : List Int := (List.range K).map fun j => if j ≤ i then (rkN true l (j * 256) : Int) else 0
theorem cl_length (l : List Bool) (K i : Nat) : (cl l K i).length = K := by simp [cl]
theorem cl_zero (l : List Bool) (K : Nat) : (cl l K 0).map (Value.int .i64) = List.replicate K (.int .i64 0) := by
  rw [List.eq_replicate_iff]
  refine ⟨by simp [cl], ?_⟩
  intro b hb
  simp only [cl, List.map_map, List.mem_map, List.mem_range, Function.comp] at hb
  obtain ⟨j, -, rfl⟩ := hb
  by_cases h : j ≤ 0
  · obtain rfl : j = 0 := by omega
    simp [rkN]
  · simp; intro h'; omega
theorem cl_get (l : List Bool) (K i j : Nat) (hj : j < K) : ((cl l K i).map (Value.int .i64))[j]? = some (.int .i64 (if j ≤ i then (rkN true l (j * 256) : Int) else 0)) := by
  simp [cl, hj]
theorem cl_set (l : List Bool) (K i : Nat) : ((cl l K i).map (Value.int .i64)).set (i + 1) (.int .i64 (rkN true l ((i + 1) * 256) : Nat)) = (cl l K (i + 1)).map (Value.int .i64) := by
  apply List.ext_getElem?
  intro j
  by_cases hj : j < K
  · rw [cl_get l K (i + 1) j hj, List.getElem?_set]
    by_cases e : i + 1 = j
    · subst e; rw [if_pos rfl, if_pos (by simp [cl]; omega), if_pos (Nat.le_refl _)]
    · rw [if_neg e, cl_get l K i j hj]
      by_cases h : j ≤ i
      · rw [if_pos h, if_pos (by omega)]
      · rw [if_neg h, if_neg (by omega)]
  · rw [List.getElem?_eq_none (by simp [cl]; omega), List.getElem?_eq_none (by simp [cl]; omega)]
theorem cl_ahd (l : List Bool) (K : Nat) (hK : K = l.length / 256 + 1) : cl l K (K - 1) = ahd l := by
  unfold cl ahd
  rw [← hK]
  apply List.map_congr_left
  intro j hj
  rw [if_pos (by have := List.mem_range.1 hj; omega)]

/-- What New holds while it counts: block w.heap.size has the row, the next one the rank to come. -/
structure NW (w : World) (n : Nat) (a : Option Addr) (m c : Nat) (l : List Bool) (K g i : Nat) (u : World) : Prop where
  b0 : u.cell? ⟨w.heap.size, 0, none⟩ = some (.int .i64 (n : Int))
  b1 : u.cell? ⟨w.heap.size, 1, none⟩ = some (.slice a m c)
  r0 : u.cell? ⟨w.heap.size + 1, 0, none⟩ = some (.int .i64 0)
  r1 : u.cell? ⟨w.heap.size + 1, 1, none⟩ = some (.slice none 0 0)
  r2 : u.cell? ⟨w.heap.size + 1, 2, none⟩ = some (.int .i64 0)
  r3 : u.cell? ⟨w.heap.size + 1, 3, none⟩ = some (.int .i64 0)
  r4 : u.cell? ⟨w.heap.size + 1, 4, none⟩ = some (.int .i64 0)
  r5 : u.cell? ⟨w.heap.size + 1, 5, none⟩ = some (.slice none 0 0)
  z0 : u.frozen? ⟨w.heap.size + 1, 0, none⟩ = false
  z1 : u.frozen? ⟨w.heap.size + 1, 1, none⟩ = false
  z2 : u.frozen? ⟨w.heap.size + 1, 2, none⟩ = false
  z3 : u.frozen? ⟨w.heap.size + 1, 3, none⟩ = false
  z4 : u.frozen? ⟨w.heap.size + 1, 4, none⟩ = false
  z5 : u.frozen? ⟨w.heap.size + 1, 5, none⟩ = false
  own : u.ownsRow (w.heap.size + 2) 3 1 (.slice (some ⟨g, 0, none⟩) K K) K ((cl l K i).map (Value.int .i64))
  row : RowAt u (.slice a m c) l
  bel : Below w.heap.size w u

variable {w u u' : World} {n : Nat} {a : Option Addr} {m c : Nat} {l : List Bool} {K g i : Nat}

theorem NW.kp {X : Nat → Prop} (h : NW w n a m c l K g i u) (hk : Kp X u u') (hx : ∀ k, X k → k = g) (hr : RowAt u' (.slice a m c) l)
    (ho : u'.ownsRow (w.heap.size + 2) 3 1 (.slice (some ⟨g, 0, none⟩) K K) K ((cl l K i).map (Value.int .i64))) : NW w n a m c l K g i u' := by
  have hgb := (h.own.lt g rfl).1
  have l0 : w.heap.size < u.heap.size := World.block_lt_of_cell? u _ h.b0
  have l1 : w.heap.size + 1 < u.heap.size := World.block_lt_of_cell? u _ h.r0
  have x0 : ¬ X w.heap.size := fun e => by have := hx _ e; omega
  have x1 : ¬ X (w.heap.size + 1) := fun e => by have := hx _ e; omega
  have cc : ∀ j, u'.cell? ⟨w.heap.size, j, none⟩ = u.cell? ⟨w.heap.size, j, none⟩ := fun j => hk.cell (p := ⟨w.heap.size, j, none⟩) l0 x0
  have dd : ∀ j, u'.cell? ⟨w.heap.size + 1, j, none⟩ = u.cell? ⟨w.heap.size + 1, j, none⟩ := fun j => hk.cell (p := ⟨w.heap.size + 1, j, none⟩) l1 x1
  have ff : ∀ j, u'.frozen? ⟨w.heap.size + 1, j, none⟩ = u.frozen? ⟨w.heap.size + 1, j, none⟩ := fun j => hk.frozen (p := ⟨w.heap.size + 1, j, none⟩) l1 x1
  exact ⟨by rw [cc]; exact h.b0, by rw [cc]; exact h.b1, by rw [dd]; exact h.r0, by rw [dd]; exact h.r1, by rw [dd]; exact h.r2, by rw [dd]; exact h.r3, by rw [dd]; exact h.r4, by rw [dd]; exact h.r5,
    by rw [ff]; exact h.z0, by rw [ff]; exact h.z1, by rw [ff]; exact h.z2, by rw [ff]; exact h.z3, by rw [ff]; exact h.z4, by rw [ff]; exact h.z5, ho, hr,
    h.bel.trans (hk.toBelow h.bel.size (fun k hk' e => by have := hx k e; omega))⟩

theorem NW.kept (h : NW w n a m c l K g i u) (hb : Below u.heap.size u u') : NW w n a m c l K g i u' :=
  h.kp (X := fun _ => False) (Below.kp hb |> fun k => ⟨k.os, k.tape, k.output, k.size, fun b hb hx => k.block b hb hx⟩) (fun _ e => e.elim) (h.row.kept hb) (own_kept h.own hb)
theorem NW.drew (h : NW w n a m c l K g i u) : NW w n a m c l K g i u.drew := h.kept ((Below.refl _ _).drew)

theorem NW.next (h : NW w n a m c l K g i u) (hrow : ∀ k, (Value.slice a m c).ownBlock = some k → k < w.heap.size) : NW w n a m c l K g (i + 1) (u.setCell ⟨g, i + 1, none⟩ (.int .i64 (rkN true l ((i + 1) * 256) : Nat))) := by
  have hgb := h.own.lt g rfl
  have hk : Kp (fun k => k = g) u (u.setCell ⟨g, i + 1, none⟩ (.int .i64 (rkN true l ((i + 1) * 256) : Nat))) := Kp.setCell (p := ⟨g, i + 1, none⟩) (Kp.refl (fun k => k = g) u) (.inl rfl) _
  have hst := (h.own.stored (i + 1) (.int .i64 (rkN true l ((i + 1) * 256) : Nat))).1
  rw [cl_set l K i] at hst
  have h2 : NW w n a m c l K g (i + 1) (u.setCell ⟨g, i + 1, none⟩ (.int .i64 (rkN true l ((i + 1) * 256) : Nat))) := by
    have l0 : w.heap.size < u.heap.size := World.block_lt_of_cell? u _ h.b0
    have l1 : w.heap.size + 1 < u.heap.size := World.block_lt_of_cell? u _ h.r0
    have cc : ∀ j v, (u.setCell ⟨g, i + 1, none⟩ v).cell? ⟨w.heap.size, j, none⟩ = u.cell? ⟨w.heap.size, j, none⟩ := fun j v => World.cell?_setCell_other _ _ _ _ (by simp only [ne_eq, Addr.mk.injEq]; omega)
    have dd : ∀ j v, (u.setCell ⟨g, i + 1, none⟩ v).cell? ⟨w.heap.size + 1, j, none⟩ = u.cell? ⟨w.heap.size + 1, j, none⟩ := fun j v => World.cell?_setCell_other _ _ _ _ (by simp only [ne_eq, Addr.mk.injEq]; omega)
    exact ⟨by rw [cc]; exact h.b0, by rw [cc]; exact h.b1, by rw [dd]; exact h.r0, by rw [dd]; exact h.r1, by rw [dd]; exact h.r2, by rw [dd]; exact h.r3, by rw [dd]; exact h.r4, by rw [dd]; exact h.r5,
      by simpa using h.z0, by simpa using h.z1, by simpa using h.z2, by simpa using h.z3, by simpa using h.z4, by simpa using h.z5, hst,
      row_kp h.row hk (fun k e => by have := hrow k e; omega), h.bel.setCell (by simp only; omega) _⟩
  exact h2

theorem irow_kp {X : Nat → Prop} {w w' : World} {n W L m c : Nat} {a : Option Addr} {xs : List Int} (h : IRow w n W L a m c xs) (hb : Kp X w w') (hx : ∀ k, (Value.slice a m c).ownBlock = some k → ¬ X k) : IRow w' n W L a m c xs :=
  { h with row := row_kp h.row hb hx }

/-- What New tells: a rank of the row. -/
def NewEnd (w : World) (a : Option Addr) (m c : Nat) (l : List Bool) (e : Ending) (w' : World) : Prop :=
  ∃ R : RP, e = .returned (.agg #[.int .i64 (R.n : Int), .slice R.a R.m R.c, .int .i64 (R.cn : Int), .int .i64 (R.cW : Int), .int .i64 (R.cL : Int), .slice R.a2 R.m2 R.c2]) ∧ RK w' R l ∧ (R.a = a ∧ R.m = m ∧ R.c = c) ∧ Below w.heap.size w w'


end Go.Proofs.YtpnjccomngdblaaGreat
end

section
/- The contract of New of ranks: the walk. -/
namespace Go.Proofs.YtpnjccomngdblaaGreat
open Go.RowKit
open M
attribute [local go_sem ↓] Go.wp_at_zero Go.wp_at_succ

set_option maxRecDepth 100000 in
set_option maxHeartbeats 2000000 in
theorem rnew_any (a : Option Addr) (m c : Nat) (l : List Bool) (w : World) (h : RowAt w (.slice a m c) l) (hl : l.length ≤ 1000000000) :
    Calls Tryz.prog 71 #[.agg #[.int .i64 (l.length : Int), .slice a m c]] w (NewEnd w a m c l) := by
  obtain ⟨i0, hi, hz0, hz1, hz2⟩ := info_parts info3
  obtain ⟨n, hn⟩ : ∃ n, l.length = n := ⟨_, rfl⟩
  have hlen := fun u (hb : Below w.heap.size w u) => len_any _ l u (h.kept hb)
  have hones := fun u (x y : Int) (hr : RowAt u (.slice a m c) l) => ones_any _ _ _ l x y u hr hl
  rw [hn] at hl hlen hones
  rw [hn]
  have HH := Lib.hid h
  have HN := Lib.hid hn
  have HL := Lib.hid hlen
  have HO := Lib.hid hones
  obtain ⟨K, hK⟩ : ∃ K, K = n / 256 + 1 := ⟨_, rfl⟩
  have hK1 : K ≤ 5000000 := by omega
  have HK := Lib.hid hK
  have e1 : (n : Int) / 256 + 1 = (K : Int) := by omega
  have hK2 : 1 ≤ K := by omega
  clear h hn hlen hones hK
  go_enter Tryz.func71, Tryz.ntmps71
  go_wp2_with fail
  refine (HL.out _ (((Below.refl _ _).alloc (Nat.le_refl _) _).alloc (by simp) _)).mono ?_
  rintro e w1 ⟨rfl, hb1⟩
  have hs1 : w.heap.size + 2 ≤ w1.heap.size := by have := hb1.size; simp at this; omega
  go_wp2_with (first | (at_make; refine wpList_make_full _ rfl _ _ 38 rfl (w.heap.size + 2) 3 i0 (.int .i64 0) 1 Tryz.underlying38 hi hz0 hz1 _ _ _ _ K rfl rfl rfl rfl ?b2 ?b3 hs1 ?_))
  case b2 => rw [hz2]; omega
  case b3 => unfold maxLen; omega
  intro w2 hown hgrow
  have hI : NW w n a m c l K w1.heap.size 0 w2 := by
    have c0 : ∀ j, w2.cell? ⟨w.heap.size, j, none⟩ = w1.cell? ⟨w.heap.size, j, none⟩ := fun j => hgrow.cell_far _ (by simp only; omega) (by simp)
    have c1 : ∀ j, w2.cell? ⟨w.heap.size + 1, j, none⟩ = w1.cell? ⟨w.heap.size + 1, j, none⟩ := fun j => hgrow.cell_far _ (by simp only; omega) (by simp)
    have f1 : ∀ j, w2.frozen? ⟨w.heap.size + 1, j, none⟩ = w1.frozen? ⟨w.heap.size + 1, j, none⟩ := fun j => hgrow.frozen_far _ (by simp only; omega) (by simp)
    have d0 := fun j => hb1.cell (p := ⟨w.heap.size, j, none⟩) (by simp only [World.size_alloc]; omega)
    have d1 := fun j => hb1.cell (p := ⟨w.heap.size + 1, j, none⟩) (by simp only [World.size_alloc]; omega)
    have g1 := fun j => hb1.frozen (p := ⟨w.heap.size + 1, j, none⟩) (by simp only [World.size_alloc]; omega)
    have hbel : Below w.heap.size w w2 := ((((Below.refl _ _).alloc (Nat.le_refl _) _).alloc (by simp) _).trans (hb1.mono (by simp; omega))).trans ((below_grown hgrow).mono (by omega))
    refine ⟨?_, ?_, ?_, ?_, ?_, ?_, ?_, ?_, ?_, ?_, ?_, ?_, ?_, ?_, ?_, HH.out.kept hbel, hbel⟩
    · rw [c0, d0]; simp
    · rw [c0, d0]; simp
    · rw [c1, d1]; simp
    · rw [c1, d1]; simp
    · rw [c1, d1]; simp
    · rw [c1, d1]; simp
    · rw [c1, d1]; simp
    · rw [c1, d1]; simp
    · rw [f1, g1]; simp
    · rw [f1, g1]; simp
    · rw [f1, g1]; simp
    · rw [f1, g1]; simp
    · rw [f1, g1]; simp
    · rw [f1, g1]; simp
    · rw [cl_zero]
      have := hown
      rw [toList_madeCells_one] at this
      exact this
  have HI := Lib.hid hI
  clear hI hown hgrow hb1 hs1
  generalize w1.heap.size = g at *
  clear w1
  go_wp2
  go_loopw [16] (fun v wr => ∃ i : Nat, i ≤ K - 1 ∧ v = .int .i64 (i : Int) ∧ NW w n a m c l K g i wr) (fun v _ => K - (intOf v).toNat)
  case atStart => exact ⟨0, Nat.zero_le _, rfl, HI.out⟩
  case round =>
    obtain ⟨i, hi, rfl, hA⟩ := hrel
    clear HI
    by_cases hlt : i < K - 1
    · have hq : (i : Int) < (K : Int) - 1 := by omega
      have hend : (i + 1) * 256 ≤ n := by have := HK.out; omega
      have hsum := rk_block l (i * 256) ((i + 1) * 256) (by omega) (by rw [HN.out]; exact hend)
      have hle := rkN_le true l ((i + 1) * 256)
      rw [HN.out] at hle
      have hon := fun u (hu : NW w n a m c l K g i u) => (HO.out u ((i * 256 : Nat) : Int) (((i + 1) * 256 : Nat) : Int) hu.row).mono (fun _ _ (hh : _ ∧ _) => (⟨hh.1, hu.kept hh.2⟩ : _ ∧ NW w n a m c l K g i _))
      have hgi : ∀ u (hu : NW w n a m c l K g i u), u.cell? ⟨g, i, none⟩ = some (.int .i64 (rkN true l (i * 256) : Nat)) := fun u hu => by
        rw [hu.own.cellAt i (by omega), cl_get l K i i (by omega), if_pos (Nat.le_refl _)]
      have hgj : ∀ u (hu : NW w n a m c l K g i u), u.cell? ⟨g, i + 1, none⟩ = some (.int .i64 0) := fun u hu => by
        rw [hu.own.cellAt (i + 1) (by omega), cl_get l K i (i + 1) (by omega), if_neg (by omega)]
      have hnx := fun u (hu : NW w n a m c l K g i u) => hu.next (fun k e => row_lt HH.out k e)
      generalize rkN true l ((i + 1) * 256) = z at *
      generalize onesN l ((i * 256 : Nat) : Int) (((i + 1) * 256 : Nat) : Int) = o at *
      generalize rkN true l (i * 256) = r at *
      rw [← hsum] at hnx
      have hr : r ≤ n := by omega
      have ho : o ≤ n := by omega
      obtain ⟨j, hj⟩ : ∃ j, j = i + 1 := ⟨_, rfl⟩
      rw [← hj] at hgj hnx
      have hjK : j < K := by omega
      have hjz : ∀ u (hu : NW w n a m c l K g i u), u.frozen? ⟨g, j, none⟩ = false := fun u hu => hu.own.frozenAt j
      have hS : ∀ u (hu : NW w n a m c l K g i u), (u.setCell ⟨g, j, none⟩ (.int .i64 (r + o : Nat))).cell? ⟨w.heap.size, 0, none⟩ = some (.int .i64 (n : Int)) ∧ (u.setCell ⟨g, j, none⟩ (.int .i64 (r + o : Nat))).cell? ⟨w.heap.size, 1, none⟩ = some (.slice a m c) ∧ (u.setCell ⟨g, j, none⟩ (.int .i64 (r + o : Nat))).cell? ⟨g, i, none⟩ = some (.int .i64 (r : Nat)) := fun u hu => by
        refine ⟨(hnx u hu).b0, (hnx u hu).b1, ?_⟩
        rw [World.cell?_setCell_other _ _ _ _ (by simp only [ne_eq, Addr.mk.injEq]; omega)]
        exact hgi u hu
      have c0 := hA.b0
      have c1 := hA.b1
      have c2 := hgi _ hA
      have HG := Lib.hid (And.intro hgi (And.intro hgj hjz))
      have HX := Lib.hid (And.intro hon (And.intro hnx hS))
      have e2 : (i : Int) * 256 = ((i * 256 : Nat) : Int) := by omega
      have e3 : IntKind.i64.wrap (((i * 256 : Nat) : Int) + 256) = (((i + 1) * 256 : Nat) : Int) := by rw [IntWalk.i64_in _ (by omega)]; omega
      clear hgi hgj hon hnx hsum hle hjz hS
      generalize hbx : w.heap.size = bx at *
      generalize hx1 : i * 256 = x1 at *
      generalize hx2 : (i + 1) * 256 = x2 at *
      have q1 : IntKind.i64.wrap ((i : Int) + 1) = (j : Int) := by rw [IntWalk.i64_in _ (by omega)]; omega
      have q2 : IntKind.i64.wrap ((r : Int) + (o : Int)) = ((r + o : Nat) : Int) := by rw [IntWalk.i64_in _ (by omega)]; omega
      have q3 : (j : Int) < (K : Int) := by omega
      have q4 : (i : Int) < (K : Int) := by omega
      have HJ := Lib.hid hj
      have HBX := Lib.hid hbx
      clear hj hbx hx1 hx2 hr ho hend
      generalize r + o = ro at *
      go_wp2
      go_region_held3 (fun w' => w'.cell? ⟨bx, 0, none⟩ = some (.int .i64 (n : Int)) ∧ w'.cell? ⟨bx, 1, none⟩ = some (.slice a m c) ∧ w'.cell? ⟨g, i, none⟩ = some (.int .i64 (r : Nat)))
        (first
          | go_keep
          | exact ⟨by rw [← HBX.out]; exact hA.b0, by rw [← HBX.out]; exact hA.b1, HG.out.1 _ hA⟩
          | exact HX.out.2.2 _ hA
          | exact HX.out.2.2 _ hA.drew)
        (first
          | (go_at_call 98; (with_reducible refine (HX.out.1 _ hA).mono ?_); rintro e u ⟨rfl, hA⟩; have c3 := HG.out.2.1 _ hA; have c4 := HG.out.2.2 _ hA)
          | (go_at_call 98; (with_reducible refine (HX.out.1 _ hA.drew).mono ?_); rintro e u ⟨rfl, hA⟩; have c3 := HG.out.2.1 _ hA; have c4 := HG.out.2.2 _ hA))
      all_goals
        have HA := Lib.hid (HX.out.2.1 _ hA)
        clear hA c0 c1 c2 c3 c4 q1 q2 q3 q4 HG HX e2 e3
        generalize u.setCell ⟨g, j, none⟩ (.int .i64 (ro : Nat)) = U at *
        go_wp2
        go_roundw
        case rel => exact ⟨i + 1, by omega, by go_num, by rw [← HJ.out]; exact HA.out⟩
        case measure => simp [intOf]; omega
    · obtain rfl : i = K - 1 := by omega
      have hq : ¬ ((K - 1 : Nat) : Int) < (K : Int) - 1 := by omega
      have hKl : K = l.length / 256 + 1 := by rw [HN.out]; exact HK.out
      have hown := hA.own
      rw [cl_ahd l K hKl] at hown
      obtain ⟨a', cap', e', hnums, hlen'⟩ := nums_of_own hown
      simp only [Value.slice.injEq, true_and] at e'
      obtain ⟨rfl, rfl⟩ := e'
      have hti := tight_new (some ⟨g, 0, none⟩) K K (ahd l) wr 30 (by decide) hnums hlen'.1 (by omega) (by
        intro x hx
        simp only [ahd, List.mem_map] at hx
        obtain ⟨j, -, rfl⟩ := hx
        have := rkN_le true l (j * 256)
        rw [HN.out] at this
        constructor <;> omega)
      have HT := Lib.hid hti
      have HA := Lib.hid hA
      clear hti hA hown hnums hlen' hKl
      go_wp2_with fail
      refine HT.out.mono ?_
      rintro e w3 ⟨W, g2, L2, m2, rfl, hrow, hg2, hb⟩
      have hA3 := HA.out.kept hb
      have l1 : w.heap.size + 1 < wr.heap.size := World.block_lt_of_cell? wr _ HA.out.r0
      have l3 : wr.heap.size ≤ w3.heap.size := hb.size
      obtain ⟨b0, b1, r0, r1, r2, r3, r4, r5, z0, z1, z2, z3, z4, z5, -, hr, hbel⟩ := hA3
      have HF := Lib.hid (And.intro hrow (And.intro hg2 (And.intro hr hbel)))
      clear hrow hg2 hb hr hbel HT HA
      generalize hbx : w.heap.size = bx at *
      have hne : bx + 1 < w3.heap.size := by omega
      have hne0 : bx < w3.heap.size := by omega
      go_wp2
      have hk : Kp (fun k => k = bx + 1) w3 ((((((w3.setCell ⟨bx + 1, 0, none⟩ (.int .i64 (n : Int))).setCell ⟨bx + 1, 1, none⟩ (.slice a m c)).setCell ⟨bx + 1, 2, none⟩ (.int .i64 (K : Int))).setCell ⟨bx + 1, 3, none⟩ (.int .i64 (W : Int))).setCell ⟨bx + 1, 4, none⟩ (.int .i64 (L2 : Int))).setCell ⟨bx + 1, 5, none⟩ (.slice (some ⟨g2, 0, none⟩) m2 m2)) :=
        Kp.setCell (p := ⟨bx + 1, 5, none⟩) (Kp.setCell (p := ⟨bx + 1, 4, none⟩) (Kp.setCell (p := ⟨bx + 1, 3, none⟩) (Kp.setCell (p := ⟨bx + 1, 2, none⟩) (Kp.setCell (p := ⟨bx + 1, 1, none⟩) (Kp.setCell (p := ⟨bx + 1, 0, none⟩) (Kp.refl (fun k => k = bx + 1) w3) (.inl rfl) _) (.inl rfl) _) (.inl rfl) _) (.inl rfl) _) (.inl rfl) _) (.inl rfl) _
      have hk2 := hk.alloc (.cells #[.int .i64 (K : Int), .int .i64 (W : Int), .int .i64 (L2 : Int), .slice (some ⟨g2, 0, none⟩) m2 m2] 33)
      have k0 : (((((((w3.setCell ⟨bx + 1, 0, none⟩ (.int .i64 (n : Int))).setCell ⟨bx + 1, 1, none⟩ (.slice a m c)).setCell ⟨bx + 1, 2, none⟩ (.int .i64 (K : Int))).setCell ⟨bx + 1, 3, none⟩ (.int .i64 (W : Int))).setCell ⟨bx + 1, 4, none⟩ (.int .i64 (L2 : Int))).setCell ⟨bx + 1, 5, none⟩ (.slice (some ⟨g2, 0, none⟩) m2 m2)).alloc (.cells #[.int .i64 (K : Int), .int .i64 (W : Int), .int .i64 (L2 : Int), .slice (some ⟨g2, 0, none⟩) m2 m2] 33)).cell? ⟨bx + 1, 0, none⟩ = some (.int .i64 (n : Int)) := (cell_old _ _ _ _ (by simpa using hne)).trans (by simp [go_sem, r0])
      have k1 : (((((((w3.setCell ⟨bx + 1, 0, none⟩ (.int .i64 (n : Int))).setCell ⟨bx + 1, 1, none⟩ (.slice a m c)).setCell ⟨bx + 1, 2, none⟩ (.int .i64 (K : Int))).setCell ⟨bx + 1, 3, none⟩ (.int .i64 (W : Int))).setCell ⟨bx + 1, 4, none⟩ (.int .i64 (L2 : Int))).setCell ⟨bx + 1, 5, none⟩ (.slice (some ⟨g2, 0, none⟩) m2 m2)).alloc (.cells #[.int .i64 (K : Int), .int .i64 (W : Int), .int .i64 (L2 : Int), .slice (some ⟨g2, 0, none⟩) m2 m2] 33)).cell? ⟨bx + 1, 1, none⟩ = some (.slice a m c) := (cell_old _ _ _ _ (by simpa using hne)).trans (by simp [go_sem, r1])
      have k2 : (((((((w3.setCell ⟨bx + 1, 0, none⟩ (.int .i64 (n : Int))).setCell ⟨bx + 1, 1, none⟩ (.slice a m c)).setCell ⟨bx + 1, 2, none⟩ (.int .i64 (K : Int))).setCell ⟨bx + 1, 3, none⟩ (.int .i64 (W : Int))).setCell ⟨bx + 1, 4, none⟩ (.int .i64 (L2 : Int))).setCell ⟨bx + 1, 5, none⟩ (.slice (some ⟨g2, 0, none⟩) m2 m2)).alloc (.cells #[.int .i64 (K : Int), .int .i64 (W : Int), .int .i64 (L2 : Int), .slice (some ⟨g2, 0, none⟩) m2 m2] 33)).cell? ⟨bx + 1, 2, none⟩ = some (.int .i64 (K : Int)) := (cell_old _ _ _ _ (by simpa using hne)).trans (by simp [go_sem, r2])
      have k3 : (((((((w3.setCell ⟨bx + 1, 0, none⟩ (.int .i64 (n : Int))).setCell ⟨bx + 1, 1, none⟩ (.slice a m c)).setCell ⟨bx + 1, 2, none⟩ (.int .i64 (K : Int))).setCell ⟨bx + 1, 3, none⟩ (.int .i64 (W : Int))).setCell ⟨bx + 1, 4, none⟩ (.int .i64 (L2 : Int))).setCell ⟨bx + 1, 5, none⟩ (.slice (some ⟨g2, 0, none⟩) m2 m2)).alloc (.cells #[.int .i64 (K : Int), .int .i64 (W : Int), .int .i64 (L2 : Int), .slice (some ⟨g2, 0, none⟩) m2 m2] 33)).cell? ⟨bx + 1, 3, none⟩ = some (.int .i64 (W : Int)) := (cell_old _ _ _ _ (by simpa using hne)).trans (by simp [go_sem, r3])
      have k4 : (((((((w3.setCell ⟨bx + 1, 0, none⟩ (.int .i64 (n : Int))).setCell ⟨bx + 1, 1, none⟩ (.slice a m c)).setCell ⟨bx + 1, 2, none⟩ (.int .i64 (K : Int))).setCell ⟨bx + 1, 3, none⟩ (.int .i64 (W : Int))).setCell ⟨bx + 1, 4, none⟩ (.int .i64 (L2 : Int))).setCell ⟨bx + 1, 5, none⟩ (.slice (some ⟨g2, 0, none⟩) m2 m2)).alloc (.cells #[.int .i64 (K : Int), .int .i64 (W : Int), .int .i64 (L2 : Int), .slice (some ⟨g2, 0, none⟩) m2 m2] 33)).cell? ⟨bx + 1, 4, none⟩ = some (.int .i64 (L2 : Int)) := (cell_old _ _ _ _ (by simpa using hne)).trans (by simp [go_sem, r4])
      have k5 : (((((((w3.setCell ⟨bx + 1, 0, none⟩ (.int .i64 (n : Int))).setCell ⟨bx + 1, 1, none⟩ (.slice a m c)).setCell ⟨bx + 1, 2, none⟩ (.int .i64 (K : Int))).setCell ⟨bx + 1, 3, none⟩ (.int .i64 (W : Int))).setCell ⟨bx + 1, 4, none⟩ (.int .i64 (L2 : Int))).setCell ⟨bx + 1, 5, none⟩ (.slice (some ⟨g2, 0, none⟩) m2 m2)).alloc (.cells #[.int .i64 (K : Int), .int .i64 (W : Int), .int .i64 (L2 : Int), .slice (some ⟨g2, 0, none⟩) m2 m2] 33)).cell? ⟨bx + 1, 5, none⟩ = some (.slice (some ⟨g2, 0, none⟩) m2 m2) := (cell_old _ _ _ _ (by simpa using hne)).trans (by simp [go_sem, r5])
      generalize (((((((w3.setCell ⟨bx + 1, 0, none⟩ (.int .i64 (n : Int))).setCell ⟨bx + 1, 1, none⟩ (.slice a m c)).setCell ⟨bx + 1, 2, none⟩ (.int .i64 (K : Int))).setCell ⟨bx + 1, 3, none⟩ (.int .i64 (W : Int))).setCell ⟨bx + 1, 4, none⟩ (.int .i64 (L2 : Int))).setCell ⟨bx + 1, 5, none⟩ (.slice (some ⟨g2, 0, none⟩) m2 m2)).alloc (.cells #[.int .i64 (K : Int), .int .i64 (W : Int), .int .i64 (L2 : Int), .slice (some ⟨g2, 0, none⟩) m2 m2] 33)) = U7 at *
      refine bodyPost_ret (v := .agg #[.int .i64 (n : Int), .slice a m c, .int .i64 (K : Int), .int .i64 (W : Int), .int .i64 (L2 : Int), .slice (some ⟨g2, 0, none⟩) m2 m2]) (by simp [results, Tryz.results71, go_sem, k0, k1, k2, k3, k4, k5]) rfl ?_
      obtain ⟨hrow, hg2, hr, hbel⟩ := HF.out
      have hrl := fun k e => row_lt HH.out k e
      rw [hbx] at hrl
      unfold NewEnd
      rw [hbx]
      refine ⟨⟨n, a, m, c, K, W, L2, some ⟨g2, 0, none⟩, m2, m2⟩, rfl, ⟨row_kp hr hk2 (fun k e => by have := hrl k e; omega), HN.out, hl, .inr (irow_kp hrow hk2 ?_)⟩, ⟨rfl, rfl, rfl⟩, hbel.trans (hk2.toBelow (by omega) (fun k hk' e => by omega))⟩
      intro k e
      simp only [Value.ownBlock, Option.some.injEq] at e
      omega

end Go.Proofs.YtpnjccomngdblaaGreat
end
