/- The walk of WaveParts. -/
import Derived.Test.YtnedjbeemijmlaaWW
import Derived.Deep.CutRange
import Derived.Deep.CutBlock
set_option maxRecDepth 100000
namespace Go.Proofs.Ytnedjbeemijmlaa
open Go.RowKit
open M
attribute [local go_sem ↓] Go.wp_at_zero Go.wp_at_succ

/-- The symbols that stand in M: rising; each with how often it stands there, all of them together. -/
theorem dis_mem (M : List Int) (W : Nat) {x : Int} (h : x ∈ disL M W 0) : x ∈ M := by
  unfold disL at h
  simp only [List.mem_map, List.mem_filter, decide_eq_true_eq] at h
  obtain ⟨i, ⟨-, h⟩, rfl⟩ := h
  exact h
theorem dis_pw (M : List Int) (W : Nat) : (disL M W 0).Pairwise (fun x y => x < y) := by
  unfold disL
  rw [List.pairwise_map]
  refine List.Pairwise.imp (R := fun (x y : Nat) => x < y) (fun {x y} h => by omega) ?_
  exact List.Pairwise.filter _ List.pairwise_lt_range
theorem eqN_none (M : List Int) (v : Nat) (h : ¬ (v : Int) ∈ M) : eqN M v = 0 := by
  unfold eqN
  rw [List.countP_eq_zero]
  intro x hx
  rw [decide_eq_true_eq]
  rintro rfl
  exact h hx
theorem eqN_some (M : List Int) (v : Nat) (h : (v : Int) ∈ M) : 1 ≤ eqN M v := by
  unfold eqN
  exact List.countP_pos_iff.2 ⟨_, h, by simp⟩
theorem sum_lt (M : List Int) (h : ∀ x ∈ M, 0 ≤ x) (K : Nat) : (((List.range K).filter fun (i : Nat) => decide ((i : Int) ∈ M)).map fun (i : Nat) => eqN M i).sum = ltN M K := by
  induction K with
  | zero => rw [ltN_zero M h]; simp
  | succ K ih =>
    rw [List.range_succ, List.filter_append, List.map_append, List.sum_append, ih, ltN_succ]
    by_cases hK : (K : Int) ∈ M
    · simp [hK]
    · rw [eqN_none M K hK]; simp [hK]
/-- How often those stand there that are among the first i. -/
def sumD (M D : List Int) (i : Nat) : Nat := ((D.take i).map fun x => eqN M x.toNat).sum
theorem sumD_succ (M D : List Int) (i : Nat) (h : i < D.length) : sumD M D (i + 1) = sumD M D i + eqN M (D.getD i 0).toNat := by
  unfold sumD
  rw [List.take_add_one, List.map_append, List.sum_append]
  simp [List.getD_eq_getElem?_getD, h]
theorem sumD_all (M : List Int) (W : Nat) (h : ∀ x ∈ M, 0 ≤ x ∧ x < 2 ^ W) : sumD M (disL M W 0) (disL M W 0).length = M.length := by
  unfold sumD
  rw [List.take_length]
  unfold disL
  rw [List.map_map]
  have e : ((fun x : Int => eqN M x.toNat) ∘ fun (i : Nat) => ((0 * 2 ^ W + i : Nat) : Int)) = fun (i : Nat) => eqN M i := by
    funext i; simp
  have e2 : (fun (i : Nat) => decide (((0 * 2 ^ W + i : Nat) : Int) ∈ M)) = fun (i : Nat) => decide ((i : Int) ∈ M) := by
    funext i; simp
  rw [e, e2, sum_lt M (fun x hx => (h x hx).1), ltN_all]
  intro x hx
  have := (h x hx).2
  simpa using this
theorem sumD_le (M D : List Int) (i j : Nat) (h : i ≤ j) : sumD M D i ≤ sumD M D j := by
  unfold sumD
  have e : (D.take j).take i = D.take i := by rw [List.take_take, Nat.min_eq_left h]
  rw [← e]
  generalize D.take j = m
  conv => rhs; rw [← List.take_append_drop i m, List.map_append, List.sum_append]
  omega
theorem eqN_parts (m : List Int) (y a b : Nat) (h : a ≤ b) (hb : b ≤ m.length) : eqN (rng m 0 a) y + eqN (rng m a b) y + eqN (rng m b m.length) y = eqN (rng m 0 m.length) y := by
  have e1 : ∀ f t, f ≤ t → eqN (rng m 0 t) y = eqN (rng m 0 f) y + eqN (rng m f t) y := fun f t hft => by
    rw [rng_zero, rng_zero, take_rng m f t hft]
    unfold eqN
    rw [List.countP_append]
  rw [e1 b m.length hb, e1 a b h]
theorem cnt_eq (m : List Int) (size : Int) (y a b n : Nat) (hn : m.length = n) (hy : (y : Int) < size) (h : a ≤ b) (hb : b ≤ n) : cntN m size (y : Int) (a : Int) (b : Int) = eqN (rng m a b) y := by
  unfold cntN
  rw [if_pos (by unfold hasB; exact decide_eq_true ⟨by omega, hy⟩), hn, show lo n (a : Int) = a by unfold lo; omega, show hi n (a : Int) (b : Int) = b by unfold hi lo; omega, show ((y : Int)).toNat = y by omega]

set_option maxHeartbeats 8000000 in
theorem parts_walk (A : Option Addr) (n0 c0 : Nat) (xs : List Int) (size0 : Int) (q0 q1 q2 : Int) (w : World) (hA : NumsAt .i64 w A xs) (hx : xs.length = n0) :
    Calls Try.prog 9 #[.slice A n0 c0, .int .i64 size0, .agg #[.int .i64 q0, .int .i64 q1, .int .i64 q2]] w fun e w' => e = .returned (.bool true) ∧ Below w.heap.size w w' := by
  have hsy := fun u (hb : Below w.heap.size w u) => symbols_any A n0 c0 xs size0 u (hA.kept hb) hx
  have HSY := Lib.hid hsy
  clear hsy hA hx
  go_enter Try.func9, Try.ntmps9
  go_wp2_with fail
  refine (awake_any _).mono ?_
  rintro e w1 ⟨rfl, hb1⟩
  have hb0 : Below w.heap.size w w1 := ((Below.refl _ _).alloc (Nat.le_refl _) _).trans (hb1.mono (by simp))
  have z0 := hb1.cell (p := ⟨w.heap.size, 0, none⟩) (by simp)
  have z1 := hb1.cell (p := ⟨w.heap.size, 1, none⟩) (by simp)
  have z2 := hb1.cell (p := ⟨w.heap.size, 2, none⟩) (by simp)
  rw [cell_new _ _ _ _ _ rfl] at z0 z1 z2
  have z0 : w1.cell? ⟨w.heap.size, 0, none⟩ = some (.int .i64 q0) := z0
  have z1 : w1.cell? ⟨w.heap.size, 1, none⟩ = some (.int .i64 q1) := z1
  have z2 : w1.cell? ⟨w.heap.size, 2, none⟩ = some (.int .i64 q2) := z2
  have HB := Lib.hid (And.intro hb0 (And.intro z0 (And.intro z1 z2)))
  clear hb0 hb1 z0 z1 z2
  go_wp2_with fail
  refine (HSY.out _ HB.out.1).mono ?_
  rintro e w2 ⟨s, v, m, rfl, hs1, hs2, hm80, hms, hom⟩
  obtain ⟨ma, mc, rfl, hmn, -, hmc, -⟩ := nums_of_own hom.1
  have hmay := may_syms m s hs1 hs2 hms
  have hblk : ∀ b o, ma = some ⟨b, o, none⟩ → b < w2.heap.size := fun b o e => by
    subst e
    rcases hom.1.2 with ⟨e1, -⟩ | ⟨g, cp, cur, e1, -⟩
    · simp at e1
    · simp only [Value.slice.injEq, Option.some.injEq, Addr.mk.injEq] at e1
      obtain ⟨⟨rfl, rfl, -⟩, -, rfl⟩ := e1
      exact (hom.1.lt b rfl).2
  have hnew := wnew_any ma m.length mc m (s : Int) w2 hmn rfl (by omega) hmc hmay hblk
  have hb2 := HB.out.1.trans (hom.2.mono HB.out.1.size)
  have hsz := wdt_pow (s : Int) (by omega)
  have HM := Lib.hid (And.intro hmn (And.intro hms (And.intro hom.2 (And.intro hb2 hsz))))
  have HNW := Lib.hid hnew
  clear hmay hnew hblk hom hmn hms hmc hb2 hsz HSY
  generalize hn : m.length = n at *
  have HN := Lib.hid hn
  clear hn
  go_wp2_with fail
  refine HNW.out.mono ?_
  rintro e w3 ⟨a, cap, rfl, hwx, hb3⟩
  have hb4 := HM.out.2.2.2.1.trans (hb3.mono HM.out.2.2.2.1.size)
  have hb5 := HM.out.2.2.1.trans (hb3.mono HM.out.2.2.1.size)
  have y0 := hb5.cell (p := ⟨w.heap.size, 0, none⟩) (World.block_lt_of_cell? w1 _ HB.out.2.1)
  have y1 := hb5.cell (p := ⟨w.heap.size, 1, none⟩) (World.block_lt_of_cell? w1 _ HB.out.2.2.1)
  have y2 := hb5.cell (p := ⟨w.heap.size, 2, none⟩) (World.block_lt_of_cell? w1 _ HB.out.2.2.2)
  rw [HB.out.2.1] at y0
  rw [HB.out.2.2.1] at y1
  rw [HB.out.2.2.2] at y2
  generalize wdt (s : Int) = W at *
  have hbn : Below w3.heap.size w3 (w3.alloc (.cells #[.int .i64 (n : Int), .int .i64 (s : Int), .slice a W cap] 27)) := (Below.refl _ _).alloc (Nat.le_refl _) _
  have hwl : WL w w3.heap.size n m W a cap (s : Int) (w3.alloc (.cells #[.int .i64 (n : Int), .int .i64 (s : Int), .slice a W cap] 27)) := ⟨WBx.new _ _ _ _, hwx.kept hbn, HN.out, HM.out.2.2.2.2, HM.out.2.1, hb4.trans (hbn.mono hb4.size)⟩
  have hqb := World.block_lt_of_cell? w3 _ y0
  have hG : LG w w.heap.size q0 q1 q2 w3.heap.size n m W a cap (s : Int) ma (w3.alloc (.cells #[.int .i64 (n : Int), .int .i64 (s : Int), .slice a W cap] 27)) :=
    ⟨hwl, by rw [hbn.cell (p := ⟨w.heap.size, 0, none⟩) hqb]; exact y0, by rw [hbn.cell (p := ⟨w.heap.size, 1, none⟩) hqb]; exact y1, by rw [hbn.cell (p := ⟨w.heap.size, 2, none⟩) hqb]; exact y2, (HM.out.1.kept hb3).kept hbn⟩
  have HG := Lib.hid hG
  have HX := Lib.hid (And.intro HN.out HM.out.2.1)
  clear hb3 hb4 hb5 y0 y1 y2 hbn hwl hqb hG hwx HM HNW HB HN
  have hG0 := HG.out
  have z1 := hG0.z1
  have z2 := hG0.z2
  obtain ⟨y1, hy, hy1, hy2⟩ := abs_rest q1 (n + 1) (by omega)
  obtain ⟨aa, haz, hac⟩ := up_rest y1 (n + 1) hy1 hy2
  obtain ⟨y2, hw, hw1, hw2⟩ := abs_rest q2 (n + 1) (by omega)
  obtain ⟨bb, hbz, hbc⟩ := up_rest y2 (n + 1) hw1 hw2
  rw [show ((n + 1 : Nat) : Int) = (n : Int) + 1 by omega] at hy hy1 hy2 haz hw hw1 hw2 hbz
  have rn : ((n : Int) + 1 == 0) = false := by simp; omega
  have rn0 : (n : Int) + 1 ≠ 0 := by omega
  have r1 : y1 + (n : Int) + 1 = y1 + ((n : Int) + 1) := by omega
  have r2 : y2 + (n : Int) + 1 = y2 + ((n : Int) + 1) := by omega
  clear hG0
  go_upto_if 68 with fail
  clear z1 z2 hy hy1 hy2 haz hw hw1 hw2 hbz rn rn0 r1 r2
  generalize w3.alloc (.cells #[.int .i64 (n : Int), .int .i64 (s : Int), .slice a W cap] 27) = W2 at *
  generalize w3.heap.size = bx at *
  generalize hqb : w.heap.size = qb at *
  have HQB := Lib.hid hqb
  clear hqb
  go_cut [12, 13, 14, 68] from 69 to 71 (fun v12 v13 _ _ wx => (∃ f t : Nat, v12 = .int .i64 (f : Int) ∧ v13 = .int .i64 (t : Int) ∧ f ≤ t ∧ t ≤ n) ∧ wx = W2)
  case first =>
    by_cases hab : bb < aa
    · have hab2 : (bb : Int) < (aa : Int) := by omega
      go_wp2
      go_meet
      exact ⟨⟨bb, aa, rfl, rfl, by omega, by omega⟩, rfl⟩
    · have hab2 : ¬ (bb : Int) < (aa : Int) := by omega
      go_wp2
      go_meet
      exact ⟨⟨aa, bb, rfl, rfl, by omega, by omega⟩, rfl⟩
  case rest =>
    obtain ⟨⟨f, t, rfl, rfl, hft, htn⟩, rfl⟩ := hcut
    have z0 := HG.out.z0
    obtain ⟨x0, x1, x2⟩ := HG.out.wl.box
    obtain ⟨y1, hy, hy1, hy2⟩ := abs_rest q0 s (by omega)
    obtain ⟨y, hyz, hyc⟩ := up_rest y1 s hy1 hy2
    have r0 : ((s : Int) == 0) = false := by simp; omega
    have r1 : IntKind.i64.wrap (y1 + (s : Int)) = y1 + (s : Int) := IntWalk.i64_in _ (by omega)
    have e1 := cnt_eq m (s : Int) y 0 f n HX.out.1 (by omega) (Nat.zero_le _) (by omega)
    have e2 := cnt_eq m (s : Int) y f t n HX.out.1 (by omega) hft htn
    have e3 := cnt_eq m (s : Int) y t n n HX.out.1 (by omega) htn (Nat.le_refl _)
    have e4 := cnt_eq m (s : Int) y 0 n n HX.out.1 (by omega) (Nat.zero_le _) (Nat.le_refl _)
    have hsum := eqN_parts m y f t hft (by rw [HX.out.1]; exact htn)
    have hle4 := Nat.le_trans (eqN_le (rng m 0 m.length) y) (rng_len m 0 m.length)
    rw [HX.out.1] at hsum hle4
    have hcd := fun (x : Nat) (hx : (x : Int) < (s : Int)) => cnt_eq m (s : Int) x f t n HX.out.1 hx hft htn
    have k1 := fun u (hu : LG w qb q0 q1 q2 bx n m W a cap (s : Int) ma u) => cnt_wl (y : Int) 0 (f : Int) hu.wl
    have k2 := fun u (hu : LG w qb q0 q1 q2 bx n m W a cap (s : Int) ma u) => cnt_wl (y : Int) (f : Int) (t : Int) hu.wl
    have k3 := fun u (hu : LG w qb q0 q1 q2 bx n m W a cap (s : Int) ma u) => cnt_wl (y : Int) (t : Int) (n : Int) hu.wl
    have k4 := fun u (hu : LG w qb q0 q1 q2 bx n m W a cap (s : Int) ma u) => rk_wl (y : Int) (n : Int) hu.wl
    have k5 := fun u (hu : LG w qb q0 q1 q2 bx n m W a cap (s : Int) ma u) => dis_wl (f : Int) (t : Int) hu.wl
    rw [show ((0 : Nat) : Int) = 0 from rfl] at e1 e4
    rw [e1] at k1
    rw [e2] at k2
    rw [e3] at k3
    rw [e4] at k4
    rw [show lo n (f : Int) = f by unfold lo; omega, show hi n (f : Int) (t : Int) = t by unfold hi lo; omega] at k5
    have hMl : (rng m f t).length = t - f := rng_ln m f t hft (by rw [HX.out.1]; exact htn)
    have hMx : ∀ x ∈ rng m f t, 0 ≤ x ∧ x < (s : Int) := fun x hx => HX.out.2 x (rng_mem m f t hx)
    have hsd := sumD_all (rng m f t) W (fun x hx => by
      have h1 := hMx x hx
      have h2 := HG.out.wl.sz
      omega)
    have hsle := fun i j h => sumD_le (rng m f t) (disL (rng m f t) W 0) i j h
    have hsu := fun i h => sumD_succ (rng m f t) (disL (rng m f t) W 0) i h
    have hdm := fun x (h : x ∈ disL (rng m f t) W 0) => dis_mem (rng m f t) W h
    have hpw := dis_pw (rng m f t) W
    have hes := fun v h => eqN_some (rng m f t) v h
    have hdl := disL_len (rng m f t) W 0
    have hw20 : 2 ^ W ≤ 2 ^ 20 := Nat.pow_le_pow_right (by decide) HG.out.wl.wx.wide
    have h20 : (2 : Nat) ^ 20 = 1048576 := by decide
    have hdl2 : (disL (rng m f t) W 0).length ≤ 1048576 := by omega
    have K1 := Lib.hid k1
    have K2 := Lib.hid k2
    have K3 := Lib.hid k3
    have K4 := Lib.hid k4
    have K5 := Lib.hid k5
    have HF := Lib.hid (And.intro hcd (And.intro hMl (And.intro hMx (And.intro hsd (And.intro hsle (And.intro hsu (And.intro hdm (And.intro hpw hes))))))))
    clear k1 k2 k3 k4 k5 e1 e2 e3 e4 hcd hMl hMx hsd hsle hsu hdm hpw hes hdl hw20 h20
    generalize rng m f t = M at *
    generalize disL M W 0 = D at *
    generalize eqN (rng m 0 f) y = p1 at *
    generalize hp2 : eqN M y = p2 at *
    have HP2 := Lib.hid hp2
    clear hp2
    generalize eqN (rng m t n) y = p3 at *
    generalize eqN (rng m 0 n) y = p4 at *
    go_wp2_with fail
    clear x0 x1 x2 z0 hy hyz r0 r1
    refine (K1.out _ HG.out).mono ?_
    rintro e u1 ⟨rfl, -, hb⟩
    have hG := HG.out.kept hb
    obtain ⟨x0, x1, x2⟩ := hG.wl.box
    have HG1 := Lib.hid hG
    clear hG hb HG
    go_wp2_with fail
    clear x0 x1 x2
    refine (K2.out _ HG1.out).mono ?_
    rintro e u2 ⟨rfl, -, hb⟩
    have hG := HG1.out.kept hb
    obtain ⟨x0, x1, x2⟩ := hG.wl.box
    have HG2 := Lib.hid hG
    clear hG hb HG1
    go_wp2_with fail
    clear x0 x1 x2
    refine (K3.out _ HG2.out).mono ?_
    rintro e u3 ⟨rfl, -, hb⟩
    have hG := HG2.out.kept hb
    obtain ⟨x0, x1, x2⟩ := hG.wl.box
    have HG3 := Lib.hid hG
    clear hG hb HG2
    go_wp2_with fail
    clear x0 x1 x2
    refine (K5.out _ HG3.out).mono ?_
    rintro e u4 ⟨v, rfl, hod, -⟩
    have hG := HG3.out.kept hod.2
    obtain ⟨da, dc, rfl, hdn, -⟩ := nums_of_own hod.1
    have HD := Lib.hid (And.intro hG hdn)
    clear hG hod hdn HG3 K1 K2 K3 K5
    obtain ⟨dl, hdl3⟩ : ∃ dl, D.length = dl := ⟨_, rfl⟩
    rw [hdl3]
    rw [hdl3] at hdl2
    have HDL := Lib.hid hdl3
    clear hdl3
    go_wp2
    go_loopw [20, 21] (fun v20 v21 wr => ∃ i : Nat, i ≤ dl ∧ v21 = .int .i64 (i : Int) ∧ v20 = .int .i64 (sumD M D i : Nat) ∧ LG w qb q0 q1 q2 bx n m W a cap (s : Int) ma wr ∧ NumsAt .i64 wr da D) (fun _ v21 _ => dl - (intOf v21).toNat)
    case atStart => exact ⟨0, Nat.zero_le _, rfl, by simp [sumD], HD.out.1, HD.out.2⟩
    case round =>
      obtain ⟨i, hi, rfl, rfl, hG, hdn⟩ := hrel
      clear HD
      obtain ⟨hcd, hMl, hMx, hsd, hsle, hsu, hdm, hpw, hes⟩ := HF.out
      by_cases hlt : i < dl
      · have hiD : i < D.length := by rw [HDL.out]; exact hlt
        have hxm : D.getD i 0 ∈ D := by simp [List.getD_eq_getElem?_getD, hiD]
        have hxM := hdm _ hxm
        have hx0 := hMx _ hxM
        obtain ⟨x, hx⟩ : ∃ x : Nat, D.getD i 0 = (x : Int) := ⟨(D.getD i 0).toNat, by omega⟩
        have hsn := hsu i hiD
        rw [hx] at hxM hx0 hsn
        rw [show ((x : Int)).toNat = x by omega] at hsn
        have hc1 := hcd x hx0.2
        have hge := hes x hxM
        have hsl := hsle (i + 1) D.length (by omega)
        rw [hsd, hMl, hsn] at hsl
        obtain ⟨db, dof, rfl, hdb, hdv⟩ := num_at hdn (i := i) hiD
        rw [hx] at hdv
        have k6 := fun u (hu : LG w qb q0 q1 q2 bx n m W a cap (s : Int) ma u) => cnt_wl (x : Int) (f : Int) (t : Int) hu.wl
        rw [hc1] at k6
        have K6 := Lib.hid k6
        have HSN := Lib.hid hsn
        have hprev : ∀ j, i = j + 1 → ∃ x' : Nat, D.getD j 0 = (x' : Int) ∧ (x' : Int) < (x : Int) := fun j hj => by
          have hjD : j < D.length := by omega
          have h1 := hMx _ (hdm _ (show D.getD j 0 ∈ D by simp [List.getD_eq_getElem?_getD, hjD]))
          have h2 := List.pairwise_iff_getElem.1 hpw j i hjD hiD (by omega)
          have e1 : D.getD j 0 = D[j] := by simp [List.getD_eq_getElem?_getD, hjD]
          have e2 : D.getD i 0 = D[i] := by simp [List.getD_eq_getElem?_getD, hiD]
          rw [← e1, ← e2, hx] at h2
          exact ⟨(D.getD j 0).toNat, by omega, by omega⟩
        have HPV := Lib.hid hprev
        clear hcd hMl hMx hsd hsle hsu hdm hpw hes hxm hx0 hx hsn hc1 k6 hprev hxM
        generalize sumD M D i = sd at *
        generalize eqN M x = ex at *
        have s1 : (i : Int) < (dl : Int) := by omega
        have s2 : (0 : Int) ≤ (i : Int) := by omega
        obtain ⟨x0, x1, x2⟩ := hG.wl.box
        have HDN := Lib.hid hdn
        clear hdn
        have hbb : Below wr.heap.size wr wr := Below.refl _ _
        have HW0 := Lib.hid (And.intro hG hdv)
        have hds : ∀ u, Below wr.heap.size wr u → u.cell? ⟨bx, 0, none⟩ = some (.int .i64 (n : Int)) ∧ u.cell? ⟨bx, 1, none⟩ = some (.int .i64 (s : Int)) ∧ u.cell? ⟨bx, 2, none⟩ = some (.slice a W cap) ∧ u.cell? ⟨db, dof + i, none⟩ = some (.int .i64 (x : Int)) := fun u hu => by
          have h1 := hG.wl.box.kept hu
          exact ⟨h1.c0, h1.c1, h1.c2, by rw [hu.cell (p := ⟨db, dof + i, none⟩) hdb]; exact hdv⟩
        have HDS := Lib.hid hds
        clear hds
        go_wp2
        go_region_held3 (fun w' => w'.cell? ⟨bx, 0, none⟩ = some (.int .i64 (n : Int)) ∧ w'.cell? ⟨bx, 1, none⟩ = some (.int .i64 (s : Int)) ∧ w'.cell? ⟨bx, 2, none⟩ = some (.slice a W cap) ∧ w'.cell? ⟨db, dof + i, none⟩ = some (.int .i64 (x : Int)))
          (first
            | (with_reducible exact HDS.out _ hbb)
            | (with_reducible exact HDS.out _ hbb.drew)
            | go_keep)
          (first
            | (go_at_call 31; (with_reducible refine (K6.out _ hG).mono ?_); rintro e u5 ⟨rfl, -, hb⟩; have hbb := hbb.trans (hb.mono hbb.size))
            | (go_at_call 31; (with_reducible refine (K6.out _ hG.drew).mono ?_); rintro e u5 ⟨rfl, -, hb⟩; have hbb := hbb.drew.trans (hb.mono hbb.drew.size)))
        all_goals
          have HB5 := Lib.hid hbb
          obtain ⟨x0', x1', x2', hd'⟩ := HDS.out _ hbb
          clear x0 x1 x2 hb hG hdv hbb
          have g1 : ¬ (ex : Int) < 1 := by omega
          have g2 : decide ((ex : Int) < 1) = false := decide_eq_false g1
          have g3 : (ex == 0) = false := by simp; omega
          have r3 : IntKind.i64.wrap ((sd : Int) + (ex : Int)) = ((sd + ex : Nat) : Int) := by rw [IntWalk.i64_in _ (by omega)]; omega
          rcases Nat.eq_zero_or_pos i with hi0 | hi0
          · subst hi0
            go_wp2
            go_quiet (fail)
            clear g2 g3 x0' x1' x2' hd'
            go_wp2
            go_roundw
            case rel => exact ⟨0 + 1, by omega, by go_num, by rw [HSN.out]; first | rfl | go_num, (HW0.out.1.kept HB5.out).kept (below_drewN (Below.refl _ _) _), (HDN.out.kept HB5.out).kept (below_drewN (Below.refl _ _) _)⟩
            case measure => simp [intOf]; omega
          · obtain ⟨j, hj⟩ : ∃ j, i = j + 1 := ⟨i - 1, by omega⟩
            obtain ⟨x', hx', hxx⟩ := HPV.out j hj
            obtain ⟨db2, dof2, hde, hdb2, hdv2⟩ := num_at (HDN.out.kept HB5.out) (i := j) (by rw [HDL.out]; omega)
            simp only [Option.some.injEq, Addr.mk.injEq, and_true] at hde
            obtain ⟨rfl, rfl⟩ := hde
            rw [hx'] at hdv2
            have t1 : (0 : Int) < (i : Int) := by omega
            have t2 : (i : Int) - 1 = (j : Int) := by omega
            have t3 : (j : Int) < (dl : Int) := by omega
            have t4 : (0 : Int) ≤ (j : Int) := by omega
            have t5 : ¬ (x : Int) ≤ (x' : Int) := by omega
            have t6 : decide ((x : Int) ≤ (x' : Int)) = false := decide_eq_false t5
            have t7 : x' < x := by omega
            have HJ := Lib.hid hj
            clear hx' hj
            go_wp2
            go_quiet (fail)
            clear g2 g3 x0' x1' x2' hd' hdv2 t6
            go_wp2
            go_roundw
            case rel => exact ⟨i + 1, by omega, by go_num, by rw [HSN.out]; first | rfl | go_num, (HW0.out.1.kept HB5.out).kept (below_drewN (Below.refl _ _) _), (HDN.out.kept HB5.out).kept (below_drewN (Below.refl _ _) _)⟩
            case measure => simp [intOf]; omega
      · obtain rfl : i = dl := by omega
        rw [← HDL.out, hsd, hMl]
        obtain ⟨x0, x1, x2⟩ := hG.wl.box
        have HGE := Lib.hid hG
        clear hcd hMl hMx hsd hsle hsu hdm hpw hes hG hdn
        go_wp2_with fail
        clear x0 x1 x2
        refine (K4.out _ HGE.out).mono ?_
        rintro e u6 ⟨rfl, -, hb⟩
        have HG6 := Lib.hid (HGE.out.kept hb)
        have v1 : IntKind.i64.wrap ((p1 : Int) + (p2 : Int)) = ((p1 + p2 : Nat) : Int) := by rw [IntWalk.i64_in _ (by omega)]; omega
        have v3 : ((t - f : Nat) : Int) = (t : Int) - (f : Int) := by omega
        subst hsum
        clear hb HGE v1
        rw [v3]
        go_wp2
        go_ret
        exact ⟨rfl, by rw [HQB.out]; have := HG6.out.wl.bel; rw [HQB.out] at this; exact this⟩

end Go.Proofs.Ytnedjbeemijmlaa
