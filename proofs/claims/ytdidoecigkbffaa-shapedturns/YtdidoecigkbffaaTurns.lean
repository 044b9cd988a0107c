/- The walk of ShapedTurns. -/
import Derived.Test.YtdidoecigkbffaaPG
set_option maxRecDepth 100000
namespace Go.Proofs.Ytdidoecigkbffaa
open Go.RowKit
open S J M
attribute [local go_sem ↓] Go.wp_at_zero Go.wp_at_succ

/-- A number's rest, put above 0. -/
theorem rest_up (x : Int) (q : Nat) (hq : 0 < q) : ∃ (y : Int) (z : Nat), x.tmod (q : Int) = y ∧ y < (q : Int) ∧ -(q : Int) < y ∧ (y + (q : Int)).tmod (q : Int) = (z : Int) ∧ z < q := by
  have t1 := Int.tmod_lt_of_pos x (b := (q : Int)) (by omega)
  have t2 := Int.lt_tmod_of_pos x (b := (q : Int)) (by omega)
  have e : (x.tmod (q : Int) + (q : Int)).tmod (q : Int) = (x.tmod (q : Int) + (q : Int)) % (q : Int) := Int.tmod_eq_emod_of_nonneg (by omega)
  have h3 := Int.emod_nonneg (x.tmod (q : Int) + (q : Int)) (b := (q : Int)) (by omega)
  have h4 := Int.emod_lt_of_pos (x.tmod (q : Int) + (q : Int)) (b := (q : Int)) (by omega)
  exact ⟨_, ((x.tmod (q : Int) + (q : Int)) % (q : Int)).toNat, rfl, t1, t2, by rw [e]; omega, by omega⟩

variable {w u u' : World} {C sb b size : Nat} {xs : List Int} {f : Nat → List Bool} {ks : List (List Bool)} {Rf : List Bool → RP} {bx n qb : Nat} {q0 q1 : Int} {ma : Option Addr}
/-- What the law holds: the row in its box, its list, two numbers. -/
structure TG2 (w : World) (qb : Nat) (q0 q1 : Int) (bx n C sb b size : Nat) (xs : List Int) (f : Nat → List Bool) (ks : List (List Bool)) (Rf : List Bool → RP) (ma : Option Addr) (u : World) : Prop where
  sb : SB w bx n C sb b size xs f ks Rf u
  z0 : u.cell? ⟨qb, 0, none⟩ = some (.int .i64 q0)
  z1 : u.cell? ⟨qb, 1, none⟩ = some (.int .i64 q1)
  nums : NumsAt .i64 u ma xs
theorem TG2.kept (h : TG2 w qb q0 q1 bx n C sb b size xs f ks Rf ma u) (hb : Below u.heap.size u u') : TG2 w qb q0 q1 bx n C sb b size xs f ks Rf ma u' := by
  have hl := World.block_lt_of_cell? u _ h.z0
  exact ⟨h.sb.kept hb, by rw [hb.cell (p := ⟨qb, 0, none⟩) hl]; exact h.z0, by rw [hb.cell (p := ⟨qb, 1, none⟩) hl]; exact h.z1, h.nums.kept hb⟩

set_option maxHeartbeats 8000000 in
theorem turns_walk (A : Option Addr) (n0 c0 : Nat) (xs : List Int) (size0 q0 q1 : Int) (w : World) (hA : NumsAt .i64 w A xs) (hx : xs.length = n0) :
    Calls Try.prog 5 #[.slice A n0 c0, .int .i64 size0, .agg #[.int .i64 q0, .int .i64 q1]] w fun e w' => e = .returned (.bool true) ∧ Below w.heap.size w w' := by
  have hsy := fun u (hb : Below w.heap.size w u) => symbols_any A n0 c0 xs size0 u (hA.kept hb) hx
  have HSY := Lib.hid hsy
  clear hsy hA hx
  go_enter Try.func5, Try.ntmps5
  go_wp2_with fail
  refine (awake_any _).mono ?_
  rintro e w1 ⟨rfl, hb1⟩
  have hb0 : Below w.heap.size w w1 := ((Below.refl _ _).alloc (Nat.le_refl _) _).trans (hb1.mono (by simp))
  have z0 := hb1.cell (p := ⟨w.heap.size, 0, none⟩) (by simp)
  have z1 := hb1.cell (p := ⟨w.heap.size, 1, none⟩) (by simp)
  rw [cell_new _ _ _ _ _ rfl] at z0 z1
  have z0 : w1.cell? ⟨w.heap.size, 0, none⟩ = some (.int .i64 q0) := z0
  have z1 : w1.cell? ⟨w.heap.size, 1, none⟩ = some (.int .i64 q1) := z1
  have HB := Lib.hid (And.intro hb0 (And.intro z0 z1))
  clear hb0 hb1 z0 z1
  go_wp2_with fail
  refine (HSY.out _ HB.out.1).mono ?_
  rintro e w2 ⟨s, v, m, rfl, hs1, hs2, hm80, hms, hom⟩
  obtain ⟨ma, mc, rfl, hmn, -, -, -⟩ := nums_of_own hom.1
  obtain ⟨L, hL⟩ : ∃ L, L = m.length := ⟨_, rfl⟩
  rw [← hL] at hm80 ⊢
  have hnew := new_ok ma L mc s m w2 hmn hL.symm (by omega) hms hs1 (by omega)
  have HNW := Lib.hid hnew
  have HM := Lib.hid (And.intro hmn (And.intro hL.symm (And.intro hms hom.2)))
  clear hmn hms hom hL hnew HSY
  go_wp2_with fail
  (with_reducible refine HNW.out.mono ?_)
  rintro e u1 ⟨C, sb, b, ys, zs, ks, Rf, rfl, hcod, hSH⟩
  rw [HM.out.2.1]
  have hF := FR.of hcod HM.out.2.2.1
  have hsx := hSH.sx
  have hSB := SB.new L hsx
  have hbA := HM.out.2.2.2.trans (hSH.bel.mono HM.out.2.2.2.size)
  have hbB := hbA.trans (hSB.bel.mono hbA.size)
  have hbw := HB.out.1.trans (hbB.mono HB.out.1.size)
  have hql := World.block_lt_of_cell? w1 _ HB.out.2.1
  have hT : TG2 w w.heap.size q0 q1 u1.heap.size L C sb b s m (codF ys zs) ks Rf ma (u1.alloc (.cells #[.int .i64 (L : Int), .slice (some ⟨C, 0, none⟩) s s, .map (some sb), .map (some b)] 34)) :=
    ⟨⟨hSB.c0, hSB.c1, hSB.c2, hSB.c3, hSB.sx, hbw⟩, by rw [hbB.cell (p := ⟨w.heap.size, 0, none⟩) hql]; exact HB.out.2.1, by rw [hbB.cell (p := ⟨w.heap.size, 1, none⟩) hql]; exact HB.out.2.2, (HM.out.1.kept hSH.bel).kept hSB.bel⟩
  obtain ⟨u2, hu2⟩ : ∃ u2, u2 = u1.alloc (.cells #[.int .i64 (L : Int), .slice (some ⟨C, 0, none⟩) s s, .map (some sb), .map (some b)] 34) := ⟨_, rfl⟩
  obtain ⟨x1, hx1⟩ : ∃ x1, x1 = u1.heap.size := ⟨_, rfl⟩
  obtain ⟨qb, hqb⟩ : ∃ qb, qb = w.heap.size := ⟨_, rfl⟩
  rw [← hu2, ← hx1] at hT
  have HT := Lib.hid (show TG2 w qb q0 q1 x1 L C sb b s m (codF ys zs) ks Rf ma u2 by rw [hqb]; exact hT)
  have HF := Lib.hid hF
  clear hcod hSH hsx hSB hbA hbB hbw hql hT hF HNW HB
  generalize codF ys zs = f at *
  obtain ⟨y, z, hy, hy1, hy2, hz, hzs⟩ := rest_up q0 s (by omega)
  have hwr : IntKind.i64.wrap (y + (s : Int)) = y + (s : Int) := IntWalk.i64_in _ (by omega)
  have hne : ((s : Int) == 0) = false := by simp; omega
  have hne2 : (s : Int) ≠ 0 := by omega
  have z0 := HT.out.z0
  have l0 := HT.out.sb.c0
  have l1 := HT.out.sb.c1
  have l2 := HT.out.sb.c2
  have l3 := HT.out.sb.c3
  have hr1 := srank_any (n := L) (z : Int) (L : Int) HT.out.sb.sx HF.out (by omega) HM.out.2.1 (by omega)
  rw [lo_nat L L (Nat.le_refl _), List.take_of_length_le (by rw [HM.out.2.1]; exact Nat.le_refl _)] at hr1
  obtain ⟨T, hTT⟩ : ∃ T, T = m.count (z : Int) := ⟨_, rfl⟩
  rw [← hTT] at hr1
  have hTL : T ≤ L := by rw [hTT, ← HM.out.2.1]; exact List.count_le_length
  have HTT := Lib.hid hTT
  have HR1 := Lib.hid hr1
  clear hr1 hTT
  go_upto_region 4 with fail
  rw [← hu2, ← hx1, ← hqb]
  clear hu2 hx1 hqb
  go_wp2_with fail
  (with_reducible refine HR1.out.mono ?_)
  rintro e u3 ⟨rfl, hb3⟩
  have hT3 := HT.out.kept hb3
  clear z0 l0 l1 l2 l3 hb3 HR1 HT hy hz hwr hne hne2 hy1 hy2
  have hse := ssel_any (n := L) (z : Int) (T : Int) hT3.sb.sx HF.out (by omega) HM.out.2.1 (by omega)
  have HSE := Lib.hid hse
  have HT3 := Lib.hid hT3
  have l0 := hT3.sb.c0
  have l1 := hT3.sb.c1
  have l2 := hT3.sb.c2
  have l3 := hT3.sb.c3
  clear hse hT3
  go_wp2_with fail
  (with_reducible refine HSE.out.mono ?_)
  rintro e u4 ⟨hcase, hb4⟩
  have he : e = .returned (.int .i64 (-1)) := by
    rcases hcase with ⟨-, h⟩ | ⟨P, h1, h2, h3, h4, -⟩
    · exact h
    · exfalso
      have h5 : (m.take (P + 1)).count (z : Int) ≤ m.count (z : Int) := List.Sublist.count_le _ (List.take_sublist _ _)
      have := HTT.out
      omega
  subst he
  have hT4 := HT3.out.kept hb4
  clear hcase hb4 HSE HT3 l0 l1 l2 l3
  by_cases hT0 : T = 0
  · subst hT0
    have HBB := Lib.hid hT4.sb.bel
    clear hT4
    go_wp2
    go_ret
    exact ⟨rfl, HBB.out⟩
  · have qT : ((T : Int) == 0) = false := by simp; omega
    have qT2 : (T : Int) ≠ 0 := by omega
    obtain ⟨y, k, hy, hy1, hy2, hz, hkT⟩ := rest_up q1 T (by omega)
    have hwr : IntKind.i64.wrap (y + (T : Int)) = y + (T : Int) := IntWalk.i64_in _ (by omega)
    have z1 := hT4.z1
    have l0 := hT4.sb.c0
    have l1 := hT4.sb.c1
    have l2 := hT4.sb.c2
    have l3 := hT4.sb.c3
    have hse := ssel_any (n := L) (z : Int) (k : Int) hT4.sb.sx HF.out (by omega) HM.out.2.1 (by omega)
    have HSE := Lib.hid hse
    have HT4 := Lib.hid hT4
    clear hse hT4
    go_wp2_with fail
    (with_reducible refine HSE.out.mono ?_)
    rintro e u5 ⟨hcase, hb5⟩
    have hT5 := HT4.out.kept hb5
    clear hb5 HSE HT4 z1 l0 l1 l2 l3 hy hz hwr hy1 hy2
    rcases hcase with ⟨h, -⟩ | ⟨P, hPL, hPx, hPk, hPk1, rfl⟩
    · exfalso
      have := HTT.out
      omega
    · obtain ⟨bb, off, hAe, -, cP⟩ := num_at hT5.nums (i := P) (by rw [HM.out.2.1]; exact hPL)
      rw [hPx] at cP
      have hra := srank_any (n := L) (z : Int) (P : Int) hT5.sb.sx HF.out (by omega) HM.out.2.1 (by omega)
      rw [lo_nat L P (by omega), hPk] at hra
      have HRA := Lib.hid hra
      have HPP := Lib.hid (And.intro hPx (And.intro hPk hPk1))
      have HT5 := Lib.hid hT5
      have l0 := hT5.sb.c0
      have l1 := hT5.sb.c1
      have l2 := hT5.sb.c2
      have l3 := hT5.sb.c3
      subst hAe
      clear hra hT5 hPx hPk hPk1
      have g1 : (0 : Int) ≤ (P : Int) := by omega
      have g2 : (P : Int) < (L : Int) := by omega
      have g3 : ((z : Int) == (z : Int)) = true := by simp
      have g4 : ((k : Int) == (k : Int)) = true := by simp
      have g5 : IntKind.i64.wrap ((P : Int) + 1) = (P : Int) + 1 := IntWalk.i64_in _ (by omega)
      have g6 : IntKind.i64.wrap ((k : Int) + 1) = (k : Int) + 1 := IntWalk.i64_in _ (by omega)
      go_wp2_with fail
      (with_reducible refine HRA.out.mono ?_)
      rintro e u6 ⟨rfl, hb6⟩
      have hT6 := HT5.out.kept hb6
      have hrb := srank_any (n := L) (z : Int) ((P + 1 : Nat) : Int) hT6.sb.sx HF.out (by omega) HM.out.2.1 (by omega)
      rw [lo_nat L (P + 1) (by omega), HPP.out.2.2] at hrb
      rw [show ((P + 1 : Nat) : Int) = (P : Int) + 1 by omega] at hrb
      have HRB := Lib.hid hrb
      have HT6 := Lib.hid hT6
      have l0 := hT6.sb.c0
      have l1 := hT6.sb.c1
      have l2 := hT6.sb.c2
      have l3 := hT6.sb.c3
      have g7 : ((k : Int) + 1 == (k : Int) + 1) = true := by simp
      clear hrb hT6 hb6 HRA HT5
      go_wp2_with fail
      (with_reducible refine HRB.out.mono ?_)
      rintro e u7 ⟨rfl, hb7⟩
      have hT7 := HT6.out.kept hb7
      have hat := sat_any (n := L) P hT7.sb.sx HF.out (by omega) HM.out.2.1 (by omega) hPL
      rw [HPP.out.1] at hat
      have HAT := Lib.hid hat
      have HT7 := Lib.hid hT7
      have l0 := hT7.sb.c0
      have l1 := hT7.sb.c1
      have l2 := hT7.sb.c2
      have l3 := hT7.sb.c3
      clear hat hT7 hb7 HRB HT6
      go_wp2_with fail
      (with_reducible refine HAT.out.mono ?_)
      rintro e u8 ⟨rfl, hb8⟩
      have HBB := Lib.hid (HT7.out.sb.bel.trans (hb8.mono HT7.out.sb.bel.size))
      clear hb8 HT7 HAT
      go_wp2
      go_ret
      exact ⟨rfl, HBB.out⟩

end Go.Proofs.Ytdidoecigkbffaa
