/- The walk of WaveTurns. -/
import Derived.Test.YtnedjbeemijmlaaWW
import Derived.Deep.CutRange
import Derived.Deep.CutBlock
set_option maxRecDepth 100000
namespace Go.Proofs.Ytnedjbeemijmlaa
open Go.RowKit
open M
attribute [local go_sem ↓] Go.wp_at_zero Go.wp_at_succ

set_option maxHeartbeats 8000000 in
theorem turns_walk (A : Option Addr) (n0 c0 : Nat) (xs : List Int) (size0 : Int) (q0 q1 q2 : Int) (w : World) (hA : NumsAt .i64 w A xs) (hx : xs.length = n0) :
    Calls Try.prog 5 #[.slice A n0 c0, .int .i64 size0, .agg #[.int .i64 q0, .int .i64 q1, .int .i64 q2]] w fun e w' => e = .returned (.bool true) ∧ Below w.heap.size w w' := by
  have hsy := fun u (hb : Below w.heap.size w u) => symbols_any A n0 c0 xs size0 u (hA.kept hb) hx
  have HSY := Lib.hid hsy
  clear hsy hA hx
  go_enter Try.func5, Try.ntmps5
  go_wp2_with fail
  refine (awake_any _).mono ?_
  rintro e w1 ⟨rfl, hb1⟩
  have hb0 : Below w.heap.size w w1 := ((Below.refl _ _).alloc (Nat.le_refl _) _).trans (hb1.mono (by simp))
  have z0 := hb1.cell (p := ⟨w.heap.size, 0, none⟩) (by simp)
  have z1 := hb1.cell (p := ⟨w.heap.size, 1, none⟩) (by simp)
  have z2 := hb1.cell (p := ⟨w.heap.size, 2, none⟩) (by simp)
  rw [cell_new _ _ _ _ _ rfl] at z0 z1 z2
  have z0 : w1.cell? ⟨w.heap.size, 0, none⟩ = some (.int .i64 q0) := z0
  have z1 : w1.cell? ⟨w.heap.size, 1, none⟩ = some (.int .i64 q1) := z1
  have z2 : w1.cell? ⟨w.heap.size, 2, none⟩ = some (.int .i64 q2) := z2
  have HB := Lib.hid (And.intro hb0 (And.intro z0 (And.intro z1 z2)))
  clear hb0 hb1 z0 z1 z2
  go_wp2_with fail
  refine (HSY.out _ HB.out.1).mono ?_
  rintro e w2 ⟨s, v, m, rfl, hs1, hs2, hm80, hms, hom⟩
  obtain ⟨ma, mc, rfl, hmn, -, hmc, -⟩ := nums_of_own hom.1
  have hmay := may_syms m s hs1 hs2 hms
  have hblk : ∀ b o, ma = some ⟨b, o, none⟩ → b < w2.heap.size := fun b o e => by
    subst e
    rcases hom.1.2 with ⟨e1, -⟩ | ⟨g, cp, cur, e1, -⟩
    · simp at e1
    · simp only [Value.slice.injEq, Option.some.injEq, Addr.mk.injEq] at e1
      obtain ⟨⟨rfl, rfl, -⟩, -, rfl⟩ := e1
      exact (hom.1.lt b rfl).2
  have hnew := wnew_any ma m.length mc m (s : Int) w2 hmn rfl (by omega) hmc hmay hblk
  have hb2 := HB.out.1.trans (hom.2.mono HB.out.1.size)
  have hsz := wdt_pow (s : Int) (by omega)
  have HM := Lib.hid (And.intro hmn (And.intro hms (And.intro hom.2 (And.intro hb2 hsz))))
  have HNW := Lib.hid hnew
  clear hmay hnew hblk hom hmn hms hmc hb2 hsz HSY
  generalize hn : m.length = n at *
  have HN := Lib.hid hn
  clear hn
  go_wp2_with fail
  refine HNW.out.mono ?_
  rintro e w3 ⟨a, cap, rfl, hwx, hb3⟩
  have hb4 := HM.out.2.2.2.1.trans (hb3.mono HM.out.2.2.2.1.size)
  have hb5 := HM.out.2.2.1.trans (hb3.mono HM.out.2.2.1.size)
  have y0 := hb5.cell (p := ⟨w.heap.size, 0, none⟩) (World.block_lt_of_cell? w1 _ HB.out.2.1)
  have y1 := hb5.cell (p := ⟨w.heap.size, 1, none⟩) (World.block_lt_of_cell? w1 _ HB.out.2.2.1)
  have y2 := hb5.cell (p := ⟨w.heap.size, 2, none⟩) (World.block_lt_of_cell? w1 _ HB.out.2.2.2)
  rw [HB.out.2.1] at y0
  rw [HB.out.2.2.1] at y1
  rw [HB.out.2.2.2] at y2
  generalize wdt (s : Int) = W at *
  have hbn : Below w3.heap.size w3 (w3.alloc (.cells #[.int .i64 (n : Int), .int .i64 (s : Int), .slice a W cap] 27)) := (Below.refl _ _).alloc (Nat.le_refl _) _
  have hwl : WL w w3.heap.size n m W a cap (s : Int) (w3.alloc (.cells #[.int .i64 (n : Int), .int .i64 (s : Int), .slice a W cap] 27)) := ⟨WBx.new _ _ _ _, hwx.kept hbn, HN.out, HM.out.2.2.2.2, HM.out.2.1, hb4.trans (hbn.mono hb4.size)⟩
  have hqb := World.block_lt_of_cell? w3 _ y0
  have hG : LG w w.heap.size q0 q1 q2 w3.heap.size n m W a cap (s : Int) ma (w3.alloc (.cells #[.int .i64 (n : Int), .int .i64 (s : Int), .slice a W cap] 27)) :=
    ⟨hwl, by rw [hbn.cell (p := ⟨w.heap.size, 0, none⟩) hqb]; exact y0, by rw [hbn.cell (p := ⟨w.heap.size, 1, none⟩) hqb]; exact y1, by rw [hbn.cell (p := ⟨w.heap.size, 2, none⟩) hqb]; exact y2, (HM.out.1.kept hb3).kept hbn⟩
  have HG := Lib.hid hG
  have HX := Lib.hid (And.intro HN.out HM.out.2.1)
  clear hb3 hb4 hb5 y0 y1 y2 hbn hwl hqb hG hwx HM HNW HB HN
  obtain ⟨y, hy, hy1, hy2⟩ := abs_rest q2 (n + 1) (by omega)
  rw [show ((n + 1 : Nat) : Int) = (n : Int) + 1 by omega] at hy hy1 hy2
  have hne2 : ((n : Int) + 1 == 0) = false := by simp; omega
  have hne3 : (n : Int) + 1 ≠ 0 := by omega
  have z2 := (HG.out).z2
  go_upto_if 41 with fail
  clear z2
  generalize w3.alloc (.cells #[.int .i64 (n : Int), .int .i64 (s : Int), .slice a W cap] 27) = W2 at *
  generalize w3.heap.size = bx at *
  generalize hqb : w.heap.size = qb at *
  have HQB := Lib.hid hqb
  clear hqb
  go_cut [12] from 42 to 43 (fun v12 wx => (∃ t : Nat, v12 = .int .i64 (t : Int) ∧ t ≤ n) ∧ wx = W2)
  case first =>
    by_cases hneg : y < 0
    · go_wp2
      go_meet
      exact ⟨⟨(-y).toNat, by simp only [Value.int.injEq, true_and]; omega, by omega⟩, rfl⟩
    · go_wp2
      go_meet
      exact ⟨⟨y.toNat, by simp only [Value.int.injEq, true_and]; omega, by omega⟩, rfl⟩
  case rest =>
    obtain ⟨⟨t, rfl, ht⟩, rfl⟩ := hcut
    clear hy hy1 hy2 hne2 hne3
    have hlot : lo m.length (t : Int) = t := by rw [HX.out.1]; unfold lo; omega
    have hrkc := fun (c : Nat) (hc : (c : Int) < (s : Int)) => cnt_rk m (s : Int) c (t : Int) hc
    have hblc := fun (c : Nat) => bel_lt m (s : Int) c (t : Int) HX.out.2
    have heqr := fun (c : Nat) => eqN_rk m c t
    have hlts := fun (c : Nat) => ltN_succ (rng m 0 t) c
    have hltl := fun (c : Nat) => Nat.le_trans (ltN_le (rng m 0 t) c) (rng_len m 0 t)
    rw [hlot] at hrkc hblc
    rw [HX.out.1] at hltl
    have hlta : ltN (rng m 0 t) s = t := by
      rw [ltN_all _ s (fun x hx => (HX.out.2 x (rng_mem _ _ _ hx)).2), rng_zero, List.length_take, HX.out.1]; omega
    have hlt0 : ltN (rng m 0 t) 0 = 0 := ltN_zero _ (fun x hx => (HX.out.2 x (rng_mem _ _ _ hx)).1)
    have HF := Lib.hid (And.intro hrkc (And.intro hblc (And.intro heqr (And.intro hlts (And.intro hltl (And.intro hlta hlt0))))))
    clear hlot hrkc hblc heqr hlts hltl hlta hlt0
    generalize rng m 0 t = M at *
    go_wp2
    go_loopw [13, 14] (fun v13 v14 wr => ∃ c : Nat, c ≤ s ∧ v14 = .int .i64 (c : Int) ∧ v13 = .int .i64 (ltN M c : Nat) ∧ LG w qb q0 q1 q2 bx n m W a cap (s : Int) ma wr) (fun _ v14 _ => s - (intOf v14).toNat)
    case atStart => exact ⟨0, Nat.zero_le _, rfl, by rw [HF.out.2.2.2.2.2.2]; rfl, HG.out⟩
    case round =>
      obtain ⟨c, hc, rfl, rfl, hG⟩ := hrel
      clear HG
      by_cases hlt : c < s
      · have e1 := HF.out.1 c (by omega)
        rw [← HF.out.2.2.1] at e1
        have e2 := HF.out.2.1 (c + 1)
        rw [HF.out.2.2.2.1] at e2
        have hl1 := HF.out.2.2.2.2.1 c
        have hl2 := HF.out.2.2.2.2.1 (c + 1)
        have hst := HF.out.2.2.2.1 c
        rw [hst] at hl2
        have k1 := fun u (hu : LG w qb q0 q1 q2 bx n m W a cap (s : Int) ma u) => rk_wl (c : Int) (t : Int) hu.wl
        have k2 := fun u (hu : LG w qb q0 q1 q2 bx n m W a cap (s : Int) ma u) => bel_wl ((c + 1 : Nat) : Int) (t : Int) hu.wl
        rw [e1] at k1
        rw [e2] at k2
        obtain ⟨c1, hc1⟩ : ∃ c1, c1 = c + 1 := ⟨_, rfl⟩
        rw [← hc1] at k2
        have K1 := Lib.hid k1
        have K2 := Lib.hid k2
        have HST := Lib.hid hst
        clear e1 e2 hst k1 k2
        generalize ltN M c = p at *
        generalize eqN M c = q at *
        obtain ⟨x0, x1, x2⟩ := hG.wl.box
        have HG := Lib.hid hG
        have q1' : (c : Int) < (s : Int) := by omega
        clear hG
        go_wp2_with fail
        clear x0 x1 x2
        refine (K1.out _ HG.out).mono ?_
        rintro e u1 ⟨rfl, -, hb⟩
        have hG := HG.out.kept hb
        obtain ⟨x0, x1, x2⟩ := hG.wl.box
        have HG1 := Lib.hid hG
        have r1 : IntKind.i64.wrap ((p : Int) + (q : Int)) = ((p + q : Nat) : Int) := by rw [IntWalk.i64_in _ (by omega)]; omega
        have r2 : (c : Int) + 1 = (c1 : Int) := by omega
        have HC1 := Lib.hid hc1
        clear hG hb HG hc1
        go_wp2_with fail
        clear x0 x1 x2
        refine (K2.out _ HG1.out).mono ?_
        rintro e u2 ⟨rfl, -, hb⟩
        have hG := HG1.out.kept hb
        have HG2 := Lib.hid hG
        clear hG hb HG1
        go_wp2
        go_roundw
        case rel => exact ⟨c + 1, by omega, by rw [← HC1.out], by rw [HST.out]; first | rfl | go_num, HG2.out⟩
        case measure => simp [intOf]; omega
      · obtain rfl : c = s := by omega
        rw [HF.out.2.2.2.2.2.1]
        have HG := Lib.hid hG
        clear hG HF
        have z0 := HG.out.z0
        obtain ⟨x0, x1, x2⟩ := HG.out.wl.box
        obtain ⟨y1, hy, hy1, hy2⟩ := abs_rest q0 c (by omega)
        obtain ⟨y, hyz, hyc⟩ := up_rest y1 c hy1 hy2
        have r0 : ((c : Int) == 0) = false := by simp; omega
        have r1 : IntKind.i64.wrap (y1 + (c : Int)) = y1 + (c : Int) := IntWalk.i64_in _ (by omega)
        have hlon : lo m.length (n : Int) = m.length := by rw [HX.out.1]; unfold lo; omega
        have hrk := cnt_rk m (c : Int) y (n : Int) (by omega)
        rw [hlon] at hrk
        have hel := eqs_len m (y : Int)
        have hse := selN_none true (eqs m (y : Int)) (rkN true (eqs m (y : Int)) m.length : Nat) (.inr (by rw [hel]; exact Int.le_refl _))
        have hsm := selN_none true (eqs m (y : Int)) (-1) (.inl (by omega))
        have hsome := fun k h0 h1 => selN_some true (eqs m (y : Int)) k h0 h1
        have hrkp := fun (p : Nat) (hp : p ≤ n) => cnt_rk m (c : Int) y (p : Int) (by omega)
        have hlop : ∀ p : Nat, p ≤ n → lo m.length (p : Int) = p := fun p hp => by rw [HX.out.1]; unfold lo; omega
        have hKn := rkN_le' true (eqs m (y : Int)) m.length
        have heat := fun p hp => eqs_at m (y : Int) p hp
        rw [hel] at hsome
        rw [HX.out.1] at hrk hse hsome hlop hrkp hKn heat
        generalize hK : rkN true (eqs m (y : Int)) n = K at *
        have k1 := fun u (hu : LG w qb q0 q1 q2 bx n m W a cap (c : Int) ma u) => rk_wl (y : Int) (n : Int) hu.wl
        rw [hrk] at k1
        have k2 := fun u (hu : LG w qb q0 q1 q2 bx n m W a cap (c : Int) ma u) => sel_wl (y : Int) (K : Nat) hu.wl
        rw [hse] at k2
        have k3 := fun u (hu : LG w qb q0 q1 q2 bx n m W a cap (c : Int) ma u) => sel_wl (y : Int) (-1) hu.wl
        rw [hsm] at k3
        have K1 := Lib.hid k1
        have K2 := Lib.hid k2
        have K3 := Lib.hid k3
        have HS := Lib.hid (And.intro hsome (And.intro hrkp (And.intro hlop heat)))
        have rn : ((n : Int) + 1 == 0) = false := by simp; omega
        clear k1 k2 k3 hrk hse hsm hsome hrkp hlop heat hlon hel hK
        go_wp2_with fail
        clear x0 x1 x2 z0 hy hyz r0 r1
        refine (K1.out _ HG.out).mono ?_
        rintro e u1 ⟨rfl, -, hb⟩
        have hG := HG.out.kept hb
        obtain ⟨x0, x1, x2⟩ := hG.wl.box
        have HG1 := Lib.hid hG
        clear hG hb HG
        go_wp2_with fail
        clear x0 x1 x2
        refine (K2.out _ HG1.out).mono ?_
        rintro e u2 ⟨rfl, -, hb⟩
        have hG := HG1.out.kept hb
        obtain ⟨x0, x1, x2⟩ := hG.wl.box
        have HG2 := Lib.hid hG
        clear hG hb HG1
        go_wp2_with fail
        clear x0 x1 x2
        refine (K3.out _ HG2.out).mono ?_
        rintro e u3 ⟨rfl, -, hb⟩
        have hG := HG2.out.kept hb
        obtain ⟨x0, x1, x2⟩ := hG.wl.box
        have z1 := hG.z1
        have HG3 := Lib.hid hG
        clear hG hb HG2 K1 K2 K3
        by_cases hK0 : K = 0
        · subst hK0
          go_wp2
          go_ret
          exact ⟨rfl, by rw [HQB.out]; have := HG3.out.wl.bel; rw [HQB.out] at this; exact this⟩
        · obtain ⟨y2', hw, hw1, hw2⟩ := abs_rest q1 K (by omega)
          obtain ⟨k, hkz, hkK⟩ := up_rest y2' K hw1 hw2
          have r0 : ((K : Int) == 0) = false := by simp; omega
          have r1 : IntKind.i64.wrap (y2' + (K : Int)) = y2' + (K : Int) := IntWalk.i64_in _ (by omega)
          obtain ⟨p, hp, hsel, hgl, hr1, hr2⟩ := HS.out.1 (k : Int) (by omega) (by omega)
          have e1 := HS.out.2.1 p (by omega)
          have e2 := HS.out.2.1 (p + 1) (by omega)
          rw [HS.out.2.2.1 p (by omega)] at e1
          rw [HS.out.2.2.1 (p + 1) (by omega)] at e2
          have hgl2 : m.getD p 0 = (y : Int) := by
            have := HS.out.2.2.2 p hp
            rw [hgl] at this
            simpa using this.symm
          have k4 := fun u (hu : LG w qb q0 q1 q2 bx n m W a cap (c : Int) ma u) => sel_wl (y : Int) (k : Int) hu.wl
          rw [hsel] at k4
          have k5 := fun u (hu : LG w qb q0 q1 q2 bx n m W a cap (c : Int) ma u) => rk_wl (y : Int) (p : Int) hu.wl
          rw [e1, hr1] at k5
          have k6 := fun u (hu : LG w qb q0 q1 q2 bx n m W a cap (c : Int) ma u) => rk_wl (y : Int) ((p + 1 : Nat) : Int) hu.wl
          rw [e2, hr2] at k6
          obtain ⟨p1, hp1⟩ : ∃ p1, p1 = p + 1 := ⟨_, rfl⟩
          rw [← hp1] at k6
          have K4 := Lib.hid k4
          have K5 := Lib.hid k5
          have K6 := Lib.hid k6
          have HGL := Lib.hid hgl2
          clear k4 k5 k6 hsel hgl hr1 hr2 e1 e2 hgl2 HS
          go_wp2_with fail
          clear x0 x1 x2 z1 hw hkz r0 r1
          refine (K4.out _ HG3.out).mono ?_
          rintro e u4 ⟨rfl, -, hb⟩
          have hG := HG3.out.kept hb
          obtain ⟨x0, x1, x2⟩ := hG.wl.box
          obtain ⟨mb, mo, rfl, hmb, hmv⟩ := num_at hG.nums (i := p) (by rw [HX.out.1]; exact hp)
          rw [HGL.out] at hmv
          have s1 : (p : Int) < (n : Int) := by omega
          have s2 : (0 : Int) ≤ (p : Int) := by omega
          have HG4 := Lib.hid hG
          clear hG hb HG3
          go_wp2_with fail
          clear x0 x1 x2 hmv
          refine (K5.out _ HG4.out).mono ?_
          rintro e u5 ⟨rfl, -, hb⟩
          have hG := HG4.out.kept hb
          obtain ⟨x0, x1, x2⟩ := hG.wl.box
          have HG5 := Lib.hid hG
          have s3 : (p : Int) + 1 = (p1 : Int) := by omega
          clear hG hb HG4 hp1
          go_wp2_with fail
          clear x0 x1 x2
          refine (K6.out _ HG5.out).mono ?_
          rintro e u6 ⟨rfl, -, hb⟩
          have HG6 := Lib.hid (HG5.out.kept hb)
          clear hb HG5
          go_wp2
          go_ret
          exact ⟨rfl, by rw [HQB.out]; have := HG6.out.wl.bel; rw [HQB.out] at this; exact this⟩

end Go.Proofs.Ytnedjbeemijmlaa
