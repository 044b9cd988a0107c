/- The contract of made, given that of marked. -/
import Derived.Test.YtpnjccomngdblaaGreatZL
import Derived.Test.YtpnjccomngdblaaGreatYY
set_option maxRecDepth 100000
namespace Go.Proofs.YtpnjccomngdblaaGreat
open Go.RowKit
open M
attribute [local go_sem ↓] Go.wp_at_zero Go.wp_at_succ

/-- What is said of marked. -/
def MarkedSaid : Prop := ∀ (A : Option Addr) (n c : Nat) (l : List Int) (w : World), NumsAt .i64 w A (begL l) → l.length + 1 = n → n ≤ 1001 → I64s l → Nn l →
  Calls Tryz.prog 77 #[.slice A n c] w fun e u => ∃ F : FQ, e = .returned (.agg #[.int .i64 (F.N : Int), .int .i64 F.Z, .slice F.wa F.wW F.wc, .int .i64 (F.R.n : Int), .slice F.R.a F.R.m F.R.c, .int .i64 (F.R.cn : Int), .int .i64 (F.R.cW : Int), .int .i64 (F.R.cL : Int), .slice F.R.a2 F.R.m2 F.R.c2, .int .i64 (F.S.n : Int), .int .i64 (F.S.W : Int), .int .i64 (F.S.L : Int), .slice F.S.a F.S.m F.S.c, .int .i64 (F.P.n : Int), .int .i64 (F.P.W : Int), .int .i64 (F.P.L : Int), .slice F.P.a F.P.m F.P.c]) ∧ MP u F l ∧ Below w.heap.size w u

set_option maxHeartbeats 4000000 in
theorem made_ok (hmd : MarkedSaid) (A : Option Addr) (n c : Nat) (l : List Int) (size : Nat) (N : Nat) (Z : Int) (a : Option Addr) (W cw : Nat) (w : World) (hA : NumsAt .i64 w A (turnL l)) (hl : l.length + 1 = n) (hn : n ≤ 1001) (hsy : ∀ x ∈ l, 0 ≤ x ∧ x < (size : Int)) (hsz : size ≤ 65535)
    (hN : N = l.length + 1) (hZ : Z = (size : Int) + 1) (hpw : Z ≤ 2 ^ W) (hW : WX w (wavL l) W a) :
    Calls Tryz.prog 56 #[.agg #[.int .i64 (N : Int), .int .i64 Z, .slice a W cw], .slice A n c] w fun e u => ∃ F : FQ, e = .returned (.tuple #[.agg #[.int .i64 (F.N : Int), .int .i64 F.Z, .slice F.wa F.wW F.wc, .int .i64 (F.R.n : Int), .slice F.R.a F.R.m F.R.c, .int .i64 (F.R.cn : Int), .int .i64 (F.R.cW : Int), .int .i64 (F.R.cL : Int), .slice F.R.a2 F.R.m2 F.R.c2, .int .i64 (F.S.n : Int), .int .i64 (F.S.W : Int), .int .i64 (F.S.L : Int), .slice F.S.a F.S.m F.S.c, .int .i64 (F.P.n : Int), .int .i64 (F.P.W : Int), .int .i64 (F.P.L : Int), .slice F.P.a F.P.m F.P.c], .int .i64 0]) ∧ FMI u F l size ∧ F.wa = a ∧ F.wW = W ∧ Below w.heap.size w u := by
  have h64 := sy_64 hsy hsz
  have hnn := sy_nn hsy
  have hb64 : I64s (turnL l) := fun x hx => by
    have := (turn_perm l).mem_iff.1 hx
    rcases List.mem_cons.1 this with rfl | hx
    · omega
    · exact h64 x hx
  obtain ⟨w1, hw1⟩ : ∃ w1, w1 = w.alloc (.cells #[.int .i64 (N : Int), .int .i64 Z, .slice a W cw] 28) := ⟨_, rfl⟩
  obtain ⟨w2, hw2⟩ : ∃ w2, w2 = w1.alloc (.cells #[.int .i64 0, .int .i64 0, .slice none 0 0, .int .i64 0, .slice none 0 0, .int .i64 0, .int .i64 0, .int .i64 0, .slice none 0 0, .int .i64 0, .int .i64 0, .int .i64 0, .slice none 0 0, .int .i64 0, .int .i64 0, .int .i64 0, .slice none 0 0] 37) := ⟨_, rfl⟩
  have hs1 : w1.heap.size = w.heap.size + 1 := by rw [hw1]; simp
  have b1 : Below w.heap.size w w1 := by rw [hw1]; exact al w _
  have b2 : Below w1.heap.size w1 w2 := by rw [hw2]; exact al w1 _
  have bx : WBx w1 w.heap.size (N : Int) Z (.slice a W cw) := by rw [hw1]; exact WBx.new _ _ _ _
  have bx2 := bx.kept b2
  have th2 : w2.there w1.heap.size 0 17 := by rw [hw2]; exact there_new w1
  have ty2 : Typ w2 w1.heap.size 37 := by rw [hw2]; exact ⟨_, _, heap_alloc_new w1 _⟩
  have hs2 : w2.heap.size = w1.heap.size + 1 := by rw [hw2]; simp
  have b02 : Below w.heap.size w w2 := b1.trans (b2.mono (by omega))
  have hnx := next_ok A n c l w2 (hA.kept b02) hl (by omega) h64 hnn hb64
  have hbg := fun D u (h : NumsAt .i64 u (some ⟨D, 0, none⟩) (nextL l)) => begins_any (some ⟨D, 0, none⟩) n n l u h hl (by omega) h64 hnn
  have hmk := fun D u (h : NumsAt .i64 u (some ⟨D, 0, none⟩) (begL l)) => hmd (some ⟨D, 0, none⟩) n n l u h hl hn h64 hnn
  have HX := Lib.hid (And.intro hnx (And.intro hbg (And.intro hmk (And.intro hW (And.intro hN (And.intro hZ (And.intro hpw (And.intro hsy (And.intro hsz (And.intro hl hn))))))))))
  have H2 := Lib.hid (And.intro bx2 (And.intro th2 (And.intro ty2 (And.intro b02 (And.intro hs1 hs2)))))
  clear hnx hbg hmk hW hN hZ hpw hsy hsz h64 hnn hb64 hA hl bx bx2 th2 ty2 b02 b1 b2 hs2 hn
  go_enter Tryz.func56, Tryz.ntmps56
  go_upto_region 1 with fail
  rw [← hw1, ← hs1, ← hw2]
  obtain ⟨r, hr⟩ : ∃ r, w1.heap.size = r := ⟨_, rfl⟩
  obtain ⟨B, hB⟩ : ∃ B, w.heap.size = B := ⟨_, rfl⟩
  rw [hr, hB] at H2
  simp only [hr]
  have HB := Lib.hid hB
  clear hw1 hw2 hs1 hr
  go_wp2_with fail
  (with_reducible refine HX.out.1.mono ?_)
  rintro e u1 ⟨D, rfl, h1, b3⟩
  have HA := Lib.hid (And.intro (HX.out.2.1 D u1 h1) b3)
  clear h1 b3
  go_wp2_with fail
  (with_reducible refine HA.out.1.mono ?_)
  rintro e u2 ⟨D2, rfl, h2, -, b4⟩
  have b5 := HA.out.2.trans (b4.mono HA.out.2.size)
  have HC := Lib.hid (And.intro (HX.out.2.2.1 D2 u2 h2) b5)
  clear h2 b4 b5 HA
  go_wp2_with fail
  (with_reducible refine HC.out.1.mono ?_)
  rintro e u3 ⟨F0, rfl, hMP, b6⟩
  have b7 := HC.out.2.trans (b6.mono HC.out.2.size)
  have HM := Lib.hid (And.intro hMP b7)
  clear hMP b6 b7 HC
  go_upto_region 5 with fail
  have hbx := MBx.new u3 F0
  have hth := there_alloc u3 #[.int .i64 (F0.N : Int), .int .i64 F0.Z, .slice F0.wa F0.wW F0.wc, .int .i64 (F0.R.n : Int), .slice F0.R.a F0.R.m F0.R.c, .int .i64 (F0.R.cn : Int), .int .i64 (F0.R.cW : Int), .int .i64 (F0.R.cL : Int), .slice F0.R.a2 F0.R.m2 F0.R.c2, .int .i64 (F0.S.n : Int), .int .i64 (F0.S.W : Int), .int .i64 (F0.S.L : Int), .slice F0.S.a F0.S.m F0.S.c, .int .i64 (F0.P.n : Int), .int .i64 (F0.P.W : Int), .int .i64 (F0.P.L : Int), .slice F0.P.a F0.P.m F0.P.c] 37 17 rfl
  have htx : Typ (u3.alloc (.cells #[.int .i64 (F0.N : Int), .int .i64 F0.Z, .slice F0.wa F0.wW F0.wc, .int .i64 (F0.R.n : Int), .slice F0.R.a F0.R.m F0.R.c, .int .i64 (F0.R.cn : Int), .int .i64 (F0.R.cW : Int), .int .i64 (F0.R.cL : Int), .slice F0.R.a2 F0.R.m2 F0.R.c2, .int .i64 (F0.S.n : Int), .int .i64 (F0.S.W : Int), .int .i64 (F0.S.L : Int), .slice F0.S.a F0.S.m F0.S.c, .int .i64 (F0.P.n : Int), .int .i64 (F0.P.W : Int), .int .i64 (F0.P.L : Int), .slice F0.P.a F0.P.m F0.P.c] 37)) u3.heap.size 37 := ⟨_, _, heap_alloc_new u3 _⟩
  have hbb := al u3 (.cells #[.int .i64 (F0.N : Int), .int .i64 F0.Z, .slice F0.wa F0.wW F0.wc, .int .i64 (F0.R.n : Int), .slice F0.R.a F0.R.m F0.R.c, .int .i64 (F0.R.cn : Int), .int .i64 (F0.R.cW : Int), .int .i64 (F0.R.cL : Int), .slice F0.R.a2 F0.R.m2 F0.R.c2, .int .i64 (F0.S.n : Int), .int .i64 (F0.S.W : Int), .int .i64 (F0.S.L : Int), .slice F0.S.a F0.S.m F0.S.c, .int .i64 (F0.P.n : Int), .int .i64 (F0.P.W : Int), .int .i64 (F0.P.L : Int), .slice F0.P.a F0.P.m F0.P.c] 37)
  obtain ⟨u4, hu4⟩ : ∃ u4, u3.alloc (.cells #[.int .i64 (F0.N : Int), .int .i64 F0.Z, .slice F0.wa F0.wW F0.wc, .int .i64 (F0.R.n : Int), .slice F0.R.a F0.R.m F0.R.c, .int .i64 (F0.R.cn : Int), .int .i64 (F0.R.cW : Int), .int .i64 (F0.R.cL : Int), .slice F0.R.a2 F0.R.m2 F0.R.c2, .int .i64 (F0.S.n : Int), .int .i64 (F0.S.W : Int), .int .i64 (F0.S.L : Int), .slice F0.S.a F0.S.m F0.S.c, .int .i64 (F0.P.n : Int), .int .i64 (F0.P.W : Int), .int .i64 (F0.P.L : Int), .slice F0.P.a F0.P.m F0.P.c] 37) = u4 := ⟨_, rfl⟩
  rw [hu4] at hbx hth htx hbb
  rw [hu4]
  have hs0 : w2.heap.size ≤ u3.heap.size := HM.out.2.size
  have hs2 := H2.out.2.2.2.2.2
  have hs1 := H2.out.2.2.2.2.1
  obtain ⟨X, hX⟩ : ∃ X, u3.heap.size = X := ⟨_, rfl⟩
  rw [hX] at hbx hth htx hs0
  simp only [hX]
  have b24 := HM.out.2.trans (hbb.mono HM.out.2.size)
  obtain ⟨x0, x1, x2⟩ := H2.out.1.kept b24
  have hth2 := there_kp H2.out.2.1 (show r < w2.heap.size by omega) (Below.kp b24) (fun h => h)
  have hty2 := H2.out.2.2.1.kept b24
  have hbw := H2.out.2.2.2.1.trans (b24.mono (by have := H2.out.2.2.2.1.size; omega))
  have hMP := HM.out.1.kept hbb
  have hXl : X < u4.heap.size := hbx.lt
  have hrX : r < X := by omega
  have hBr : B < r := by omega
  have hthp := there_part hth (show 0 + 3 ≤ 17 by omega)
  have HT := Lib.hid hthp
  have H4 := Lib.hid (And.intro hbx (And.intro hth (And.intro htx (And.intro hth2 (And.intro hty2 (And.intro hbw hMP))))))
  clear hbx hth htx hbb hu4 hs0 hs2 hs1 hX b24 hth2 hty2 hbw hMP hthp HM H2
  go_upto_region 6 with (refine store27 N Z a W cw X _ _ (by with_reducible rfl) rfl rfl rfl HT.out ?_)
  obtain ⟨u5, hu5⟩ : ∃ u5, u4.setCells X 0 [.int .i64 (N : Int), .int .i64 Z, .slice a W cw] = u5 := ⟨_, rfl⟩
  rw [hu5]
  obtain ⟨hbx, hth, htx, hth2, hty2, hbw, hMP⟩ := H4.out
  have hkp := setCells_kp X [.int .i64 (N : Int), .int .i64 Z, .slice a W cw] 0 u4
  have hbx5 := hbx.partW N Z a W cw (there_part hth (by omega))
  have hn4 : ∀ b, b = X → NoW u4 b := fun b e => ⟨37, by decide, by rw [e]; exact htx⟩
  have hMP5 := hMP.typs hkp hn4
  have hth5 := there_kp hth2 (show r < u4.heap.size by omega) hkp (show ¬ r = X by omega)
  have hty5 := hty2.kp hkp (show ¬ r = X by omega)
  have hbw5 : Below B w (u4.setCells X 0 [.int .i64 (N : Int), .int .i64 Z, .slice a W cw]) := Below.setCells' (by omega) _ 0 hbw
  rw [hu5] at hbx5 hMP5 hth5 hty5 hbw5
  obtain ⟨F7, hF7⟩ : ∃ F7 : FQ, F7 = ({ F0 with N := N, Z := Z, wa := a, wW := W, wc := cw } : FQ) := ⟨_, rfl⟩
  rw [← hF7] at hbx5
  have HB7 := Lib.hid hbx5
  have HT7 := Lib.hid hth5
  have HE := Lib.hid (And.intro hMP5 (And.intro hty5 (And.intro hbw5 hF7)))
  clear hu5 hkp hn4 hMP5 hth5 hty5 hbw5 hF7 hbx5 hbx hth htx hth2 hty2 hbw hMP H4 HT hXl x0 x1 x2
  go_wp2_with (first
    | (refine load36 HB7.out _ (by with_reducible rfl) rfl rfl ?_)
    | (refine store36 F7 r _ _ (by with_reducible rfl) rfl rfl rfl HT7.out ?_))
  have hst := MBx.stored F7 HT7.out
  obtain ⟨hMP, hty, hbw, hF⟩ := HE.out
  have hk7 := setCells_kp r [.int .i64 (F7.N : Int), .int .i64 F7.Z, .slice F7.wa F7.wW F7.wc, .int .i64 (F7.R.n : Int), .slice F7.R.a F7.R.m F7.R.c, .int .i64 (F7.R.cn : Int), .int .i64 (F7.R.cW : Int), .int .i64 (F7.R.cL : Int), .slice F7.R.a2 F7.R.m2 F7.R.c2, .int .i64 (F7.S.n : Int), .int .i64 (F7.S.W : Int), .int .i64 (F7.S.L : Int), .slice F7.S.a F7.S.m F7.S.c, .int .i64 (F7.P.n : Int), .int .i64 (F7.P.W : Int), .int .i64 (F7.P.L : Int), .slice F7.P.a F7.P.m F7.P.c] 0 u5
  have hn7 : ∀ b, b = r → NoW u5 b := fun b e => ⟨37, by decide, by rw [e]; exact hty⟩
  have hM7 := hMP.typs hk7 hn7
  have hb8 : Below B w (u5.setCells r 0 [.int .i64 (F7.N : Int), .int .i64 F7.Z, .slice F7.wa F7.wW F7.wc, .int .i64 (F7.R.n : Int), .slice F7.R.a F7.R.m F7.R.c, .int .i64 (F7.R.cn : Int), .int .i64 (F7.R.cW : Int), .int .i64 (F7.R.cL : Int), .slice F7.R.a2 F7.R.m2 F7.R.c2, .int .i64 (F7.S.n : Int), .int .i64 (F7.S.W : Int), .int .i64 (F7.S.L : Int), .slice F7.S.a F7.S.m F7.S.c, .int .i64 (F7.P.n : Int), .int .i64 (F7.P.W : Int), .int .i64 (F7.P.L : Int), .slice F7.P.a F7.P.m F7.P.c]) := Below.setCells' (by omega) _ 0 hbw
  rw [← HB.out] at hb8
  generalize u5.setCells r 0 [.int .i64 (F7.N : Int), .int .i64 F7.Z, .slice F7.wa F7.wW F7.wc, .int .i64 (F7.R.n : Int), .slice F7.R.a F7.R.m F7.R.c, .int .i64 (F7.R.cn : Int), .int .i64 (F7.R.cW : Int), .int .i64 (F7.R.cL : Int), .slice F7.R.a2 F7.R.m2 F7.R.c2, .int .i64 (F7.S.n : Int), .int .i64 (F7.S.W : Int), .int .i64 (F7.S.L : Int), .slice F7.S.a F7.S.m F7.S.c, .int .i64 (F7.P.n : Int), .int .i64 (F7.P.W : Int), .int .i64 (F7.P.L : Int), .slice F7.P.a F7.P.m F7.P.c] = u8 at *
  refine bodyPost_ret (v := .tuple #[.agg #[.int .i64 (F7.N : Int), .int .i64 F7.Z, .slice F7.wa F7.wW F7.wc, .int .i64 (F7.R.n : Int), .slice F7.R.a F7.R.m F7.R.c, .int .i64 (F7.R.cn : Int), .int .i64 (F7.R.cW : Int), .int .i64 (F7.R.cL : Int), .slice F7.R.a2 F7.R.m2 F7.R.c2, .int .i64 (F7.S.n : Int), .int .i64 (F7.S.W : Int), .int .i64 (F7.S.L : Int), .slice F7.S.a F7.S.m F7.S.c, .int .i64 (F7.P.n : Int), .int .i64 (F7.P.W : Int), .int .i64 (F7.P.L : Int), .slice F7.P.a F7.P.m F7.P.c], .int .i64 0]) (results_fm2 (b := r) (F := F7) Tryz.results56 _ ?hp ?hq hst) ?hd ?_
  case hp => rfl
  case hq => rfl
  case hd => rfl
  have hWX := HX.out.2.2.2.1.kept hb8
  refine ⟨F7, rfl, ?_, by rw [hF], by rw [hF], hb8⟩
  rw [hF]
  exact ⟨hWX, HX.out.2.2.2.2.1, HX.out.2.2.2.2.2.1, HX.out.2.2.2.2.2.2.1, HX.out.2.2.2.2.2.2.2.1, by have := HX.out.2.2.2.2.2.2.2.2.2; omega, HX.out.2.2.2.2.2.2.2.2.1, hM7.rk, hM7.smp, hM7.plc, hM7.sW⟩

end Go.Proofs.YtpnjccomngdblaaGreat
