/- The contract of New, given that of marked. -/
import Derived.Test.YtpnjccomngdblaaGreatZQ
import Derived.Test.YtpnjccomngdblaaGreatZN
set_option maxRecDepth 100000
namespace Go.Proofs.YtpnjccomngdblaaGreat
open Go.RowKit
open M
attribute [local go_sem ↓] Go.wp_at_zero Go.wp_at_succ

theorem wav_may (l : List Int) (size : Nat) (h1 : 1 ≤ size) (h2 : size ≤ 65535) (hsy : ∀ x ∈ l, 0 ≤ x ∧ x < (size : Int)) : mayB (wavL l) ((size + 1 : Nat) : Int) = true := by
  rw [mayB_eq, Bool.and_eq_true, List.all_eq_true]
  refine ⟨by unfold sizeB; rw [decide_eq_true_eq]; omega, fun x hx => ?_⟩
  have := wav_in hsy x hx
  unfold hasB
  rw [decide_eq_true_eq]
  omega

set_option maxHeartbeats 4000000 in
theorem fnew_any (hmd : MarkedSaid) (A : Option Addr) (n c : Nat) (l : List Int) (size : Nat) (w : World) (hA : NumsAt .i64 w A l) (hl : l.length = n) (hn : n ≤ 1000) (hs1 : 1 ≤ size) (hs2 : size ≤ 65535) (hsy : ∀ x ∈ l, 0 ≤ x ∧ x < (size : Int)) :
    Calls Tryz.prog 32 #[.slice A n c, .int .i64 (size : Int)] w fun e u => ∃ F : FQ, e = .returned (.tuple #[.agg #[.int .i64 (F.N : Int), .int .i64 F.Z, .slice F.wa F.wW F.wc, .int .i64 (F.R.n : Int), .slice F.R.a F.R.m F.R.c, .int .i64 (F.R.cn : Int), .int .i64 (F.R.cW : Int), .int .i64 (F.R.cL : Int), .slice F.R.a2 F.R.m2 F.R.c2, .int .i64 (F.S.n : Int), .int .i64 (F.S.W : Int), .int .i64 (F.S.L : Int), .slice F.S.a F.S.m F.S.c, .int .i64 (F.P.n : Int), .int .i64 (F.P.W : Int), .int .i64 (F.P.L : Int), .slice F.P.a F.P.m F.P.c], .int .i64 0]) ∧ FMI u F l size ∧ Below w.heap.size w u ∧ ∀ p, F.wa = some p → w.heap.size < p.block := by
  have h64 := sy_64 hsy hs2
  have hnn := sy_nn hsy
  obtain ⟨w1, hw1⟩ : ∃ w1, w1 = w.alloc (.cells #[.int .i64 0, .int .i64 0, .slice none 0 0, .int .i64 0, .slice none 0 0, .int .i64 0, .int .i64 0, .int .i64 0, .slice none 0 0, .int .i64 0, .int .i64 0, .int .i64 0, .slice none 0 0, .int .i64 0, .int .i64 0, .int .i64 0, .slice none 0 0] 37) := ⟨_, rfl⟩
  have hsz1 : w1.heap.size = w.heap.size + 1 := by rw [hw1]; simp
  have b1 : Below w.heap.size w w1 := by rw [hw1]; exact al w _
  have th1 : w1.there w.heap.size 0 17 := by rw [hw1]; exact there_new w
  have ty1 : Typ w1 w.heap.size 37 := by rw [hw1]; exact ⟨_, _, heap_alloc_new w _⟩
  have hyy : symB l (size : Int) = true := (symB_iff _ _).2 hsy
  have hsm := syms_any A n c l (size : Int) w1 (hA.kept b1) hl (by omega)
  rw [hyy] at hsm
  have hfs := fsz_any (size : Int)
  rw [decide_eq_true (by omega)] at hfs
  have htn := turn_any A n c l w1 (hA.kept b1) hl (by omega) h64 hnn
  have htl : (turnL l).length = n + 1 := by rw [turnL_len, hl]
  have hmv := fun (P : Option Addr) (pc : Nat) (u : World) (h : NumsAt .i64 u P (turnL l)) => moved_any P (n + 1) pc (turnL l) 1 u h htl (by omega) (fun x hx => by
    have := (turn_perm l).mem_iff.1 hx
    rcases List.mem_cons.1 this with rfl | hx
    · omega
    · have := hsy x hx; omega) (by omega)
  have hwn := fun (D : Nat) (u : World) (h : NumsAt .i64 u (some ⟨D, 0, none⟩) (wavL l)) (hD : D < u.heap.size) => wnew_any (some ⟨D, 0, none⟩) (n + 1) (n + 1) (wavL l) ((size + 1 : Nat) : Int) u h (by rw [wavL_len, hl]) (by omega) (Nat.le_refl _) (wav_may l size hs1 hs2 hsy) (fun b o e => by
    simp only [Option.some.injEq, Addr.mk.injEq, and_true] at e
    omega)
  have hpw := wdt_pow ((size + 1 : Nat) : Int) (by omega)
  have hmo := fun (P : Option Addr) (pc : Nat) (a : Option Addr) (cw : Nat) (u : World) (h : NumsAt .i64 u P (turnL l)) (hW : WX u (wavL l) (wdt ((size + 1 : Nat) : Int)) a) =>
    made_ok hmd P (n + 1) pc l size (n + 1) ((size + 1 : Nat) : Int) a (wdt ((size + 1 : Nat) : Int)) cw u h (by omega) (by omega) hsy hs2 (by omega) (by omega) hpw hW
  obtain ⟨m, hm⟩ : ∃ m, n + 1 = m := ⟨_, rfl⟩
  obtain ⟨Z, hZ⟩ : ∃ Z : Int, ((size + 1 : Nat) : Int) = Z := ⟨_, rfl⟩
  rw [hm] at htl
  simp only [hm, hZ] at hmv hwn hmo
  obtain ⟨W, hW⟩ : ∃ W, wdt Z = W := ⟨_, rfl⟩
  simp only [hW] at hwn hmo
  have q1 : IntKind.i64.wrap ((size : Int) + 1) = Z := by rw [← hZ, Int.natCast_add]; exact IntWalk.i64_in _ (by omega)
  have HX := Lib.hid (And.intro hsm (And.intro hfs (And.intro htn (And.intro hmv (And.intro hwn (And.intro hmo htl))))))
  have H1 := Lib.hid (And.intro b1 (And.intro th1 (And.intro ty1 hsz1)))
  clear hsm hfs htn hmv hwn hmo htl hyy hpw h64 hnn hA hl hn hs1 hs2 hsy b1 th1 ty1 hm hZ hW hsz1
  go_enter Tryz.func32, Tryz.ntmps32
  go_upto_region 1 with fail
  rw [← hw1]
  clear hw1
  obtain ⟨r, hr⟩ : ∃ r, w.heap.size = r := ⟨_, rfl⟩
  rw [hr] at H1
  simp only [hr]
  have HR := Lib.hid hr
  clear hr
  go_wp2_with fail
  (with_reducible refine (HX.out.2.1 _).mono ?_)
  rintro e u ⟨rfl, rfl⟩
  go_wp2_with fail
  (with_reducible refine HX.out.1.mono ?_)
  rintro e u ⟨rfl, rfl⟩
  go_wp2_with fail
  (with_reducible refine HX.out.2.2.1.mono ?_)
  rintro e u2 ⟨v, rfl, hI⟩
  obtain ⟨P, pc, rfl, hP, -, -, -, -⟩ := nums_of_own hI.1
  rw [HX.out.2.2.2.2.2.2]
  have H2 := Lib.hid (And.intro hP (And.intro (HX.out.2.2.2.1 P pc u2 hP) hI.2))
  clear hP hI
  go_wp2_with fail
  (with_reducible refine H2.out.2.1.mono ?_)
  rintro e u3 ⟨D, rfl, hD, -, b3⟩
  have hDl : D < u3.heap.size := by
    obtain ⟨b', o', e', hlt, -⟩ := num_at hD (i := 0) (by rw [List.length_map, turnL_len]; omega)
    simp only [Option.some.injEq, Addr.mk.injEq, and_true] at e'
    omega
  have H3 := Lib.hid (And.intro (HX.out.2.2.2.2.1 D u3 hD hDl) (And.intro (H2.out.1.kept b3) (H2.out.2.2.trans (b3.mono H2.out.2.2.size))))
  clear hD b3 hDl H2
  go_wp2_with fail
  (with_reducible refine H3.out.1.mono ?_)
  rintro e u4 ⟨a, cw, rfl, hW, hfr, b4⟩
  have hb4 := H3.out.2.2.trans (b4.mono H3.out.2.2.size)
  have hP4 := H3.out.2.1.kept b4
  go_upto_region 5 with fail
  have b5 := al u4 (.cells #[.int .i64 (m : Int), .int .i64 Z, .slice a W cw] 28)
  have hx5 := WBx.new u4 (m : Int) Z (.slice a W cw)
  obtain ⟨u5, hu5⟩ : ∃ u5, u4.alloc (.cells #[.int .i64 (m : Int), .int .i64 Z, .slice a W cw] 28) = u5 := ⟨_, rfl⟩
  rw [hu5] at b5 hx5
  rw [hu5]
  clear hu5
  obtain ⟨x0, x1, x2⟩ := hx5
  have hb5 := hb4.trans (b5.mono hb4.size)
  have hs3 := H3.out.2.2.size
  have hr0 := H1.out.2.2.2
  have hfr2 : ∀ p, a = some p → r < p.block := fun p e => by have := hfr p e; omega
  have H5 := Lib.hid (And.intro (HX.out.2.2.2.2.2.1 P pc a cw u5 (hP4.kept b5) (hW.kept b5)) (And.intro hb5 hfr2))
  clear hW hfr b4 hb4 hP4 b5 hb5 hfr2 hs3 H3
  go_wp2_with fail
  (with_reducible refine H5.out.1.mono ?_)
  clear x0 x1 x2
  rintro e u6 ⟨F, rfl, hF, hFa, hFW, b6⟩
  have hb6 := H5.out.2.1.trans (b6.mono H5.out.2.1.size)
  have hth := there_kp H1.out.2.1 H1.out.2.2.1.lt (Below.kp hb6) (fun h => h)
  have HT := Lib.hid hth
  have H6 := Lib.hid (And.intro hF (And.intro hFa (And.intro (H1.out.2.2.1.kept hb6) (H1.out.1.trans (hb6.mono (Nat.le_of_lt H1.out.2.2.1.lt))))))
  clear hF hFa hFW b6 hb6 hth hr0
  go_wp2_with (refine store36 F r _ _ (by with_reducible rfl) rfl rfl rfl HT.out ?_)
  have hst := MBx.stored F HT.out
  obtain ⟨hF, hFa, hty, hbw⟩ := H6.out
  have hk := setCells_kp r [.int .i64 (F.N : Int), .int .i64 F.Z, .slice F.wa F.wW F.wc, .int .i64 (F.R.n : Int), .slice F.R.a F.R.m F.R.c, .int .i64 (F.R.cn : Int), .int .i64 (F.R.cW : Int), .int .i64 (F.R.cL : Int), .slice F.R.a2 F.R.m2 F.R.c2, .int .i64 (F.S.n : Int), .int .i64 (F.S.W : Int), .int .i64 (F.S.L : Int), .slice F.S.a F.S.m F.S.c, .int .i64 (F.P.n : Int), .int .i64 (F.P.W : Int), .int .i64 (F.P.L : Int), .slice F.P.a F.P.m F.P.c] 0 u6
  have hF7 := hF.typs hk (fun b e => ⟨37, by decide, by rw [e]; exact hty⟩) (fun _ p e ek => by have := H5.out.2.2 p (by rw [← hFa]; exact e); omega)
  have hb8 : Below w.heap.size w (u6.setCells r 0 [.int .i64 (F.N : Int), .int .i64 F.Z, .slice F.wa F.wW F.wc, .int .i64 (F.R.n : Int), .slice F.R.a F.R.m F.R.c, .int .i64 (F.R.cn : Int), .int .i64 (F.R.cW : Int), .int .i64 (F.R.cL : Int), .slice F.R.a2 F.R.m2 F.R.c2, .int .i64 (F.S.n : Int), .int .i64 (F.S.W : Int), .int .i64 (F.S.L : Int), .slice F.S.a F.S.m F.S.c, .int .i64 (F.P.n : Int), .int .i64 (F.P.W : Int), .int .i64 (F.P.L : Int), .slice F.P.a F.P.m F.P.c]) := by rw [HR.out]; exact Below.setCells' (Nat.le_refl _) _ 0 hbw
  generalize u6.setCells r 0 [.int .i64 (F.N : Int), .int .i64 F.Z, .slice F.wa F.wW F.wc, .int .i64 (F.R.n : Int), .slice F.R.a F.R.m F.R.c, .int .i64 (F.R.cn : Int), .int .i64 (F.R.cW : Int), .int .i64 (F.R.cL : Int), .slice F.R.a2 F.R.m2 F.R.c2, .int .i64 (F.S.n : Int), .int .i64 (F.S.W : Int), .int .i64 (F.S.L : Int), .slice F.S.a F.S.m F.S.c, .int .i64 (F.P.n : Int), .int .i64 (F.P.W : Int), .int .i64 (F.P.L : Int), .slice F.P.a F.P.m F.P.c] = u8 at *
  refine bodyPost_ret (v := .tuple #[.agg #[.int .i64 (F.N : Int), .int .i64 F.Z, .slice F.wa F.wW F.wc, .int .i64 (F.R.n : Int), .slice F.R.a F.R.m F.R.c, .int .i64 (F.R.cn : Int), .int .i64 (F.R.cW : Int), .int .i64 (F.R.cL : Int), .slice F.R.a2 F.R.m2 F.R.c2, .int .i64 (F.S.n : Int), .int .i64 (F.S.W : Int), .int .i64 (F.S.L : Int), .slice F.S.a F.S.m F.S.c, .int .i64 (F.P.n : Int), .int .i64 (F.P.W : Int), .int .i64 (F.P.L : Int), .slice F.P.a F.P.m F.P.c], .int .i64 0]) (results_fm2 (b := r) (F := F) Tryz.results32 _ ?hp ?hq hst) ?hd ?_
  case hp => rfl
  case hq => rfl
  case hd => rfl
  exact ⟨F, rfl, hF7, hb8, fun p e => by rw [HR.out]; exact H5.out.2.2 p (by rw [← hFa]; exact e)⟩

end Go.Proofs.YtpnjccomngdblaaGreat
