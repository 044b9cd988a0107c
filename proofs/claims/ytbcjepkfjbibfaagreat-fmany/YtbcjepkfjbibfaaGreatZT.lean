/- The calls on a boxed one; the chapter's examples: the contract of awake. -/
import Derived.Test.YtbcjepkfjbibfaaGreatZR
import Derived.Test.YtbcjepkfjbibfaaGreatZM
import Derived.Test.YtbcjepkfjbibfaaGreatZP
set_option maxRecDepth 100000
namespace Go.Proofs.YtbcjepkfjbibfaaGreat
open Go.RowKit
open M
attribute [local go_sem ↓] Go.wp_at_zero Go.wp_at_succ

variable {w u : World} {b : Nat} {F : FQ} {l : List Int} {size : Nat}

theorem marked_said : MarkedSaid := fun A n c l w h1 h2 h3 h4 h5 => marked_any A n c l w h1 h2 h3 h4 h5
theorem find_mx (h : MX w b F l size u) (A : Option Addr) (np cp : Nat) (p : List Int) (hP : NumsAt .i64 u A p) (hp : p.length = np) (hnp : np ≤ 1000000) :
    Calls Tryz.prog 31 #[.agg #[.int .i64 (F.N : Int), .int .i64 F.Z, .slice F.wa F.wW F.wc, .int .i64 (F.R.n : Int), .slice F.R.a F.R.m F.R.c, .int .i64 (F.R.cn : Int), .int .i64 (F.R.cW : Int), .int .i64 (F.R.cL : Int), .slice F.R.a2 F.R.m2 F.R.c2, .int .i64 (F.S.n : Int), .int .i64 (F.S.W : Int), .int .i64 (F.S.L : Int), .slice F.S.a F.S.m F.S.c, .int .i64 (F.P.n : Int), .int .i64 (F.P.W : Int), .int .i64 (F.P.L : Int), .slice F.P.a F.P.m F.P.c], .slice A np cp] u fun e u' => ∃ B c, e = .returned (.slice B (fndL l p).length c) ∧ NumsAt .i64 u' B (fndL l p) ∧ Below u.heap.size u u' ∧ MX w b F l size u' :=
  (find_any h.fm A np cp p hP hp hnp).mono fun _ _ ⟨B, c, h1, h2, h3⟩ => ⟨B, c, h1, h2, h3, h.kept h3⟩
theorem extract_mx (h : MX w b F l size u) (i m : Int) (hm : m ≤ 9223372036854775807) (hm2 : -9223372036854775808 ≤ m) : Calls Tryz.prog 33 #[.agg #[.int .i64 (F.N : Int), .int .i64 F.Z, .slice F.wa F.wW F.wc, .int .i64 (F.R.n : Int), .slice F.R.a F.R.m F.R.c, .int .i64 (F.R.cn : Int), .int .i64 (F.R.cW : Int), .int .i64 (F.R.cL : Int), .slice F.R.a2 F.R.m2 F.R.c2, .int .i64 (F.S.n : Int), .int .i64 (F.S.W : Int), .int .i64 (F.S.L : Int), .slice F.S.a F.S.m F.S.c, .int .i64 (F.P.n : Int), .int .i64 (F.P.W : Int), .int .i64 (F.P.L : Int), .slice F.P.a F.P.m F.P.c], .int .i64 i, .int .i64 m] u fun e u' =>
    ∃ D, e = .returned (.slice (some ⟨D, 0, none⟩) (exL l i m).length (exL l i m).length) ∧ NumsAt .i64 u' (some ⟨D, 0, none⟩) (exL l i m) ∧ Below u.heap.size u u' ∧ MX w b F l size u' :=
  (extract_any h.fm i m hm hm2).mono fun _ _ ⟨D, h1, h2, h3⟩ => ⟨D, h1, h2, h3, h.kept h3⟩
theorem count_mx (h : MX w b F l size u) (A : Option Addr) (np cp : Nat) (p : List Int) (hP : NumsAt .i64 u A p) (hp : p.length = np) (hnp : np ≤ 1000000) :
    Calls Tryz.prog 35 #[.agg #[.int .i64 (F.N : Int), .int .i64 F.Z, .slice F.wa F.wW F.wc, .int .i64 (F.R.n : Int), .slice F.R.a F.R.m F.R.c, .int .i64 (F.R.cn : Int), .int .i64 (F.R.cW : Int), .int .i64 (F.R.cL : Int), .slice F.R.a2 F.R.m2 F.R.c2, .int .i64 (F.S.n : Int), .int .i64 (F.S.W : Int), .int .i64 (F.S.L : Int), .slice F.S.a F.S.m F.S.c, .int .i64 (F.P.n : Int), .int .i64 (F.P.W : Int), .int .i64 (F.P.L : Int), .slice F.P.a F.P.m F.P.c], .slice A np cp] u fun e u' => e = .returned (.int .i64 ((fndL l p).length : Nat)) ∧ Below u.heap.size u u' ∧ MX w b F l size u' :=
  (count_any h.fm A np cp p hP hp hnp).mono fun _ _ ⟨h1, h3⟩ => ⟨by rw [h1, fndL_len h.fm.i64 h.fm.nn], h3, h.kept h3⟩
theorem range_mx (h : MX w b F l size u) (A : Option Addr) (np cp : Nat) (p : List Int) (hP : NumsAt .i64 u A p) (hp : p.length = np) (hnp : np ≤ 1000000) :
    Calls Tryz.prog 29 #[.agg #[.int .i64 (F.N : Int), .int .i64 F.Z, .slice F.wa F.wW F.wc, .int .i64 (F.R.n : Int), .slice F.R.a F.R.m F.R.c, .int .i64 (F.R.cn : Int), .int .i64 (F.R.cW : Int), .int .i64 (F.R.cL : Int), .slice F.R.a2 F.R.m2 F.R.c2, .int .i64 (F.S.n : Int), .int .i64 (F.S.W : Int), .int .i64 (F.S.L : Int), .slice F.S.a F.S.m F.S.c, .int .i64 (F.P.n : Int), .int .i64 (F.P.W : Int), .int .i64 (F.P.L : Int), .slice F.P.a F.P.m F.P.c], .slice A np cp] u fun e u' => e = .returned (.tuple #[.int .i64 (frN l false p : Nat), .int .i64 (frN l true p : Nat)]) ∧ Below u.heap.size u u' ∧ MX w b F l size u' :=
  (range_any h.fm A np cp p hP hp hnp).mono fun _ _ ⟨h1, h3⟩ => ⟨h1, h3, h.kept h3⟩
theorem MX.boxed (h : FMI u F l size) (hb : Below w.heap.size w u) : MX w u.heap.size F l size (u.alloc (.cells #[.int .i64 (F.N : Int), .int .i64 F.Z, .slice F.wa F.wW F.wc, .int .i64 (F.R.n : Int), .slice F.R.a F.R.m F.R.c, .int .i64 (F.R.cn : Int), .int .i64 (F.R.cW : Int), .int .i64 (F.R.cL : Int), .slice F.R.a2 F.R.m2 F.R.c2, .int .i64 (F.S.n : Int), .int .i64 (F.S.W : Int), .int .i64 (F.S.L : Int), .slice F.S.a F.S.m F.S.c, .int .i64 (F.P.n : Int), .int .i64 (F.P.W : Int), .int .i64 (F.P.L : Int), .slice F.P.a F.P.m F.P.c] 36)) := ⟨MBx.new u F, h.kept (mbel u F), hb.alloc hb.size _⟩

def A6 : List Int := [2, 1, 3, 1, 3, 1]
theorem a6_sy : ∀ x ∈ A6, 0 ≤ x ∧ x < ((4 : Nat) : Int) := by decide
theorem a6_find : fndL A6 [1, 3] = [1, 3] := by decide
theorem a6_ext : exL A6 1 3 = [1, 3, 1] := by decide

set_option maxHeartbeats 4000000 in
theorem awake_any (w : World) : Calls Tryz.prog 9 #[] w fun e w' => e = .returned (.bool true) ∧ Below w.heap.size w w' := by
  obtain ⟨w1, hw1⟩ : ∃ w1, w1 = w.alloc (.cells #[.int .i64 2, .int .i64 1, .int .i64 3, .int .i64 1, .int .i64 3, .int .i64 1] 3) := ⟨_, rfl⟩
  have h1 : NumsAt .i64 w1 (some ⟨w.heap.size, 0, none⟩) A6 := by rw [hw1]; exact nums_block w A6
  have hb1 : Below w.heap.size w w1 := by rw [hw1]; exact al w _
  have hnw := fnew_any marked_said (some ⟨w.heap.size, 0, none⟩) 6 6 A6 4 w1 h1 rfl (by omega) (by omega) (by omega) a6_sy
  rw [show ((4 : Nat) : Int) = 4 from rfl] at hnw
  rw [hw1] at hnw hb1
  have HX := Lib.hid (And.intro hnw hb1)
  clear hnw hb1 h1 hw1
  go_enter Tryz.func9, Tryz.ntmps9
  go_wp2_with fail
  (with_reducible refine HX.out.1.mono ?_)
  rintro e u1 ⟨F, rfl, hF, hb⟩
  have hb2 := HX.out.2.trans (hb.mono HX.out.2.size)
  have hm := MX.boxed hF hb2
  go_upto_region 2 with fail
  obtain ⟨u2, hu2⟩ : ∃ u2, u1.alloc (.cells #[.int .i64 (F.N : Int), .int .i64 F.Z, .slice F.wa F.wW F.wc, .int .i64 (F.R.n : Int), .slice F.R.a F.R.m F.R.c, .int .i64 (F.R.cn : Int), .int .i64 (F.R.cW : Int), .int .i64 (F.R.cL : Int), .slice F.R.a2 F.R.m2 F.R.c2, .int .i64 (F.S.n : Int), .int .i64 (F.S.W : Int), .int .i64 (F.S.L : Int), .slice F.S.a F.S.m F.S.c, .int .i64 (F.P.n : Int), .int .i64 (F.P.W : Int), .int .i64 (F.P.L : Int), .slice F.P.a F.P.m F.P.c] 36) = u2 := ⟨_, rfl⟩
  rw [hu2] at hm
  rw [hu2]
  obtain ⟨bx, hbx⟩ : ∃ bx, u1.heap.size = bx := ⟨_, rfl⟩
  rw [hbx] at hm
  simp only [hbx]
  have HM := Lib.hid hm
  clear hF hb hb2 hm hu2 hbx
  go_wp2_with (refine load36 HM.out.box _ (by with_reducible rfl) rfl rfl ?_)
  have b1 := al u2 (.cells #[.int .i64 1, .int .i64 3] 3)
  have n1 : NumsAt .i64 (u2.alloc (.cells #[.int .i64 1, .int .i64 3] 3)) (some ⟨u2.heap.size, 0, none⟩) [1, 3] := nums_block u2 [1, 3]
  (with_reducible refine (find_mx (HM.out.kept b1) _ 2 2 [1, 3] n1 rfl (by omega)).mono ?_)
  rintro e u3 ⟨B, c, rfl, hB, -, hm⟩
  rw [a6_find] at hB ⊢
  have b2 := al u3 (.cells #[.int .i64 1, .int .i64 3] 3)
  have hs := rsame_any B (some ⟨u3.heap.size, 0, none⟩) 2 2 c 2 [1, 3] [1, 3] (u3.alloc (.cells #[.int .i64 1, .int .i64 3] 3)) (hB.kept b2) (nums_block u3 [1, 3]) rfl rfl (by omega)
  rw [decide_eq_true rfl] at hs
  have H3 := Lib.hid (And.intro hs (hm.kept b2))
  clear b1 n1 hB b2 hs hm
  have hln : ([1, 3] : List Int).length = 2 := rfl
  rw [hln]
  clear hln
  go_wp2_with fail
  (with_reducible refine H3.out.1.mono ?_)
  rintro e u4 ⟨rfl, hb⟩
  have H4 := Lib.hid (H3.out.2.kept hb)
  clear hb
  go_wp2_with (refine load36 H4.out.box _ (by with_reducible rfl) rfl rfl ?_)
  (with_reducible refine (extract_mx H4.out 1 3 (by omega) (by omega)).mono ?_)
  rintro e u5 ⟨D, rfl, hD, -, hm⟩
  rw [a6_ext] at hD ⊢
  have b2 := al u5 (.cells #[.int .i64 1, .int .i64 3, .int .i64 1] 3)
  have hs := rsame_any (some ⟨D, 0, none⟩) (some ⟨u5.heap.size, 0, none⟩) 3 3 3 3 [1, 3, 1] [1, 3, 1] (u5.alloc (.cells #[.int .i64 1, .int .i64 3, .int .i64 1] 3)) (hD.kept b2) (nums_block u5 [1, 3, 1]) rfl rfl (by omega)
  rw [decide_eq_true rfl] at hs
  have H5 := Lib.hid (And.intro hs (hm.kept b2))
  clear hD b2 hs hm
  have hln : ([1, 3, 1] : List Int).length = 3 := rfl
  rw [hln]
  clear hln
  go_wp2_with fail
  (with_reducible refine H5.out.1.mono ?_)
  rintro e u6 ⟨rfl, hb⟩
  have H6 := Lib.hid (H5.out.2.kept hb)
  clear hb
  go_wp2_with (refine load36 H6.out.box _ (by with_reducible rfl) rfl rfl ?_)
  have b1 := al u6 (.cells #[.int .i64 1, .int .i64 3] 3)
  have n1 : NumsAt .i64 (u6.alloc (.cells #[.int .i64 1, .int .i64 3] 3)) (some ⟨u6.heap.size, 0, none⟩) [1, 3] := nums_block u6 [1, 3]
  (with_reducible refine (count_mx (H6.out.kept b1) _ 2 2 [1, 3] n1 rfl (by omega)).mono ?_)
  rintro e u7 ⟨rfl, -, hm⟩
  rw [a6_find]
  have hln : ([1, 3] : List Int).length = 2 := rfl
  rw [hln]
  clear hln b1 n1
  have H7 := Lib.hid hm.bel
  clear hm
  go_wp2
  go_ret
  exact ⟨rfl, H7.out⟩

end Go.Proofs.YtbcjepkfjbibfaaGreat
