/- The walk of ValuesFind. -/
import Derived.Test.YtpnjccomngdblaaGreatVW
set_option maxRecDepth 100000
namespace Go.Proofs.YtpnjccomngdblaaGreat
open Go.RowKit
open M
attribute [local go_sem ↓] Go.wp_at_zero Go.wp_at_succ

variable {w u w' : World} {b c : Nat} {F : FQ} {E : Option Addr} {ss : List ByteArray}
set_option linter.unusedSimpArgs false in
set_option maxHeartbeats 8000000 in
theorem find_walk (A : Option Addr) (n0 c0 : Nat) (xs : List ByteArray) (p0 : ByteArray) (w : World) (hA : StrsAt w A xs) (hx : xs.length = n0) :
    Calls Tryz.prog 4 #[.slice A n0 c0, .string p0] w fun e w' => e = .returned (.bool true) ∧ Below w.heap.size w w' := by
  have hs8 : (shV p0 8).size ≤ 8 := by rw [shV_size]; omega
  have hsh := fun (u : World) => short8 p0 u
  obtain ⟨p, hp⟩ : ∃ p, shV p0 8 = p := ⟨_, rfl⟩
  rw [hp] at hs8
  simp only [hp] at hsh
  have HX := Lib.hid (And.intro hA (And.intro hx (And.intro hs8 hsh)))
  clear hA hx hs8 hsh hp
  go_enter Tryz.func4, Tryz.ntmps4
  go_wp2_with fail
  (with_reducible refine (awake_v _).mono ?_)
  rintro e u1 ⟨rfl, hb1⟩
  have HF := Lib.hid (And.intro (few_all A n0 c0 xs u1 (HX.out.1.kept hb1) HX.out.2.1) hb1)
  clear hb1
  go_wp2_with fail
  (with_reducible refine HF.out.1.mono ?_)
  rintro e u2 ⟨B, m, cp, ss, rfl, hm, hm10, hB, hsz, hbg, hno, hb2⟩
  have hb := HF.out.2.trans (hb2.mono HF.out.2.size)
  have HG := Lib.hid (And.intro (vnew_ok B m cp ss u2 hB hm (by omega)) (And.intro hB (And.intro hm (And.intro hsz (And.intro hbg (And.intro hm10 hb))))))
  clear hm hm10 hB hsz hbg hno hb2 hb HF
  go_wp2_with fail
  (with_reducible refine (HX.out.2.2.2 _).mono ?_)
  rintro e u3 ⟨rfl, rfl⟩
  go_wp2_with fail
  (with_reducible refine HG.out.1.mono ?_)
  rintro e u4 ⟨F, E, c, rfl, hV, hb4⟩
  have hb5 := HG.out.2.2.2.2.2.2.trans (hb4.mono HG.out.2.2.2.2.2.2.size)
  have HL := Lib.hid (LQV.stored (c := c) hV (HG.out.2.1.kept hb4) hb5)
  clear hV hb4 hb5
  go_upto_region 5 with (refine store40 (op := ⟨none, .store 40 (.tmp 7) (.tmp 19), _, _, _, _⟩) F E ss.length c u4.heap.size (.tmp 7) (.tmp 19) rfl rfl rfl rfl (there18 u4) ?_)
  generalize (u4.alloc (.cells #[.int .i64 0, .int .i64 0, .slice none 0 0, .int .i64 0, .slice none 0 0, .int .i64 0, .int .i64 0, .int .i64 0, .slice none 0 0, .int .i64 0, .int .i64 0, .int .i64 0, .slice none 0 0, .int .i64 0, .int .i64 0, .int .i64 0, .slice none 0 0, .slice none 0 0] 40)).setCells u4.heap.size 0 [.int .i64 (F.N : Int), .int .i64 F.Z, .slice F.wa F.wW F.wc, .int .i64 (F.R.n : Int), .slice F.R.a F.R.m F.R.c, .int .i64 (F.R.cn : Int), .int .i64 (F.R.cW : Int), .int .i64 (F.R.cL : Int), .slice F.R.a2 F.R.m2 F.R.c2, .int .i64 (F.S.n : Int), .int .i64 (F.S.W : Int), .int .i64 (F.S.L : Int), .slice F.S.a F.S.m F.S.c, .int .i64 (F.P.n : Int), .int .i64 (F.P.W : Int), .int .i64 (F.P.L : Int), .slice F.P.a F.P.m F.P.c, .slice E ss.length c] = u5 at *
  have hil : (idsV ss p).length ≤ 1000000 := by have := idN_le ss p ss.length; have := HG.out.2.2.1; have := HG.out.2.2.2.2.2.1; show (idN ss p ss.length).length ≤ _; omega
  have hel : (eqV ss p).length ≤ 1000000 := by have := eqNV_le ss p ss.length; have := HG.out.2.2.1; have := HG.out.2.2.2.2.2.1; show (eqN' ss p ss.length).length ≤ _; omega
  have hpx : p.size ≤ 100000 := by have := HX.out.2.2.1; omega
  have hbx : bg ss m ≤ 100000 := by have := HG.out.2.2.2.2.1; omega
  obtain ⟨N, hN⟩ : ∃ N, cnV ss p m = N := ⟨_, rfl⟩
  have hcn : cnV ss p ss.length = N := by rw [HG.out.2.2.1]; exact hN
  have hids := fun (u : World) (hu : LQV w u4.heap.size F E c B ss u) => hu.vx.ids p hpx
  have heqs := fun (u : World) (hu : LQV w u4.heap.size F E c B ss u) => hu.vx.equal p hpx
  have hcns := fun (u : World) (hu : LQV w u4.heap.size F E c B ss u) => hu.vx.count p (by omega)
  have hri := fun (u : World) (hu : LQV w u4.heap.size F E c B ss u) => rids_any B m cp ss p u hu.st HG.out.2.2.1 hbx hpx
  have hre := fun (u : World) (hu : LQV w u4.heap.size F E c B ss u) => requal_any B m cp ss p u hu.st HG.out.2.2.1 (by have := HG.out.2.2.2.2.2.1; omega)
  have hrc := fun (u : World) (hu : LQV w u4.heap.size F E c B ss u) => rcount_any B m cp ss p u hu.st HG.out.2.2.1 hbx hpx
  simp only [hN, hcn] at hcns hrc
  obtain ⟨I, hI⟩ : ∃ I, idsV ss p = I := ⟨_, rfl⟩
  obtain ⟨Q, hQ⟩ : ∃ Q, eqV ss p = Q := ⟨_, rfl⟩
  simp only [hI] at hids hri hil
  simp only [hQ] at heqs hre hel
  obtain ⟨bx, hbx2⟩ : ∃ bx, u4.heap.size = bx := ⟨_, rfl⟩
  rw [hbx2] at HL
  simp only [hbx2] at hids heqs hcns hri hre hrc ⊢
  have HC := Lib.hid (And.intro hids (And.intro hri (And.intro heqs (And.intro hre (And.intro hcns hrc)))))
  have HB := Lib.hid (And.intro hil hel)
  clear hids heqs hcns hri hre hrc hN hcn hI hQ hbx2 hbx hpx hil hel
  go_upto_region 6 with (first | (refine load40 HL.out.vx _ (by with_reducible rfl) rfl rfl ?_) | (go_at_call 26; (with_reducible refine (HC.out.1 _ HL.out).mono ?_); rintro e u6 ⟨A6, c6, rfl, hN6, hb6, -⟩; have H6 := Lib.hid (And.intro (HL.out.kept hb6) hN6); clear hN6 hb6 HL) | (go_at_call 27; (with_reducible refine (HC.out.2.1 _ H6.out.1).mono ?_); rintro e u7 ⟨v7, rfl, hI7⟩; obtain ⟨A7, c7, rfl, hN7, -, -, -, -⟩ := nums_of_own hI7.1; have H7 := Lib.hid (And.intro (H6.out.1.kept hI7.2) (And.intro (H6.out.2.kept hI7.2) hN7)); clear hI7 hN7 H6) | (go_at_call 18; (with_reducible refine (rsame_any A6 A7 I.length I.length c6 c7 I I _ H7.out.2.1 H7.out.2.2 rfl rfl (by have := HB.out.1; omega)).mono ?_); rintro e u8 ⟨rfl, hb8⟩; have H8 := Lib.hid (H7.out.1.kept hb8); clear hb8 H7))
  go_upto_region 7 with (first | (refine load40 H8.out.vx _ (by with_reducible rfl) rfl rfl ?_) | (go_at_call 28; (with_reducible refine (HC.out.2.2.1 _ H8.out).mono ?_); rintro e u9 ⟨A9, c9, rfl, hN9, hb9, -⟩; have H9 := Lib.hid (And.intro (H8.out.kept hb9) hN9); clear hN9 hb9 H8) | (go_at_call 29; (with_reducible refine (HC.out.2.2.2.1 _ H9.out.1).mono ?_); rintro e u10 ⟨v10, rfl, hI10⟩; obtain ⟨A10, c10, rfl, hN10, -, -, -, -⟩ := nums_of_own hI10.1; have H10 := Lib.hid (And.intro (H9.out.1.kept hI10.2) (And.intro (H9.out.2.kept hI10.2) hN10)); clear hI10 hN10 H9) | (go_at_call 18; (with_reducible refine (rsame_any A9 A10 Q.length Q.length c9 c10 Q Q _ H10.out.2.1 H10.out.2.2 rfl rfl (by have := HB.out.2; omega)).mono ?_); rintro e u11 ⟨rfl, hb11⟩; have H11 := Lib.hid (H10.out.1.kept hb11); clear hb11 H10))
  have q1 : ((N : Int) == (N : Int)) = true := by simp
  go_wp2_with (first | (refine load40 H11.out.vx _ (by with_reducible rfl) rfl rfl ?_) | (go_at_call 30; (with_reducible refine (HC.out.2.2.2.2.1 _ H11.out).mono ?_); rintro e u12 ⟨rfl, hb12, -⟩; have H12 := Lib.hid (H11.out.kept hb12); clear hb12 H11) | (go_at_call 31; (with_reducible refine (HC.out.2.2.2.2.2 _ H12.out).mono ?_); rintro e u13 ⟨rfl, rfl⟩))
  go_ret
  exact ⟨rfl, H12.out.vx.bel⟩

end Go.Proofs.YtpnjccomngdblaaGreat
