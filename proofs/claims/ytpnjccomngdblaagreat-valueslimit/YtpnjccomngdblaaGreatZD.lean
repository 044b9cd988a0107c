/- The contracts of Range and Count. -/
import Derived.Test.YtpnjccomngdblaaGreatZC
set_option maxRecDepth 100000
namespace Go.Proofs.YtpnjccomngdblaaGreat
open Go.RowKit
open M
attribute [local go_sem ↓] Go.wp_at_zero Go.wp_at_succ

variable {w u : World} {b : Nat} {F : FQ} {l : List Int} {size : Nat}

theorem flen_mx (h : MX w b F l size u) : Calls Tryz.prog 36 #[.agg #[.int .i64 (F.N : Int), .int .i64 F.Z, .slice F.wa F.wW F.wc, .int .i64 (F.R.n : Int), .slice F.R.a F.R.m F.R.c, .int .i64 (F.R.cn : Int), .int .i64 (F.R.cW : Int), .int .i64 (F.R.cL : Int), .slice F.R.a2 F.R.m2 F.R.c2, .int .i64 (F.S.n : Int), .int .i64 (F.S.W : Int), .int .i64 (F.S.L : Int), .slice F.S.a F.S.m F.S.c, .int .i64 (F.P.n : Int), .int .i64 (F.P.W : Int), .int .i64 (F.P.L : Int), .slice F.P.a F.P.m F.P.c]] u fun e u' => e = .returned (.int .i64 (l.length : Int)) ∧ MX w b F l size u' := (flen_any h.fm).mono fun _ _ hh => ⟨hh.1, h.kept hh.2⟩
theorem fsize_mx (h : MX w b F l size u) : Calls Tryz.prog 24 #[.agg #[.int .i64 (F.N : Int), .int .i64 F.Z, .slice F.wa F.wW F.wc, .int .i64 (F.R.n : Int), .slice F.R.a F.R.m F.R.c, .int .i64 (F.R.cn : Int), .int .i64 (F.R.cW : Int), .int .i64 (F.R.cL : Int), .slice F.R.a2 F.R.m2 F.R.c2, .int .i64 (F.S.n : Int), .int .i64 (F.S.W : Int), .int .i64 (F.S.L : Int), .slice F.S.a F.S.m F.S.c, .int .i64 (F.P.n : Int), .int .i64 (F.P.W : Int), .int .i64 (F.P.L : Int), .slice F.P.a F.P.m F.P.c]] u fun e u' => e = .returned (.int .i64 (size : Int)) ∧ MX w b F l size u' := (fsize_any h.fm).mono fun _ _ hh => ⟨hh.1, h.kept hh.2⟩

set_option maxHeartbeats 4000000 in
theorem range_any (h : FMI u F l size) (A : Option Addr) (np cp : Nat) (p : List Int) (hP : NumsAt .i64 u A p) (hp : p.length = np) (hnp : np ≤ 1000000) :
    Calls Tryz.prog 63 #[.agg #[.int .i64 (F.N : Int), .int .i64 F.Z, .slice F.wa F.wW F.wc, .int .i64 (F.R.n : Int), .slice F.R.a F.R.m F.R.c, .int .i64 (F.R.cn : Int), .int .i64 (F.R.cW : Int), .int .i64 (F.R.cL : Int), .slice F.R.a2 F.R.m2 F.R.c2, .int .i64 (F.S.n : Int), .int .i64 (F.S.W : Int), .int .i64 (F.S.L : Int), .slice F.S.a F.S.m F.S.c, .int .i64 (F.P.n : Int), .int .i64 (F.P.W : Int), .int .i64 (F.P.L : Int), .slice F.P.a F.P.m F.P.c], .slice A np cp] u fun e u' => e = .returned (.tuple #[.int .i64 (frN l false p : Nat), .int .i64 (frN l true p : Nat)]) ∧ Below u.heap.size u u' := by
  have hA := MX.new h
  have hN := h.N
  have hl := h.len
  have hf := h.few
  have hnn := h.nn
  have h64 := h.i64
  have hsy := h.sy
  have hN1 : F.N ≤ 1001 := by omega
  have HX := Lib.hid (And.intro hP (And.intro hp (And.intro hN (And.intro hnn (And.intro h64 (And.intro hsy h))))))
  have HA := Lib.hid hA
  have e0 : frN l false (p.drop np) = 0 := by rw [drop_end (by omega)]; exact frN_nil_no l
  have e1 : frN l true (p.drop np) = F.N := by rw [drop_end (by omega), hN]; exact frN_nil_yes l
  have HE := Lib.hid (And.intro e0 e1)
  obtain ⟨x0, x1, x2, -⟩ := hA.box.cells
  clear h hP hp hN hl hnn h64 hsy hA e0 e1
  have q1 : IntKind.i64.wrap ((np : Int) - 1) = (np : Int) - 1 := IntWalk.i64_in _ (by omega)
  go_enter Tryz.func63, Tryz.ntmps63
  go_wp2_with fail
  obtain ⟨w0, hw0⟩ : ∃ w0, u.alloc (.cells #[.int .i64 (F.N : Int), .int .i64 F.Z, .slice F.wa F.wW F.wc, .int .i64 (F.R.n : Int), .slice F.R.a F.R.m F.R.c, .int .i64 (F.R.cn : Int), .int .i64 (F.R.cW : Int), .int .i64 (F.R.cL : Int), .slice F.R.a2 F.R.m2 F.R.c2, .int .i64 (F.S.n : Int), .int .i64 (F.S.W : Int), .int .i64 (F.S.L : Int), .slice F.S.a F.S.m F.S.c, .int .i64 (F.P.n : Int), .int .i64 (F.P.W : Int), .int .i64 (F.P.L : Int), .slice F.P.a F.P.m F.P.c] 37) = w0 := ⟨_, rfl⟩
  obtain ⟨bx, hbx⟩ : ∃ bx, u.heap.size = bx := ⟨_, rfl⟩
  rw [hw0] at HA x0 x1 x2
  rw [hbx] at HA x0 x1 x2
  simp only [hw0, hbx]
  clear hw0
  have HBX := Lib.hid hbx
  clear hbx
  go_step3
  go_wp2_with (refine load36 HA.out.box _ rfl rfl rfl ?_)
  refine (wlen_mx HA.out).mono ?_
  clear x0 x1 x2
  rintro e u1 ⟨rfl, hA⟩
  have HA1 := Lib.hid hA
  clear hA HA
  go_wp2
  go_step3
  go_wp2
  go_loopw [4, 5, 7, 8, 9] (fun v4 v5 v7 _ _ wr => ∃ k : Nat, k ≤ np ∧ v7 = .int .i64 ((k : Int) - 1) ∧ v4 = .int .i64 (frN l false (p.drop k) : Nat) ∧ v5 = .int .i64 (frN l true (p.drop k) : Nat) ∧ MX u bx F l size wr) (fun _ _ v7 _ _ _ => (intOf v7 + 1).toNat)
  case atStart => exact ⟨np, Nat.le_refl _, rfl, by rw [HE.out.1]; rfl, by rw [HE.out.2], HA1.out⟩
  case round =>
    obtain ⟨k, hk, rfl, rfl, rfl, hA⟩ := hrel
    clear HA1
    cases k with
    | zero =>
      have HB := Lib.hid hA.bel
      clear hA
      have q2 : ¬ (0 : Int) ≤ ((0 : Nat) : Int) - 1 := by omega
      rw [List.drop_zero]
      go_wp2
      try rw [Exit.noGoto_ret]
      go_ret2
      exact ⟨rfl, HB.out⟩
    | succ k =>
      obtain ⟨bb, off, hAe, -, ck⟩ := num_at (HX.out.1.kept hA.bel) (i := k) (by rw [HX.out.2.1]; omega)
      have hdr := at_drop (l := p) (i := k) (by rw [HX.out.2.1]; omega)
      obtain ⟨c, hc⟩ : ∃ c, p.getD k 0 = c := ⟨_, rfl⟩
      rw [hc] at ck hdr
      have hmo := frN_mono l (p.drop (k + 1))
      have hle := frN_le l true (p.drop (k + 1))
      rw [← HX.out.2.2.1] at hle
      have hlf := fun (hc0 : 0 ≤ c) (b : Bool) => lf_ok HX.out.2.2.2.2.1 HX.out.2.2.2.1 b (p.drop (k + 1)) hc0
      have hlow := fun (hc0 : c < 0) (b : Bool) => fr_low HX.out.2.2.2.1 b (p.drop (k + 1)) hc0
      have hhigh := fun (hc0 : ∀ x ∈ l, x < c) (b : Bool) => fr_high b (p.drop (k + 1)) hc0
      rw [← hdr] at hlf hlow hhigh
      obtain ⟨f, hf'⟩ : ∃ f, frN l false (p.drop (k + 1)) = f := ⟨_, rfl⟩
      obtain ⟨t, ht'⟩ : ∃ t, frN l true (p.drop (k + 1)) = t := ⟨_, rfl⟩
      have hlf0 := fun hc0 => hlf hc0 false
      have hlf1 := fun hc0 => hlf hc0 true
      rw [hf'] at hmo hlf0
      rw [ht'] at hmo hle hlf1
      rw [hf', ht']
      obtain ⟨f2, hf2⟩ : ∃ f2, frN l false (p.drop k) = f2 := ⟨_, rfl⟩
      obtain ⟨t2, ht2⟩ : ∃ t2, frN l true (p.drop k) = t2 := ⟨_, rfl⟩
      have hlow0 := fun hc0 => hlow hc0 false
      have hlow1 := fun hc0 => hlow hc0 true
      have hhigh0 := fun hc0 => hhigh hc0 false
      have hhigh1 := fun hc0 => hhigh hc0 true
      rw [hf2] at hlf0 hlow0 hhigh0
      rw [ht2] at hlf1 hlow1 hhigh1
      have HK := Lib.hid (And.intro hlf0 (And.intro hlf1 (And.intro hlow0 (And.intro hlow1 (And.intro hhigh0 (And.intro hhigh1 (And.intro hf2 ht2)))))))
      have HA2 := Lib.hid hA
      obtain ⟨x0, x1, x2, -⟩ := hA.box.cells
      subst hAe
      clear hlf hlow hhigh hlf0 hlf1 hlow0 hlow1 hhigh0 hhigh1 hf' ht' hf2 ht2 hc hdr hA
      have q2 : (0 : Int) ≤ ((k + 1 : Nat) : Int) - 1 := by omega
      have q3 : ((k + 1 : Nat) : Int) - 1 = (k : Int) := by omega
      rw [q3] at q2 ⊢
      have q4 : (k : Int) < (np : Int) := by omega
      have q5 : IntKind.i64.wrap ((k : Int) - 1) = (k : Int) - 1 := IntWalk.i64_in _ (by omega)
      by_cases h1 : c < 0
      · have z1 := HK.out.2.2.1 h1
        have z2 := HK.out.2.2.2.1 h1
        have HZ := Lib.hid (And.intro z1 z2)
        clear z1 z2
        go_wp2_with (refine load36 HA2.out.box _ rfl rfl rfl ?_)
        clear x0 x1 x2
        (with_reducible refine (border_low HA2.out.fm c h1).mono ?_)
        rintro e u2 ⟨rfl, hb⟩
        have HA3 := Lib.hid (HA2.out.kept hb)
        clear hb HA2
        go_wp2
        go_roundw
        case rel => exact ⟨k, by omega, rfl, by rw [HK.out.2.2.2.2.2.2.1, HZ.out.1]; rfl, by rw [HK.out.2.2.2.2.2.2.2, HZ.out.2]; rfl, HA3.out⟩
        case measure => first | (simp [intOf]; done) | (simp [intOf]; omega)
      · go_wp2_with (refine load36 HA2.out.box _ rfl rfl rfl ?_)
        (with_reducible refine (fsize_mx HA2.out).mono ?_)
        clear x0 x1 x2
        rintro e u2 ⟨rfl, hA⟩
        have HA3 := Lib.hid hA
        obtain ⟨x0, x1, x2, -⟩ := hA.box.cells
        clear hA HA2
        by_cases h2 : (size : Int) ≤ c
        · have hx : ∀ x ∈ l, x < c := fun x hx => by have := HX.out.2.2.2.2.2.1 x hx; omega
          have z1 := HK.out.2.2.2.2.1 hx
          have z2 := HK.out.2.2.2.2.2.1 hx
          rw [← HX.out.2.2.1] at z1 z2
          have HZ := Lib.hid (And.intro z1 z2)
          clear z1 z2 hx
          go_wp2_with (refine load36 HA3.out.box _ rfl rfl rfl ?_)
          clear x0 x1 x2
          (with_reducible refine (border_high HA3.out.fm c (by omega)).mono ?_)
          rintro e u2 ⟨rfl, hb⟩
          have HA4 := Lib.hid (HA3.out.kept hb)
          clear hb HA3
          go_wp2
          go_roundw
          case rel => exact ⟨k, by omega, rfl, by rw [HK.out.2.2.2.2.2.2.1, HZ.out.1], by rw [HK.out.2.2.2.2.2.2.2, HZ.out.2], HA4.out⟩
          case measure => first | (simp [intOf]; done) | (simp [intOf]; omega)
        · have z1 := HK.out.1 (by omega)
          have z2 := HK.out.2.1 (by omega)
          have z3 := cnt_more HX.out.2.2.2.2.2.2 c (by omega) (by omega) f t hmo (by rw [HX.out.2.2.1] at hle ⊢; omega)
          have hle2 := lfN_le l c t
          rw [← HX.out.2.2.1] at hle2
          rw [← z1, ← z2] at z3
          rw [← z2] at hle2
          have hct := fun (w' : World) (hw : MX u bx F l size w') => cnt_mx (c + 1) (f : Int) (t : Int) hw
          have hah := fun (w' : World) (hw : MX u bx F l size w') => ahead_any hw.fm c (c + 1) rfl (by omega) (by omega) f (by omega)
          rw [← z1] at hah
          obtain ⟨g, hg⟩ : ∃ g, cntN (wavL l) F.Z (c + 1) (f : Int) (t : Int) = g := ⟨_, rfl⟩
          rw [hg] at z3 hct
          have HC := Lib.hid (And.intro hct hah)
          clear hct hah hg z1 z2
          have q6 : IntKind.i64.wrap (c + 1) = c + 1 := IntWalk.i64_in _ (by omega)
          have q7 : IntKind.i64.wrap ((f2 : Int) + (g : Int)) = (t2 : Int) := by rw [show (f2 : Int) + (g : Int) = (t2 : Int) by omega]; exact IntWalk.i64_in _ (by omega)
          clear z3 hle2
          go_wp2_with fail
          (with_reducible refine (HC.out.1 _ HA3.out).mono ?_)
          clear x0 x1 x2
          rintro e u3 ⟨rfl, hA⟩
          have HA4 := Lib.hid hA
          clear hA HA3
          go_wp2_with fail
          (with_reducible refine (HC.out.2 _ HA4.out).mono ?_)
          rintro e u4 ⟨rfl, hb⟩
          have HA5 := Lib.hid (HA4.out.kept hb)
          clear hb HA4
          go_wp2
          go_roundw
          case rel => exact ⟨k, by omega, rfl, by rw [HK.out.2.2.2.2.2.2.1], by rw [HK.out.2.2.2.2.2.2.2], HA5.out⟩
          case measure => first | (simp [intOf]; done) | (simp [intOf]; omega)

end Go.Proofs.YtpnjccomngdblaaGreat
