/- The contracts of Get and At. -/
import Derived.Test.YtpnjccomngdblaaGreatWL
import Derived.Deep.CutRange
import Derived.Deep.CutBlock
set_option maxRecDepth 100000
namespace Go.Proofs.YtpnjccomngdblaaGreat
open Go.RowKit
open M
attribute [local go_sem ↓] Go.wp_at_zero Go.wp_at_succ

theorem one_b2i (l : List Bool) (i : Nat) (h : i < l.length) : oneI l (i : Int) = b2i (l.getD i false) := by
  unfold oneI b2i getB
  simp [h]
theorem or_bit (p : Nat) (d : Bool) (h : p ≤ 1099511627776) : bits .or .i64 ((p : Int) * 2) (b2i d) = ((2 * p + bN d : Nat) : Int) := by
  have hb : bN d < 2 := by cases d <;> simp [bN]
  rw [bN_b2i]
  have h1 : (BitVec.ofInt 64 ((p : Int) * 2)).toNat = 2 * p := by rw [BitVec.toNat_ofInt]; omega
  have h2 : (BitVec.ofInt 64 ((bN d : Nat) : Int)).toNat = bN d := by rw [BitVec.toNat_ofInt]; omega
  have key : (BitVec.ofInt 64 ((p : Int) * 2) ||| BitVec.ofInt 64 ((bN d : Nat) : Int)).toNat = 2 * p + bN d := by
    rw [BitVec.toNat_or, h1, h2]
    exact (Nat.two_pow_add_eq_or_of_lt (i := 1) hb p).symm
  show IntKind.i64.wrap ((BitVec.ofInt 64 ((p : Int) * 2) ||| BitVec.ofInt 64 ((bN d : Nat) : Int)).toNat : Nat) = _
  rw [key]
  exact IntWalk.i64_in _ (by omega)

theorem rone_b {w u : World} {R : RP} {row : List Bool} (i : Nat) (d : Bool) (h : RK w R row) (hu : Below w.heap.size w u) (hi : i < row.length) (hd : row.getD i false = d) :
    Calls Tryz.prog 84 #[.agg #[.int .i64 (R.n : Int), .slice R.a R.m R.c, .int .i64 (R.cn : Int), .int .i64 (R.cW : Int), .int .i64 (R.cL : Int), .slice R.a2 R.m2 R.c2], .int .i64 (i : Int)] u fun e u' => e = .returned (.int .i64 (b2i d)) ∧ Below w.heap.size w u' ∧ Below u.heap.size u u' :=
  (rone_any R row i u (h.kept hu)).mono fun _ _ hh => ⟨by rw [hh.1, one_b2i row i hi, hd], hu.trans (hh.2.mono hu.size), hh.2⟩

set_option maxHeartbeats 4000000 in
theorem wget_any (l : List Int) (W : Nat) (a : Option Addr) (cap : Nat) (size : Int) (j : Nat) (w : World) (h : WX w l W a) (hj : j < l.length) :
    Calls Tryz.prog 62 #[.agg #[.int .i64 (l.length : Int), .int .i64 size, .slice a W cap], .int .i64 (j : Int)] w fun e w' => e = .returned (.tuple #[.int .i64 (l.getD j 0), .int .i64 0]) ∧ Below w.heap.size w w' := by
  have hB := wbel w (.int .i64 (l.length : Int)) (.int .i64 size) (.slice a W cap)
  have hX := WBx.new w (l.length : Int) size (.slice a W cap)
  have hW := h.kept hB
  have hsm := h.small
  have hwi := h.wide
  have hxm : l.getD j 0 ∈ l := by simp [List.getD_eq_getElem?_getD, hj]
  obtain ⟨hx0, hx1⟩ := h.sy _ hxm
  obtain ⟨c, hcx⟩ : ∃ c : Nat, l.getD j 0 = (c : Int) := ⟨(l.getD j 0).toNat, by omega⟩
  have hc : c < 2 ^ W := by
    rw [hcx] at hx1
    have e : ((2 ^ W : Nat) : Int) = 2 ^ W := by simp
    omega
  have HS := Lib.hid h.sy
  have HC := Lib.hid hc
  have HCX := Lib.hid (And.intro hcx hj)
  rw [hcx]
  obtain ⟨n, hn⟩ : ∃ n, l.length = n := ⟨_, rfl⟩
  rw [hn] at hB hX hsm hj ⊢
  have hlt := hX.lt
  have HH := Lib.hid (And.intro hn (And.intro hB (And.intro hX hW)))
  have q0 : ¬ (j : Int) < 0 := by omega
  have q00 : (j : Int) < (n : Int) := by omega
  clear h hc hB hW hn hX hx0 hx1 hxm hcx
  obtain ⟨x0, x1, x2⟩ := HH.out.2.2.1
  go_enter Tryz.func62, Tryz.ntmps62
  go_wp2
  clear x0 x1 x2
  go_quiet (fail)
  go_wp2
  have hB1 := below_drewN HH.out.2.1 nq
  have hD := below_drewN (Below.refl (w.alloc (.cells #[.int .i64 (n : Int), .int .i64 size, .slice a W cap] 28)).heap.size (w.alloc (.cells #[.int .i64 (n : Int), .int .i64 size, .slice a W cap] 28))) nq
  have hX1 := HH.out.2.2.1.kept hD
  have hW1 : WX ((w.alloc (.cells #[.int .i64 (n : Int), .int .i64 size, .slice a W cap] 28)).drewN nq) l W a := by
    have := HH.out.2.2.2
    rw [HH.out.1] at this
    exact this.kept hD
  have HN := Lib.hid HH.out.1
  clear hD HH
  generalize (w.alloc (.cells #[.int .i64 (n : Int), .int .i64 size, .slice a W cap] 28)).drewN nq = w1 at *
  have HH := Lib.hid (And.intro hB1 (And.intro hX1 hW1))
  clear hB1 hX1 hW1 nq hlt
  generalize hbx : w.heap.size = bx at *
  have HZ : Hid (bx ≤ w1.heap.size) := Lib.hid (by have := HH.out.1.size; omega)
  have HBX := Lib.hid hbx
  clear hbx
  go_loopw [1, 6, 7, 8, 26] (fun v1 v6 v7 v8 v26 wr => ∃ k : Nat, k ≤ W ∧ v26 = .int .i64 (k : Int) ∧ v1 = .int .i64 (posN l (W - k) (c / 2 ^ (W - k)) j : Nat) ∧ v6 = .int .i64 ((c / 2 ^ (W - k) : Nat) : Int) ∧ v7 = .int .i64 (begN l (W - k) (c / 2 ^ (W - k)) : Nat) ∧ v8 = .int .i64 (posN l (W - k) (c / 2 ^ (W - k)) n : Nat) ∧ Below w1.heap.size w1 wr) (fun _ _ _ _ v26 _ => W - (intOf v26).toNat)
  case atStart =>
    have e0 : c / 2 ^ W = 0 := Nat.div_eq_of_lt HC.out
    refine ⟨0, Nat.zero_le _, rfl, ?_, ?_, ?_, ?_, Below.refl _ _⟩
    · rw [Nat.sub_zero, e0, start_pos l W j HS.out (by rw [HN.out]; omega)]
    · rw [Nat.sub_zero, e0]; rfl
    · rw [Nat.sub_zero, e0]; simp [begN, sortI]
    · rw [Nat.sub_zero, e0, start_pos l W n HS.out (by rw [HN.out]; omega)]
  case round =>
    obtain ⟨k, hk, rfl, rfl, rfl, rfl, rfl, hbel⟩ := hrel
    by_cases hlt : k < W
    · obtain ⟨g, R, rfl, hx, hrk, hRn⟩ := HH.out.2.2.rs.at_ k hlt
      rw [rowsI_at l W k hlt] at hrk
      have hx2 := hx.kept hbel
      obtain ⟨x0, x1, x2, x3, x4, x5⟩ := hx2
      have hpl := first_lt c W k hk HC.out
      have hp20 : 2 ^ k ≤ 2 ^ 20 := Nat.pow_le_pow_right (by decide) (by omega)
      have hall := pos_all l W k (c / 2 ^ (W - k)) hk HS.out hpl
      have hnat := node_at l W k (c / 2 ^ (W - k)) j HS.out hpl HCX.out.2 (by rw [HCX.out.1]; simp)
      have hbg := beg_le l (W - k) (c / 2 ^ (W - k)) j
      have hnx := bits_step c W k hlt
      rw [HN.out] at hall
      have hrl := rowK_len l W k hk HS.out
      rw [HN.out] at hrl
      have hnf := fun (F : FP) (w' : World) (hF : FK w' F (rowK l W k)) h1 h2 d => node_fork (w := w') (F := F) l W k (c / 2 ^ (W - k)) hlt HS.out hpl hF h1 h2 d
      rw [HN.out] at hnf
      rw [HCX.out.1, HN.out] at hnat
      generalize hd : decide ((c : Int) / 2 ^ (W - 1 - k) % 2 = 1) = d at *
      generalize hp : c / 2 ^ (W - k) = p at *
      have q1 : (k : Int) < (W : Int) := by omega
      have q2 : (0 : Int) ≤ (k : Int) := by omega
      have hp2 : p ≤ 1048576 := by have : (2 : Nat) ^ 20 = 1048576 := by decide
                                   omega
      have HQ := Lib.hid (And.intro hnf hnx)
      have HP := Lib.hid hp
      have HNA := Lib.hid hnat.1
      have hnl := hnat.2
      have HK := Lib.hid (And.intro hrk hrl)
      have HE := Lib.hid hbel
      clear hnf hnx hp hd hrk hbel hx hRn hpl hrl hnat hp20
      generalize hpf : posN l (W - k) p j = pf at *
      generalize hpe : posN l (W - k) p n = pe at *
      generalize hpb : begN l (W - k) p = pb at *
      go_upto_region 7 with fail
      have hb2 : Below wr.heap.size wr (wr.alloc (.cells #[.int .i64 (R.n : Int), .slice R.a R.m R.c, .int .i64 (R.cn : Int), .int .i64 (R.cW : Int), .int .i64 (R.cL : Int), .slice R.a2 R.m2 R.c2] 35)) := rbel wr R
      have hb1 : Below w1.heap.size w1 (wr.alloc (.cells #[.int .i64 (R.n : Int), .slice R.a R.m R.c, .int .i64 (R.cn : Int), .int .i64 (R.cW : Int), .int .i64 (R.cL : Int), .slice R.a2 R.m2 R.c2] 35)) := HE.out.trans (hb2.mono HE.out.size)
      have hrb := RBx.new wr R
      have HRK := Lib.hid (And.intro (HK.out.1.kept hb1) HK.out.2)
      have HWB := Lib.hid (HH.out.2.1.kept hb1)
      have HRB := Lib.hid hrb
      have HB1 := Lib.hid hb1
      clear hb2 hb1 hrb x0 x1 x2 x3 x4 x5 HE HK
      generalize wr.alloc (.cells #[.int .i64 (R.n : Int), .slice R.a R.m R.c, .int .i64 (R.cn : Int), .int .i64 (R.cW : Int), .int .i64 (R.cL : Int), .slice R.a2 R.m2 R.c2] 35) = w2 at *
      generalize wr.heap.size = rb at *
      have hb : Below w2.heap.size w2 w2 := Below.refl _ _
      go_cut [11, 12] from 30 to 36 (fun v11 v12 wx => ∃ (cb : Nat) (F : FP), v11 = .pointer (some ⟨cb, 0, none⟩) ∧ v12 = .int .i64 (b2i d) ∧ FBx wx cb F ∧ Hid (F.R = R ∧ F.b = pb ∧ F.e = pe ∧ ∀ w', Below w2.heap.size w2 w' → FK w' F (rowK l W k)) ∧ Below w2.heap.size w2 wx)
      case first =>
        obtain ⟨z0, z1, z2, z3, z4, z5, z6, z7, z8⟩ := ss_of HWB.out HRB.out hb
        go_region_held3 (fun w' => w'.cell? ⟨bx, 0, none⟩ = some (.int .i64 (n : Int)) ∧ w'.cell? ⟨bx, 1, none⟩ = some (.int .i64 size) ∧ w'.cell? ⟨bx, 2, none⟩ = some (.slice (some ⟨g, 0, none⟩) W cap) ∧ w'.cell? ⟨rb, 0, none⟩ = some (.int .i64 (R.n : Int)) ∧ w'.cell? ⟨rb, 1, none⟩ = some (.slice R.a R.m R.c) ∧ w'.cell? ⟨rb, 2, none⟩ = some (.int .i64 (R.cn : Int)) ∧ w'.cell? ⟨rb, 3, none⟩ = some (.int .i64 (R.cW : Int)) ∧ w'.cell? ⟨rb, 4, none⟩ = some (.int .i64 (R.cL : Int)) ∧ w'.cell? ⟨rb, 5, none⟩ = some (.slice R.a2 R.m2 R.c2))
          (first
            | (with_reducible exact ss_of HWB.out HRB.out hb)
            | (with_reducible exact ss_of HWB.out HRB.out hb.drew)
            | (with_reducible exact ss_of HWB.out HRB.out (hb.alloc hb.size _))
            | (with_reducible exact ss_of HWB.out HRB.out (hb.alloc hb.size _).drew)
            | (with_reducible exact ss_of HWB.out HRB.out (setF_bel F hq))
            | go_keep)
          (first
            | (go_at_call 83; (with_reducible refine (forkAt_b pb pe HRK.out.1 hb (by omega) (by rw [HRK.out.2]; exact hall)).mono ?_); rintro e u ⟨F, rfl, hF, hb, hbu⟩)
            | (go_at_call 83; (with_reducible refine (forkAt_b pb pe HRK.out.1 hb.drew (by omega) (by rw [HRK.out.2]; exact hall)).mono ?_); rintro e u ⟨F, rfl, hF, hb, hbu⟩)
            | (go_at_call 83; (with_reducible refine (forkAt_b pb pe HRK.out.1 (hb.alloc hb.size _).drew (by omega) (by rw [HRK.out.2]; exact hall)).mono ?_); rintro e u ⟨F, rfl, hF, hb2, hbu⟩; have hq := (fresh76 hb).drew.kept hbu; clear hb; have hb := hb2; clear hb2; generalize w2.heap.size = cb at hq ⊢)
            | (go_at_call 84; (with_reducible refine (rone_b pf d HRK.out.1 hb (by rw [HRK.out.2]; omega) HNA.out).mono ?_); rintro e u2 ⟨rfl, hb, hbu⟩; have hq := hq.kept hbu; obtain ⟨⟨y0, m0⟩, p0, ⟨y1, m1⟩, p1, ⟨y2, m2⟩, p2, ⟨y3, m3⟩, p3, ⟨y4, m4⟩, p4, ⟨y5, m5⟩, p5, ⟨y6, m6⟩, p6, ⟨y7, m7⟩, p7, ⟨y8, m8⟩, p8, ⟨y9, m9⟩, p9, ⟨y10, m10⟩, p10⟩ := hq.ex11)
            | (go_at_call 84; (with_reducible refine (rone_b pf d HRK.out.1 hb (by rw [HRK.out.2]; omega) HNA.out).mono ?_); rintro e u2 ⟨rfl, hb, hbu⟩)
            | (go_at_call 84; (with_reducible refine (rone_b pf d HRK.out.1 (hb.alloc hb.size _) (by rw [HRK.out.2]; omega) HNA.out).mono ?_); rintro e u2 ⟨rfl, hb2, hbu⟩; have hq := (fresh76 hb).kept hbu; clear hb; have hb := hb2; clear hb2; generalize u.heap.size = cb at hq ⊢; obtain ⟨⟨y0, m0⟩, p0, ⟨y1, m1⟩, p1, ⟨y2, m2⟩, p2, ⟨y3, m3⟩, p3, ⟨y4, m4⟩, p4, ⟨y5, m5⟩, p5, ⟨y6, m6⟩, p6, ⟨y7, m7⟩, p7, ⟨y8, m8⟩, p8, ⟨y9, m9⟩, p9, ⟨y10, m10⟩, p10⟩ := hq.ex11))
        all_goals
          first
            | (have hbx2 := setF_box F hq
               have hbl := setF_bel F hq
               have HF := Lib.hid (And.intro hbx2 (And.intro hF hbl))
               clear hbx2 hbl hF hq hb hbu
               go_wp2
               go_meet
               refine ⟨cb, F, rfl, rfl, ?_, HF.out.2.1, ?_⟩
               · with_reducible exact HF.out.1
               · with_reducible exact HF.out.2.2)
            | (have hbx2 := FBx.new u2 F
               have hbl := hb.alloc hb.size (.cells #[.int .i64 (F.R.n : Int), .slice F.R.a F.R.m F.R.c, .int .i64 (F.R.cn : Int), .int .i64 (F.R.cW : Int), .int .i64 (F.R.cL : Int), .slice F.R.a2 F.R.m2 F.R.c2, .int .i64 (F.b : Int), .int .i64 (F.m : Int), .int .i64 (F.e : Int), .int .i64 (F.z : Int), .int .i64 (F.o : Int)] 111)
               have HF := Lib.hid (And.intro hbx2 (And.intro hF hbl))
               clear hbx2 hbl hF hb hbu
               go_wp2
               go_meet
               refine ⟨u2.heap.size, F, rfl, rfl, ?_, HF.out.2.1, ?_⟩
               · with_reducible exact HF.out.1
               · with_reducible exact HF.out.2.2)
      case rest =>
        obtain ⟨cb, F, rfl, rfl, hfb, hF, hb⟩ := hcut
        obtain ⟨hF1, hF2, hF3, hF4⟩ := hF.out
        obtain ⟨hQ1, hQ2, hQ3, hQ4⟩ := HQ.out.1 F w2 (hF4 w2 (Below.refl _ _)) hF2 hF3 d
        have hp' := HQ.out.2
        have hor := or_bit p d (by omega)
        rw [hp'] at hQ1 hQ2 hQ4 hor
        have hfk := hF4 wc hb
        have hr1 := hQ4 j
        rw [hpf] at hr1
        generalize hx : b2i d = x at *
        have hlr : (rowK l W k).length = n := HRK.out.2
        have c1 := fun u (hu : Below wc.heap.size wc u) => follow_b d pf x hx.symm hfk hu (by omega) (by omega) _ hr1
        have c3 := fun u => next_any F d x hx.symm u
        rw [hQ1, hQ2] at c3
        have H1 := Lib.hid c1
        have H3 := Lib.hid c3
        have HBW := Lib.hid (HB1.out.trans (hb.mono HB1.out.size))
        have HFB := Lib.hid hfb
        clear hp' c1 c3 hr1 hQ1 hQ2 hQ3 hQ4 hF1 hF2 hF3 hF4 hF hfk hb hlr HQ hx
        generalize hnf : posN l (W - 1 - k) (c / 2 ^ (W - 1 - k)) j = nf at *
        generalize hne : posN l (W - 1 - k) (c / 2 ^ (W - 1 - k)) n = nn at *
        generalize hnb : begN l (W - 1 - k) (c / 2 ^ (W - 1 - k)) = nbg at *
        generalize hnp : c / 2 ^ (W - 1 - k) = np at *
        have hb : Below wc.heap.size wc wc := Below.refl _ _
        have HNN := Lib.hid (And.intro hnf (And.intro hne (And.intro hnb hnp)))
        clear hnf hne hnb hnp
        obtain ⟨z0, z1, z2, z3, z4, z5, z6, z7, z8, z9, z10⟩ := fs_of HFB.out hb
        clear hfb
        go_wp2_with fail
        refine (H1.out _ hb).mono ?_
        rintro e u ⟨rfl, hb1, hbu⟩
        clear z0 z1 z2 z3 z4 z5 z6 z7 z8 z9 z10
        obtain ⟨z0, z1, z2, z3, z4, z5, z6, z7, z8, z9, z10⟩ := fs_of HFB.out hb1
        have HB := Lib.hid hb1
        clear hb hb1 hbu H1
        go_wp2_with fail
        refine (H3.out _).mono ?_
        rintro e u3 ⟨rfl, hb3⟩
        have hb4 := HB.out.trans (hb3.mono HB.out.size)
        have HB4 := Lib.hid (HBW.out.trans (hb4.mono HBW.out.size))
        clear z0 z1 z2 z3 z4 z5 z6 z7 z8 z9 z10 hb3 hb4 HB H3
        go_wp2
        go_roundw
        case rel =>
          have e1 : W - (k + 1) = W - 1 - k := by omega
          refine ⟨k + 1, hlt, by go_num, ?_, ?_, ?_, ?_, HB4.out⟩
          · rw [e1, HNN.out.2.2.2, HNN.out.1]
          · rw [e1, HNN.out.2.2.2]
          · rw [e1, HNN.out.2.2.2, HNN.out.2.2.1]
          · rw [e1, HNN.out.2.2.2, HNN.out.2.1]
        case measure => simp [intOf]; omega
    · obtain rfl : k = W := by omega
      rw [Nat.sub_self, Nat.pow_zero, Nat.div_one] at *
      have HE := Lib.hid hbel
      clear hbel
      go_wp2
      go_ret2
      refine ⟨rfl, ?_⟩
      rw [HBX.out]
      exact HH.out.1.trans (HE.out.mono HZ.out)

end Go.Proofs.YtpnjccomngdblaaGreat
