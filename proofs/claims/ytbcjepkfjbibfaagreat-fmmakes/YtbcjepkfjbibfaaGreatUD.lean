/- The walk of FmMakes. -/
import Derived.Test.YtbcjepkfjbibfaaGreatUE
set_option maxRecDepth 100000
namespace Go.Proofs.YtbcjepkfjbibfaaGreat
open Go.RowKit
open M
attribute [local go_sem ↓] Go.wp_at_zero Go.wp_at_succ

/-- May there be a row of these of that size? -/
def okB (l : List Int) (size : Int) : Bool := decide (1 ≤ size ∧ size ≤ 65535) && symB l size
/-- What New tells, of whatever numbers. -/
structure NwEnd (w : World) (l : List Int) (size : Int) (F : FQ) (ec : Int) (u : World) : Prop where
  bel : Below w.heap.size w u
  out : (ec = 0 ∧ okB l size = true ∧ ∃ s, FMI u F l s) ∨ (ec = 1 ∧ okB l size = false ∧ F = FQN)
theorem new_all (A : Option Addr) (n c : Nat) (l : List Int) (size : Int) (w : World) (hA : NumsAt .i64 w A l) (hl : l.length = n) (hn : n ≤ 1000) :
    Calls Tryz.prog 11 #[.slice A n c, .int .i64 size] w fun e u => ∃ F ec, e = .returned (.tuple #[.agg #[.int .i64 (F.N : Int), .int .i64 F.Z, .slice F.wa F.wW F.wc, .int .i64 (F.R.n : Int), .slice F.R.a F.R.m F.R.c, .int .i64 (F.R.cn : Int), .int .i64 (F.R.cW : Int), .int .i64 (F.R.cL : Int), .slice F.R.a2 F.R.m2 F.R.c2, .int .i64 (F.S.n : Int), .int .i64 (F.S.W : Int), .int .i64 (F.S.L : Int), .slice F.S.a F.S.m F.S.c, .int .i64 (F.P.n : Int), .int .i64 (F.P.W : Int), .int .i64 (F.P.L : Int), .slice F.P.a F.P.m F.P.c], .int .i64 ec]) ∧ NwEnd w l size F ec u := by
  by_cases h : okB l size = true
  · have h' := h
    unfold okB at h'
    rw [Bool.and_eq_true, decide_eq_true_eq, symB_iff] at h'
    obtain ⟨⟨h1, h2⟩, h3⟩ := h'
    obtain ⟨s, rfl⟩ : ∃ s : Nat, size = (s : Int) := ⟨size.toNat, by omega⟩
    refine (fnew_any marked_said A n c l s w hA hl hn (by omega) (by omega) h3).mono ?_
    rintro e u ⟨F, rfl, hF, hb⟩
    exact ⟨F, 0, rfl, hb, .inl ⟨rfl, h, s, hF⟩⟩
  · have hf : okB l size = false := by simpa using h
    refine (new_no A n c l size w hA hl (by omega) ?_).mono ?_
    · unfold okB at hf
      rw [Bool.and_eq_false_iff, decide_eq_false_iff_not] at hf
      exact hf
    rintro e u ⟨rfl, hb⟩
    exact ⟨FQN, 1, rfl, hb, .inr ⟨rfl, hf, rfl⟩⟩
theorem may_ok (l : List Int) (size : Int) (h : size ≤ 65535) : mayB l size = okB l size := by
  unfold mayB okB symB
  rw [decide_eq_true (by omega : size ≤ 65536), Bool.and_true, Bool.decide_and, decide_eq_true h, Bool.and_true]
  congr 2
  funext x
  rw [Bool.decide_and]
theorem ok_far (l : List Int) (size : Int) (h : ¬ size ≤ 65535) : okB l size = false := by
  unfold okB
  rw [decide_eq_false (by omega), Bool.false_and]
/-- Its Len, if there is none. -/
theorem zlen_any (F : FQ) (h : F.N = 0) (u : World) : Calls Tryz.prog 13 #[.agg #[.int .i64 (F.N : Int), .int .i64 F.Z, .slice F.wa F.wW F.wc, .int .i64 (F.R.n : Int), .slice F.R.a F.R.m F.R.c, .int .i64 (F.R.cn : Int), .int .i64 (F.R.cW : Int), .int .i64 (F.R.cL : Int), .slice F.R.a2 F.R.m2 F.R.c2, .int .i64 (F.S.n : Int), .int .i64 (F.S.W : Int), .int .i64 (F.S.L : Int), .slice F.S.a F.S.m F.S.c, .int .i64 (F.P.n : Int), .int .i64 (F.P.W : Int), .int .i64 (F.P.L : Int), .slice F.P.a F.P.m F.P.c]] u fun e u' => e = .returned (.int .i64 0) ∧ Below u.heap.size u u' := by
  obtain ⟨x0, x1, x2, -⟩ := (MBx.new u F).cells
  have hb := mbel u F
  have hw := wlen_any (F.N : Int) F.Z (.slice F.wa F.wW F.wc) (u.alloc (.cells #[.int .i64 (F.N : Int), .int .i64 F.Z, .slice F.wa F.wW F.wc, .int .i64 (F.R.n : Int), .slice F.R.a F.R.m F.R.c, .int .i64 (F.R.cn : Int), .int .i64 (F.R.cW : Int), .int .i64 (F.R.cL : Int), .slice F.R.a2 F.R.m2 F.R.c2, .int .i64 (F.S.n : Int), .int .i64 (F.S.W : Int), .int .i64 (F.S.L : Int), .slice F.S.a F.S.m F.S.c, .int .i64 (F.P.n : Int), .int .i64 (F.P.W : Int), .int .i64 (F.P.L : Int), .slice F.P.a F.P.m F.P.c] 36))
  have HX := Lib.hid (And.intro hw hb)
  have q1 : IntKind.i64.wrap ((F.N : Int) - 1) = -1 := by rw [h]; exact IntWalk.i64_in _ (by omega)
  clear hw hb h
  go_enter Tryz.func13, Tryz.ntmps13
  go_wp2_with fail
  (with_reducible refine HX.out.1.mono ?_)
  clear x0 x1 x2
  rintro e u1 ⟨rfl, hb⟩
  have HB := Lib.hid (HX.out.2.trans (hb.mono HX.out.2.size))
  clear hb
  go_wp2
  go_ret
  exact ⟨ret_int (by omega), HB.out⟩

/-- What the law holds: the document's parts of the row besides. -/
structure DG (w w3 : World) (bx : Nat) (F : FQ) (L : List Int) (s : Nat) (B A1 A2 A3 : Option Addr) (u : World) : Prop where
  lg : LG9 w w3 bx F L s B u
  n1 : NumsAt .i64 u A1 (wavL L)
  n2 : BoolsAt u A2 (mkL L)
  n3 : NumsAt .i64 u A3 (smL L)
theorem DG.kept {w w3 u u' : World} {bx s : Nat} {F : FQ} {L : List Int} {B A1 A2 A3 : Option Addr} (h : DG w w3 bx F L s B A1 A2 A3 u) (hb : Below u.heap.size u u') : DG w w3 bx F L s B A1 A2 A3 u' :=
  ⟨h.lg.kept hb, h.n1.kept hb, h.n2.kept hb, h.n3.kept hb⟩

set_option linter.unusedSimpArgs false in
set_option maxHeartbeats 8000000 in
theorem makes_walk (A : Option Addr) (n0 c0 : Nat) (xs : List Int) (sz : Int) (w : World) (hA : NumsAt .i64 w A xs) (hx : xs.length = n0) (hc : n0 ≤ c0) :
    Calls Tryz.prog 3 #[.slice A n0 c0, .int .i64 sz] w fun e w' => e = .returned (.bool true) ∧ Below w.heap.size w w' := by
  have HX := Lib.hid (And.intro hA (And.intro hx hc))
  clear hA hx hc
  go_enter Tryz.func3, Tryz.ntmps3
  go_wp2_with fail
  (with_reducible refine (awake_any _).mono ?_)
  rintro e u1 ⟨rfl, hb⟩
  have H1 := Lib.hid hb
  clear hb
  have hfw := few_any A n0 c0 40 u1 HX.out.2.2
  rw [show ((40 : Nat) : Int) = (40 : Int) from rfl] at hfw
  have htk := (HX.out.1.kept H1.out).take (min n0 40)
  have htl : (xs.take (min n0 40)).length = min n0 40 := by rw [List.length_take, HX.out.2.1]; omega
  obtain ⟨ms, hms⟩ : ∃ ms, xs.take (min n0 40) = ms := ⟨_, rfl⟩
  rw [hms] at htk htl
  obtain ⟨k, hk⟩ : ∃ k, min n0 40 = k := ⟨_, rfl⟩
  rw [hk] at htl hfw
  have hk40 : k ≤ 40 := by omega
  have H2 := Lib.hid (And.intro hfw (And.intro htk htl))
  clear hfw htk htl hms hk
  go_wp2_with fail
  (with_reducible refine H2.out.1.mono ?_)
  rintro e u2 ⟨rfl, rfl⟩
  go_upto_region 4 with fail
  go_cut [30] from 25 to 29 (fun v30 wx => ∃ t : Bool, v30 = .bool t ∧ wx = u2)
  case first =>
    by_cases h3 : sz > 300
    · go_wp2
      go_meet
      exact ⟨_, rfl, rfl⟩
    · go_wp2
      go_meet
      exact ⟨_, rfl, rfl⟩
  case rest =>
  obtain ⟨t, rfl, rfl⟩ := hcut
  obtain ⟨wo, rfl⟩ : ∃ wo, wo = wc := ⟨_, rfl⟩
  go_upto_if 30 with fail
  go_cut [7] from 31 to 31 (fun v7 wx => ∃ N : Int, v7 = .int .i64 N ∧ wx = wo)
  case first =>
    cases t with
    | true =>
      go_wp2
      go_meet
      exact ⟨_, rfl, rfl⟩
    | false =>
      go_wp2
      go_meet
      exact ⟨_, rfl, rfl⟩
  case rest =>
    obtain ⟨N, rfl, rfl⟩ := hcut
    have hnw := new_all A k c0 ms N wc H2.out.2.1 H2.out.2.2 (by omega)
    have HN := Lib.hid hnw
    clear hnw
    go_wp2_with fail
    (with_reducible refine HN.out.mono ?_)
    rintro e u3 ⟨F0, ec, rfl, hE⟩
    go_upto_region 7 with fail
    have hbx := MBx.new u3 F0
    have hba := mbel u3 F0
    obtain ⟨u4, hu4⟩ : ∃ u4, u3.alloc (.cells #[.int .i64 (F0.N : Int), .int .i64 F0.Z, .slice F0.wa F0.wW F0.wc, .int .i64 (F0.R.n : Int), .slice F0.R.a F0.R.m F0.R.c, .int .i64 (F0.R.cn : Int), .int .i64 (F0.R.cW : Int), .int .i64 (F0.R.cL : Int), .slice F0.R.a2 F0.R.m2 F0.R.c2, .int .i64 (F0.S.n : Int), .int .i64 (F0.S.W : Int), .int .i64 (F0.S.L : Int), .slice F0.S.a F0.S.m F0.S.c, .int .i64 (F0.P.n : Int), .int .i64 (F0.P.W : Int), .int .i64 (F0.P.L : Int), .slice F0.P.a F0.P.m F0.P.c] 36) = u4 := ⟨_, rfl⟩
    rw [hu4] at hbx hba
    rw [hu4]
    obtain ⟨b0, hb0⟩ : ∃ b0, u3.heap.size = b0 := ⟨_, rfl⟩
    rw [hb0] at hbx
    simp only [hb0]
    have hbw : Below wc.heap.size wc u4 := hE.bel.trans (hba.mono hE.bel.size)
    have hbel := H1.out.trans (hbw.mono H1.out.size)
    have hmy := wmay_any A k c0 ms N u4 (H2.out.2.1.kept hbw) H2.out.2.2 (by omega)
    have H4 := Lib.hid (And.intro hbx (And.intro hbel (And.intro hmy hE.out)))
    clear hE hba hu4 hb0 hbw hbel hmy hbx HN
    go_cut [10] from 37 to 43 (fun v10 wx => v10 = .bool (okB ms N) ∧ wx = u4)
    case first =>
      by_cases hN : N ≤ 65535
      · have HE := Lib.hid (may_ok ms N hN)
        go_wp2_with fail
        (with_reducible refine H4.out.2.2.1.mono ?_)
        rintro e u5 ⟨rfl, rfl⟩
        go_wp2
        go_meet
        exact ⟨by rw [HE.out], rfl⟩
      · have HE := Lib.hid (ok_far ms N hN)
        go_wp2
        go_meet
        exact ⟨by rw [HE.out], rfl⟩
    case rest =>
      obtain ⟨rfl, rfl⟩ := hcut
      go_upto_region 8 with fail
      go_cut [9, 10, 31, 34, 35, 36, 60] from 44 to 59 (fun _ _ _ _ _ _ v60 wx => v60 = .bool false ∧ Below w.heap.size w wx)
      case first =>
        obtain ⟨rfl, hok, -⟩ | ⟨rfl, hok, rfl⟩ := H4.out.2.2.2
        · rw [hok]
          have HB := Lib.hid H4.out.2.1
          clear hok H4
          go_wp2
          go_meet
          exact ⟨rfl, HB.out⟩
        · rw [hok]
          clear hok
          go_wp2_with (refine load36 H4.out.1 _ (by with_reducible rfl) rfl rfl ?_)
          refine (zlen_any FQN rfl _).mono ?_
          rintro e u5 ⟨rfl, hb⟩
          have HB := Lib.hid (H4.out.2.1.trans (hb.mono H4.out.2.1.size))
          clear hb H4
          go_wp2
          go_meet
          exact ⟨rfl, HB.out⟩
      case rest =>
        obtain ⟨rfl, hb⟩ := hcut
        have H5 := Lib.hid hb
        clear hb H4 H2 H1
        have hsy := symbols_any A n0 c0 xs sz wc (HX.out.1.kept H5.out) HX.out.2.1
        have HS := Lib.hid hsy
        clear hsy
        go_wp2_with fail
        (with_reducible refine HS.out.mono ?_)
        rintro e u2 ⟨v, rfl, hI⟩
        obtain ⟨B, bc, rfl, hB, hbc, hsh⟩ := own_at hI
        obtain ⟨h1, h2, h3⟩ := kind8_in sz
        have hll := cutL_len (kind8 sz) xs (min n0 60) (by rw [HX.out.2.1]; omega)
        have hin := cutL_in (kind8 sz) xs (min n0 60) (by omega)
        obtain ⟨L, hL⟩ : ∃ L, cutL (kind8 sz) xs (min n0 60) = L := ⟨_, rfl⟩
        obtain ⟨s, hs⟩ : ∃ s, kind8 sz = s := ⟨_, rfl⟩
        rw [hL] at hB hll hin hbc ⊢
        rw [hs] at hin h1 h2 ⊢
        obtain ⟨n, hn⟩ : ∃ n, L.length = n := ⟨_, rfl⟩
        rw [hn] at hll hbc ⊢
        have hn60 : n ≤ 60 := by omega
        have hb2 := H5.out.trans (hI.2.mono H5.out.size)
        have hnw := fnew_any marked_said B n bc L s u2 hB hn (by omega) h1 (by omega) hin
        have HN := Lib.hid (And.intro hnw (And.intro hB (And.intro hb2 (And.intro hin (And.intro hn hbc)))))
        have hsz : s ≤ 8 := h2
        clear hI hB hll hin hL hs hn hb2 hnw h1 h2 h3 H5 HS hsh hbc
        go_wp2_with fail
        (with_reducible refine HN.out.1.mono ?_)
        rintro e u3 ⟨F, rfl, hF, hb⟩
        have hb3 := HN.out.2.2.1.trans (hb.mono HN.out.2.2.1.size)
        have hB3 := HN.out.2.1.kept hb
        have hm3 := MX.boxed (w := u3) hF (Below.refl _ _)
        go_upto_region 12 with fail
        have hba := mbel u3 F
        obtain ⟨u4, hu4⟩ : ∃ u4, u3.alloc (.cells #[.int .i64 (F.N : Int), .int .i64 F.Z, .slice F.wa F.wW F.wc, .int .i64 (F.R.n : Int), .slice F.R.a F.R.m F.R.c, .int .i64 (F.R.cn : Int), .int .i64 (F.R.cW : Int), .int .i64 (F.R.cL : Int), .slice F.R.a2 F.R.m2 F.R.c2, .int .i64 (F.S.n : Int), .int .i64 (F.S.W : Int), .int .i64 (F.S.L : Int), .slice F.S.a F.S.m F.S.c, .int .i64 (F.P.n : Int), .int .i64 (F.P.W : Int), .int .i64 (F.P.L : Int), .slice F.P.a F.P.m F.P.c] 36) = u4 := ⟨_, rfl⟩
        rw [hu4] at hm3 hba
        rw [hu4]
        obtain ⟨bx, hbx⟩ : ∃ bx, u3.heap.size = bx := ⟨_, rfl⟩
        rw [hbx] at hm3
        simp only [hbx]
        have hG : LG9 w u3 bx F L s B u4 := ⟨hm3, hb3.trans (hba.mono hb3.size), hB3.kept hba, Nat.le_trans hb3.size hba.size⟩
        have hpa := parts_any B n bc L s u4 hG.nums HN.out.2.2.2.2.1 HN.out.2.2.2.2.2 (by omega) HN.out.2.2.2.1 (by omega)
        have H4 := Lib.hid (And.intro hG hpa)
        have HL := Lib.hid HN.out.2.2.2.2.1
        clear hF hb hb3 hB3 hm3 hba hu4 hbx hG HN hpa HX
        go_wp2_with fail
        (with_reducible refine H4.out.2.mono ?_)
        rintro e u5 ⟨v1, v2, v3, rfl, hPT⟩
        obtain ⟨⟨A1, c1, rfl, hn1⟩, ⟨A2, c2, rfl, hn2⟩, ⟨A3, c3, rfl, hn3⟩, hb⟩ := hPT
        have hG : DG w u3 bx F L s B A1 A2 A3 u5 := ⟨H4.out.1.kept hb, hn1, hn2, hn3⟩
        have hl1 : (wavL L).length = n + 1 := by rw [wavL_len, HL.out]
        have hl2 : (mkL L).length = n + 1 := by rw [mkL_len, HL.out]
        have hl3 := smL_len2 L
        rw [HL.out] at hl3
        rw [hl1, hl2]
        obtain ⟨m, hm⟩ : ∃ m, (smL L).length = m := ⟨_, rfl⟩
        rw [hm] at hl3 ⊢
        have H5 := Lib.hid hG
        have HM := Lib.hid (And.intro hl1 (And.intro hl2 hm))
        clear hn1 hn2 hn3 hb hG hl1 hl2 hm H4
        go_wp2_with (refine load36 H5.out.lg.mx.box _ (by with_reducible rfl) rfl rfl ?_)
        (with_reducible refine (gwave_any F _).mono ?_)
        rintro e u6 ⟨rfl, hb⟩
        have H6 := Lib.hid (H5.out.kept hb)
        clear hb H5
        go_wp2_with fail
        (with_reducible refine (wl_mx H6.out.lg.mx.fm).mono ?_)
        rintro e u7 ⟨v, rfl, hv, hb⟩
        rw [HL.out]
        have h7 := H6.out.kept hb
        have hs := rsame_any v A1 (n + 1) (n + 1) (n + 1) c1 (wavL L) (wavL L) u7 hv h7.n1 HM.out.1 HM.out.1 (by omega)
        rw [decide_eq_true rfl] at hs
        have H7 := Lib.hid (And.intro hs h7)
        clear hb hv hs h7 H6
        go_wp2_with fail
        (with_reducible refine H7.out.1.mono ?_)
        rintro e u8 ⟨rfl, hb⟩
        have H8 := Lib.hid (H7.out.2.kept hb)
        clear hb H7
        go_wp2_with (refine load36 H8.out.lg.mx.box _ (by with_reducible rfl) rfl rfl ?_)
        (with_reducible refine (gmarks_any F _).mono ?_)
        rintro e u9 ⟨rfl, hb⟩
        have H9 := Lib.hid (H8.out.kept hb)
        clear hb H8
        go_wp2_with fail
        (with_reducible refine (ml_mx H9.out.lg.mx.fm).mono ?_)
        rintro e u10 ⟨D, dc, rfl, hv, hb⟩
        rw [HL.out]
        have h10 := H9.out.kept hb
        have hs := rsameB_any D A2 (n + 1) (n + 1) dc c2 (mkL L) (mkL L) u10 hv h10.n2 HM.out.2.1 HM.out.2.1 (by omega)
        rw [decide_eq_true rfl] at hs
        have H10 := Lib.hid (And.intro hs h10)
        clear hb hv hs h10 H9
        go_wp2_with fail
        (with_reducible refine H10.out.1.mono ?_)
        rintro e u11 ⟨rfl, hb⟩
        have H11 := Lib.hid (H10.out.2.kept hb)
        clear hb H10
        go_wp2_with (refine load36 H11.out.lg.mx.box _ (by with_reducible rfl) rfl rfl ?_)
        (with_reducible refine (gsamples_any F _).mono ?_)
        rintro e u12 ⟨rfl, hb⟩
        have H12 := Lib.hid (H11.out.kept hb)
        clear hb H11
        go_wp2_with fail
        (with_reducible refine (sl_mx H12.out.lg.mx.fm).mono ?_)
        rintro e u13 ⟨g, rfl, hv, hb⟩
        obtain ⟨P', pc', hPe, hPn, -, -, -, -⟩ := nums_of_own hv
        have h13 := H12.out.kept hb
        injection hPe with e1 e2 e3
        subst e1
        rw [HM.out.2.2]
        have hs := rsame_any (some ⟨g, 0, none⟩) A3 m m m c3 (smL L) (smL L) u13 hPn h13.n3 HM.out.2.2 HM.out.2.2 (by omega)
        rw [decide_eq_true rfl] at hs
        have H13 := Lib.hid (And.intro hs h13)
        clear hb hv hs h13 H12 hPn e2 e3
        go_wp2_with fail
        (with_reducible refine H13.out.1.mono ?_)
        rintro e u14 ⟨rfl, hb⟩
        have H14 := Lib.hid (H13.out.2.kept hb)
        clear hb H13
        have qs : IntKind.i64.wrap ((s : Int) + 1) = (s : Int) + 1 := IntWalk.i64_in _ (by omega)
        go_wp2_with (refine load36 H14.out.lg.mx.box _ (by with_reducible rfl) rfl rfl ?_)
        (with_reducible refine (gwave_any F _).mono ?_)
        rintro e u15 ⟨rfl, hb⟩
        have H15 := Lib.hid (H14.out.kept hb)
        clear hb H14
        go_wp2_with fail
        (with_reducible refine (wsize_any (F.N : Int) F.Z (.slice F.wa F.wW F.wc) _).mono ?_)
        rintro e u16 ⟨rfl, hb⟩
        have H16 := Lib.hid (H15.out.kept hb)
        rw [H15.out.lg.mx.fm.Z]
        clear hb H15
        go_wp2_with (refine load36 H16.out.lg.mx.box _ (by with_reducible rfl) rfl rfl ?_)
        (with_reducible refine (gsamples_any F _).mono ?_)
        rintro e u17 ⟨rfl, hb⟩
        have H17 := Lib.hid (H16.out.kept hb)
        clear hb H16
        go_wp2_with fail
        (with_reducible refine (iw_mx F _).mono ?_)
        rintro e u18 ⟨rfl, hb⟩
        have H18 := Lib.hid (H17.out.kept hb)
        clear hb H17
        have hmo : mostI (smL L) ≤ 9223372036854775807 := by
          have hsi := smL_in H18.out.lg.mx.fm.i64 H18.out.lg.mx.fm.nn
          rw [HL.out] at hsi
          rcases mostI_mem (smL L) with e | e
          · omega
          · have := hsi _ e; omega
        have hmw := wmost_any A3 m c3 (smL L) u18 H18.out.n3 HM.out.2.2 (by omega)
        have hrw := fun u => rwidth_any (mostI (smL L)) u hmo
        rw [← H18.out.lg.mx.fm.sW] at hrw
        obtain ⟨MO, hMO⟩ : ∃ MO, mostI (smL L) = MO := ⟨_, rfl⟩
        rw [hMO] at hmw hrw
        have HW := Lib.hid (And.intro hmw hrw)
        clear hmo hmw hrw hMO
        go_wp2_with fail
        (with_reducible refine HW.out.1.mono ?_)
        rintro e u19 ⟨rfl, rfl⟩
        go_wp2_with fail
        (with_reducible refine (HW.out.2 _).mono ?_)
        rintro e u20 ⟨rfl, rfl⟩
        go_wp2_with (refine load36 H18.out.lg.mx.box _ (by with_reducible rfl) rfl rfl ?_)
        (with_reducible refine (flen_any H18.out.lg.mx.fm).mono ?_)
        rintro e u21 ⟨rfl, hb⟩
        rw [HL.out]
        have H21 := Lib.hid (H18.out.kept hb)
        clear hb H18
        go_wp2_with (refine load36 H21.out.lg.mx.box _ (by with_reducible rfl) rfl rfl ?_)
        (with_reducible refine (fsize_any H21.out.lg.mx.fm).mono ?_)
        rintro e u22 ⟨rfl, hb⟩
        have HB := Lib.hid (H21.out.lg.bel.trans (hb.mono H21.out.lg.lt))
        clear hb H21
        go_wp2
        go_ret
        exact ⟨rfl, HB.out⟩

end Go.Proofs.YtbcjepkfjbibfaaGreat
