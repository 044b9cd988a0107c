/- The walk of FmFinds. -/
import Derived.Test.YtbcjepkfjbibfaaGreatZT
set_option maxRecDepth 100000
namespace Go.Proofs.YtbcjepkfjbibfaaGreat
open Go.RowKit
open M
attribute [local go_sem ↓] Go.wp_at_zero Go.wp_at_succ

/-- What the law was asked, in its box. -/
structure AQ (u : World) (b : Nat) (sz : Int) (raw : Bool) (fr m : Int) : Prop where
  c0 : u.cell? ⟨b, 0, none⟩ = some (.int .i64 sz)
  c1 : u.cell? ⟨b, 1, none⟩ = some (.bool raw)
  c2 : u.cell? ⟨b, 2, none⟩ = some (.int .i64 fr)
  c3 : u.cell? ⟨b, 3, none⟩ = some (.int .i64 m)
theorem AQ.lt {u : World} {b : Nat} {sz fr m : Int} {raw : Bool} (h : AQ u b sz raw fr m) : b < u.heap.size := World.block_lt_of_cell? u _ h.c0
theorem AQ.kept {u u' : World} {b : Nat} {sz fr m : Int} {raw : Bool} (h : AQ u b sz raw fr m) (hb : Below u.heap.size u u') : AQ u' b sz raw fr m := by
  have cl : ∀ o, u'.cell? ⟨b, o, none⟩ = u.cell? ⟨b, o, none⟩ := fun o => hb.cell (p := ⟨b, o, none⟩) h.lt
  exact ⟨by rw [cl]; exact h.c0, by rw [cl]; exact h.c1, by rw [cl]; exact h.c2, by rw [cl]; exact h.c3⟩
theorem AQ.new (w : World) (sz fr m : Int) (raw : Bool) : AQ (w.alloc (.cells #[.int .i64 sz, .bool raw, .int .i64 fr, .int .i64 m] 57)) w.heap.size sz raw fr m := ⟨by simp, by simp, by simp, by simp⟩

theorem own_at {w u : World} {v : Value} {l : List Int} (h : OwnI w v l u) : ∃ A c, v = .slice A l.length c ∧ NumsAt .i64 u A l ∧ l.length ≤ c ∧ ((A = none ∧ c = 0) ∨ ∃ b o, A = some ⟨b, o, none⟩) := by
  rcases h.1.2 with ⟨rfl, hn⟩ | ⟨g, cap, cur, hv, hg, hh, hn, hc, hs, ht⟩
  · have : l = [] := by simpa using hn
    subst this
    exact ⟨none, 0, rfl, .inl rfl, Nat.zero_le _, .inl ⟨rfl, rfl⟩⟩
  · obtain ⟨A, c, e, h1, -, h2, -, -⟩ := nums_of_own h.1
    subst hv
    injection e with e1 e2 e3
    exact ⟨A, c, by rw [e1, e3], h1, h2, .inr ⟨g, 0, by rw [← e1]⟩⟩

/-- What the law holds. -/
structure FG (w : World) (qb : Nat) (w3 : World) (bx : Nat) (F : FQ) (L : List Int) (s : Nat) (sz : Int) (raw : Bool) (fr m : Int) (B : Option Addr) (u : World) : Prop where
  mx : MX w3 bx F L s u
  aq : AQ u qb sz raw fr m
  bel : Below qb w u
  nums : NumsAt .i64 u B L
  lt : qb ≤ u.heap.size
theorem FG.kept {w w3 u u' : World} {qb bx s : Nat} {F : FQ} {L : List Int} {sz fr m : Int} {raw : Bool} {B : Option Addr} (h : FG w qb w3 bx F L s sz raw fr m B u) (hb : Below u.heap.size u u') : FG w qb w3 bx F L s sz raw fr m B u' :=
  ⟨h.mx.kept hb, h.aq.kept hb, h.bel.trans (hb.mono h.lt), h.nums.kept hb, Nat.le_trans h.lt hb.size⟩
theorem FG.drew {w w3 u : World} {qb bx s : Nat} {F : FQ} {L : List Int} {sz fr m : Int} {raw : Bool} {B : Option Addr} (h : FG w qb w3 bx F L s sz raw fr m B u) : FG w qb w3 bx F L s sz raw fr m B u.drew := h.kept ((Below.refl _ _).drew)

set_option maxHeartbeats 8000000 in
theorem finds_walk (A P : Option Addr) (n0 c0 np cp : Nat) (xs ps : List Int) (sz fr m : Int) (raw : Bool) (w : World) (hA : NumsAt .i64 w A xs) (hx : xs.length = n0) (hP : NumsAt .i64 w P ps) (hp : ps.length = np) (hpc : np ≤ cp) (hm : m ≤ 9223372036854775807) (hm2 : -9223372036854775808 ≤ m) :
    Calls Tryz.prog 4 #[.slice A n0 c0, .slice P np cp, .agg #[.int .i64 sz, .bool raw, .int .i64 fr, .int .i64 m]] w fun e w' => e = .returned (.bool true) ∧ Below w.heap.size w w' := by
  obtain ⟨w1, hw1⟩ : ∃ w1, w1 = w.alloc (.cells #[.int .i64 sz, .bool raw, .int .i64 fr, .int .i64 m] 57) := ⟨_, rfl⟩
  have hq1 : AQ w1 w.heap.size sz raw fr m := by rw [hw1]; exact AQ.new _ _ _ _ _
  have hb1 : Below w.heap.size w w1 := by rw [hw1]; exact al w _
  have HX := Lib.hid (And.intro hA (And.intro hx (And.intro hP hp)))
  obtain ⟨qb, hqb⟩ : ∃ qb, w.heap.size = qb := ⟨_, rfl⟩
  rw [hqb] at hq1 hb1
  have H1 := Lib.hid (And.intro hq1 hb1)
  have HQ := Lib.hid hqb
  clear hA hx hP hp hq1 hb1
  go_enter Tryz.func4, Tryz.ntmps4
  go_upto_region 1 with fail
  rw [← hw1]
  clear hw1
  go_wp2_with fail
  (with_reducible refine (awake_any _).mono ?_)
  rintro e u1 ⟨rfl, hb⟩
  have H2 := Lib.hid (And.intro (H1.out.1.kept hb) (H1.out.2.trans (hb.mono (by have := H1.out.1.lt; omega))))
  clear hb H1
  have z0 := H2.out.1.c0
  have hsy := symbols_any A n0 c0 xs sz u1 (HX.out.1.kept (by rw [HQ.out]; exact H2.out.2)) HX.out.2.1
  have HS := Lib.hid hsy
  clear hsy
  go_wp2_with fail
  (with_reducible refine HS.out.mono ?_)
  clear z0
  rintro e u2 ⟨v, rfl, hI⟩
  obtain ⟨B, bc, rfl, hB, hbc, hsh⟩ := own_at hI
  obtain ⟨h1, h2, h3⟩ := kind8_in sz
  have hll := cutL_len (kind8 sz) xs (min n0 60) (by rw [HX.out.2.1]; omega)
  have hin := cutL_in (kind8 sz) xs (min n0 60) (by omega)
  obtain ⟨L, hL⟩ : ∃ L, cutL (kind8 sz) xs (min n0 60) = L := ⟨_, rfl⟩
  obtain ⟨s, hs⟩ : ∃ s, kind8 sz = s := ⟨_, rfl⟩
  rw [hL] at hB hll hin hbc ⊢
  rw [hs] at hin h1 h2 ⊢
  obtain ⟨n, hn⟩ : ∃ n, L.length = n := ⟨_, rfl⟩
  rw [hn] at hll hbc ⊢
  have hn60 : n ≤ 60 := by omega
  have hq := H2.out.1.kept hI.2
  have hb2 := H2.out.2.trans (hI.2.mono (by have := H2.out.1.lt; omega))
  have hnw := fnew_any marked_said B n bc L s u2 hB hn (by omega) h1 (by omega) hin
  have HN := Lib.hid (And.intro hnw (And.intro hB (And.intro hq (And.intro hb2 (And.intro hin (And.intro hn hsh))))))
  have hsz : s ≤ 8 := h2
  clear hI hB hll hin hL hs hn hq hb2 hnw h1 h2 h3 H2 HS hsh
  go_wp2_with fail
  (with_reducible refine HN.out.1.mono ?_)
  rintro e u3 ⟨F, rfl, hF, hb⟩
  have hq3 := HN.out.2.2.1.kept hb
  have hb3 := HN.out.2.2.2.1.trans (hb.mono (by have := HN.out.2.2.1.lt; omega))
  have hB3 := HN.out.2.1.kept hb
  have hm3 := MX.boxed (w := u3) hF (Below.refl _ _)
  go_upto_region 4 with fail
  have hba := mbel u3 F
  obtain ⟨u4, hu4⟩ : ∃ u4, u3.alloc (.cells #[.int .i64 (F.N : Int), .int .i64 F.Z, .slice F.wa F.wW F.wc, .int .i64 (F.R.n : Int), .slice F.R.a F.R.m F.R.c, .int .i64 (F.R.cn : Int), .int .i64 (F.R.cW : Int), .int .i64 (F.R.cL : Int), .slice F.R.a2 F.R.m2 F.R.c2, .int .i64 (F.S.n : Int), .int .i64 (F.S.W : Int), .int .i64 (F.S.L : Int), .slice F.S.a F.S.m F.S.c, .int .i64 (F.P.n : Int), .int .i64 (F.P.W : Int), .int .i64 (F.P.L : Int), .slice F.P.a F.P.m F.P.c] 36) = u4 := ⟨_, rfl⟩
  rw [hu4] at hm3 hba
  rw [hu4]
  obtain ⟨bx, hbx⟩ : ∃ bx, u3.heap.size = bx := ⟨_, rfl⟩
  rw [hbx] at hm3
  simp only [hbx]
  have hG : FG w qb u3 bx F L s sz raw fr m B u4 := ⟨hm3, hq3.kept hba, hb3.trans (hba.mono (by have := hq3.lt; omega)), hB3.kept hba, by have := hq3.lt; have := hba.size; omega⟩
  have H4 := Lib.hid hG
  have HL := Lib.hid (And.intro HN.out.2.2.2.2.1 (And.intro HN.out.2.2.2.2.2.1 HN.out.2.2.2.2.2.2))
  clear hF hb hq3 hb3 hB3 hm3 hba hu4 hbx hG HN
  have z0 := H4.out.aq.c0
  have hPu : ∀ u, Below qb w u → NumsAt .i64 u P ps := fun u h => HX.out.2.2.1.kept (by rw [HQ.out]; exact h)
  have hsp := symbols_any P np cp ps sz u4 (hPu u4 H4.out.bel) HX.out.2.2.2
  have HP := Lib.hid hPu
  have HS := Lib.hid hsp
  clear hsp hPu
  go_wp2_with fail
  (with_reducible refine HS.out.mono ?_)
  clear z0
  rintro e u5 ⟨v, rfl, hI⟩
  obtain ⟨R, rc, rfl, hR, hrc, hrsh⟩ := own_at hI
  obtain ⟨r0, hr0⟩ : ∃ r0, cutL (kind8 sz) ps (min np 60) = r0 := ⟨_, rfl⟩
  rw [hr0] at hR hrc ⊢
  have H5 := Lib.hid (And.intro (H4.out.kept hI.2) hR)
  clear hI hR hr0 H4 HS
  have z1 := H5.out.1.aq.c1
  go_upto_if 44 with fail
  go_cut [12] from 45 to 45 (fun v12 wx => ∃ (P' : Option Addr) (pc' : Nat) (rs : List Int), v12 = .slice P' rs.length pc' ∧ NumsAt .i64 wx P' rs ∧ rs.length ≤ pc' ∧ FG w qb u3 bx F L s sz raw fr m B wx)
  case first =>
    cases raw with
    | false =>
      go_wp2
      go_meet
      exact ⟨R, rc, r0, rfl, H5.out.2, hrc, H5.out.1⟩
    | true =>
      go_wp2
      go_meet
      exact ⟨P, cp, ps, by rw [HX.out.2.2.2], HP.out _ H5.out.1.bel, by rw [HX.out.2.2.2]; exact hpc, H5.out.1⟩
  case rest =>
    obtain ⟨P', pc', rs, rfl, hrs, hlc, hG⟩ := hcut
    have hfw := few_any P' rs.length pc' 10 wc hlc
    rw [show ((10 : Nat) : Int) = (10 : Int) from rfl] at hfw
    have htk := hrs.take (min rs.length 10)
    have htl : (rs.take (min rs.length 10)).length = min rs.length 10 := by rw [List.length_take]; omega
    obtain ⟨r, hr⟩ : ∃ r, rs.take (min rs.length 10) = r := ⟨_, rfl⟩
    rw [hr] at htk htl
    obtain ⟨k, hk⟩ : ∃ k, min rs.length 10 = k := ⟨_, rfl⟩
    rw [hk] at htl hfw
    have hk10 : k ≤ 10 := by omega
    have H6 := Lib.hid (And.intro hfw (And.intro htk (And.intro htl hG)))
    clear hrs hlc hG hfw htk htl hr hk H5 z1 hrc hrsh
    go_wp2_with fail
    (with_reducible refine H6.out.1.mono ?_)
    rintro e u6 ⟨rfl, rfl⟩
    have hG := H6.out.2.2.2
    have hrg := range_mx hG.mx P' k pc' r H6.out.2.1 H6.out.2.2.1 (by omega)
    have HR := Lib.hid hrg
    clear hG hrg
    go_wp2_with (refine load36 H6.out.2.2.2.mx.box _ (by with_reducible rfl) rfl rfl ?_)
    (with_reducible refine HR.out.mono ?_)
    rintro e u7 ⟨rfl, hb, -⟩
    have hmo := frN_mono L r
    have hle := frN_le L true r
    have hfl := fndL_len H6.out.2.2.2.mx.fm.i64 H6.out.2.2.2.mx.fm.nn r
    have hG7 := H6.out.2.2.2.kept hb
    have hr7 := H6.out.2.1.kept hb
    have hrr := rrange_any B P' n k bc pc' L r u7 hG7.nums hr7 HL.out.2.1 H6.out.2.2.1 (by omega) (by omega) hbc HL.out.2.2 hG7.mx.fm.i64 hG7.mx.fm.nn
    have hrl := H6.out.2.2.1
    obtain ⟨f, hf⟩ : ∃ f, frN L false r = f := ⟨_, rfl⟩
    obtain ⟨t, ht⟩ : ∃ t, frN L true r = t := ⟨_, rfl⟩
    rw [hf, ht] at hmo hfl hrr ⊢
    rw [ht] at hle
    have hLn := HL.out.2.1
    have H7 := Lib.hid (And.intro hrr (And.intro hG7 (And.intro hr7 (And.intro hrl (And.intro hfl hLn)))))
    have hel : (fndL L r).length ≤ 100 := by omega
    have htf : f ≤ t ∧ t ≤ 61 := by omega
    clear hrr hG7 hr7 hf ht hb hmo hle hrl hfl hLn HR H6
    go_wp2_with fail
    (with_reducible refine H7.out.1.mono ?_)
    rintro e u8 ⟨rfl, hb⟩
    have H8 := Lib.hid (And.intro (H7.out.2.1.kept hb) (H7.out.2.2.1.kept hb))
    clear hb
    go_wp2_with (refine load36 H8.out.1.mx.box _ (by with_reducible rfl) rfl rfl ?_)
    (with_reducible refine (find_mx H8.out.1.mx P' k pc' r H8.out.2 H7.out.2.2.2.1 (by omega)).mono ?_)
    rintro e u9 ⟨C, cc, rfl, hC, hb, -⟩
    have H9 := Lib.hid (And.intro (H8.out.1.kept hb) (And.intro (H8.out.2.kept hb) hC))
    clear hC hb H8
    go_wp2_with fail
    (with_reducible refine (rfind_any B P' n k bc pc' L r u9 H9.out.1.nums H9.out.2.1 H7.out.2.2.2.2.2 H7.out.2.2.2.1 (by omega) (by omega)).mono ?_)
    rintro e u10 ⟨v, rfl, hI⟩
    obtain ⟨C2, c2, rfl, hC2, -, -⟩ := own_at hI
    have hs := rsame_any C C2 (fndL L r).length (fndL L r).length cc c2 (fndL L r) (fndL L r) u10 (H9.out.2.2.kept hI.2) hC2 rfl rfl (by omega)
    rw [decide_eq_true rfl] at hs
    have H10 := Lib.hid (And.intro hs (And.intro (H9.out.1.kept hI.2) (H9.out.2.1.kept hI.2)))
    clear hs hC2 hI H9
    obtain ⟨el, hele⟩ : ∃ el, (fndL L r).length = el := ⟨_, rfl⟩
    rw [hele] at hel H10 ⊢
    have q9 : IntKind.i64.wrap ((t : Int) - (f : Int)) = (el : Int) := by
      have h1 := H7.out.2.2.2.2.1
      rw [show (t : Int) - (f : Int) = (el : Int) by omega]
      exact IntWalk.i64_in _ (by omega)
    have HEL := Lib.hid hele
    clear hele
    go_wp2_with fail
    (with_reducible refine H10.out.1.mono ?_)
    rintro e u11 ⟨rfl, hb⟩
    have hA := H10.out.2.1.kept hb
    have hr11 := (H10.out.2.2.kept hb).kept ((Below.refl _ _).drew)
    have hexl := exL_len L fr m
    have hel2 : (exL L fr m).length ≤ 100 := by rw [hexl, H7.out.2.2.2.2.2]; omega
    have HE2 := Lib.hid hel2
    clear hb H10 hexl hel2
    go_upto_region 13 with fail
    try simp only [List.append_eq, List.cons_append, List.nil_append]
    refine wp_region_held_drew (S := fun w' => FG w qb u3 bx F L s sz raw fr m B w') (by kernel_rfl) (hA.drew) (fun hHeld => ?_)
    replace hA := hA.drew
    refine wpAnyH_take (i := 0) (oi := ⟨some 67, _, _, _, _, _⟩) rfl (by kernel_rfl) (by kernel_rfl) (by kernel_rfl) (fun _ _ _ h => h) (yieldsIf_load_mid (by kernel_rfl) 36 _ rfl _ 0 rfl [.int .i64 (F.N : Int), .int .i64 F.Z, .slice F.wa F.wW F.wc, .int .i64 (F.R.n : Int), .slice F.R.a F.R.m F.R.c, .int .i64 (F.R.cn : Int), .int .i64 (F.R.cW : Int), .int .i64 (F.R.cL : Int), .slice F.R.a2 F.R.m2 F.R.c2, .int .i64 (F.S.n : Int), .int .i64 (F.S.W : Int), .int .i64 (F.S.L : Int), .slice F.S.a F.S.m F.S.c, .int .i64 (F.P.n : Int), .int .i64 (F.P.W : Int), .int .i64 (F.P.L : Int), .slice F.P.a F.P.m F.P.c] _ (fun w hw => MBx.range (MX.box (FG.mx hw))) Tryz.underlying36 rfl (by kernel_rfl)) (by assumption) ?_
    try simp only [Act.put, List.setIfInBounds_toArray, List.set_cons_zero, List.set_cons_succ]
    refine wpAnyH_take (i := 1) (oi := ⟨some 68, _, _, _, _, _⟩) (v := ?_) rfl (by kernel_rfl) (by kernel_rfl) (by kernel_rfl) (fun _ _ _ h => h) (Or.inl ⟨by kernel_rfl, ?_⟩) (by assumption) ?_
    case refine_2 => (intro w hSw; go_simp; try (with_reducible rfl))
    try simp only [Act.put, List.setIfInBounds_toArray, List.set_cons_zero, List.set_cons_succ]
    refine wpAnyH_take (i := 2) (oi := ⟨some 69, _, _, _, _, _⟩) (v := ?_) rfl (by kernel_rfl) (by kernel_rfl) (by kernel_rfl) (fun _ _ _ h => h) (Or.inl ⟨by kernel_rfl, ?_⟩) (by assumption) ?_
    case refine_2 => (intro w hSw; have y0 := (FG.aq hSw).c0; have y1 := (FG.aq hSw).c1; have y2 := (FG.aq hSw).c2; have y3 := (FG.aq hSw).c3; go_simp; try (with_reducible rfl))
    try simp only [Act.put, List.setIfInBounds_toArray, List.set_cons_zero, List.set_cons_succ]
    refine wpAnyH_take (i := 3) (oi := ⟨some 70, _, _, _, _, _⟩) (v := ?_) rfl (by kernel_rfl) (by kernel_rfl) (by kernel_rfl) (fun _ _ _ h => h) (Or.inl ⟨by kernel_rfl, ?_⟩) (by assumption) ?_
    case refine_2 => (intro w hSw; go_simp; try (with_reducible rfl))
    try simp only [Act.put, List.setIfInBounds_toArray, List.set_cons_zero, List.set_cons_succ]
    refine wpAnyH_take (i := 4) (oi := ⟨some 71, _, _, _, _, _⟩) (v := ?_) rfl (by kernel_rfl) (by kernel_rfl) (by kernel_rfl) (fun _ _ _ h => h) (Or.inl ⟨by kernel_rfl, ?_⟩) (by assumption) ?_
    case refine_2 => (intro w hSw; have y0 := (FG.aq hSw).c0; have y1 := (FG.aq hSw).c1; have y2 := (FG.aq hSw).c2; have y3 := (FG.aq hSw).c3; go_simp; try (with_reducible rfl))
    try simp only [Act.put, List.setIfInBounds_toArray, List.set_cons_zero, List.set_cons_succ]
    refine wpAnyH_take (i := 6) (oi := ⟨some 73, _, _, _, _, _⟩) (v := ?_) rfl (by kernel_rfl) (by kernel_rfl) (by kernel_rfl) (fun _ _ _ h => h) (Or.inl ⟨by kernel_rfl, ?_⟩) (by assumption) ?_
    case refine_2 => (intro w hSw; go_simp; try (with_reducible rfl))
    try simp only [Act.put, List.setIfInBounds_toArray, List.set_cons_zero, List.set_cons_succ]
    refine wpAnyH_take (i := 7) (oi := ⟨some 74, _, _, _, _, _⟩) (v := ?_) rfl (by kernel_rfl) (by kernel_rfl) (by kernel_rfl) (fun _ _ _ h => h) (Or.inl ⟨by kernel_rfl, ?_⟩) (by assumption) ?_
    case refine_2 => (intro w hSw; go_simp; try (with_reducible rfl))
    try simp only [Act.put, List.setIfInBounds_toArray, List.set_cons_zero, List.set_cons_succ]
    refine wpAnyH_take (i := 8) (oi := ⟨some 75, _, _, _, _, _⟩) (v := ?_) rfl (by kernel_rfl) (by kernel_rfl) (by kernel_rfl) (fun _ _ _ h => h) (Or.inl ⟨by kernel_rfl, ?_⟩) (by assumption) ?_
    case refine_2 => (intro w hSw; have y0 := (FG.aq hSw).c0; have y1 := (FG.aq hSw).c1; have y2 := (FG.aq hSw).c2; have y3 := (FG.aq hSw).c3; go_simp; try (with_reducible rfl))
    try simp only [Act.put, List.setIfInBounds_toArray, List.set_cons_zero, List.set_cons_succ]
    refine wpAnyH_take (i := 9) (oi := ⟨some 76, _, _, _, _, _⟩) (v := ?_) rfl (by kernel_rfl) (by kernel_rfl) (by kernel_rfl) (fun _ _ _ h => h) (Or.inl ⟨by kernel_rfl, ?_⟩) (by assumption) ?_
    case refine_2 => (intro w hSw; go_simp; try (with_reducible rfl))
    try simp only [Act.put, List.setIfInBounds_toArray, List.set_cons_zero, List.set_cons_succ]
    refine wpAnyH_take (i := 10) (oi := ⟨some 77, _, _, _, _, _⟩) (v := ?_) rfl (by kernel_rfl) (by kernel_rfl) (by kernel_rfl) (fun _ _ _ h => h) (Or.inl ⟨by kernel_rfl, ?_⟩) (by assumption) ?_
    case refine_2 => (intro w hSw; have y0 := (FG.aq hSw).c0; have y1 := (FG.aq hSw).c1; have y2 := (FG.aq hSw).c2; have y3 := (FG.aq hSw).c3; go_simp; try (with_reducible rfl))
    try simp only [Act.put, List.setIfInBounds_toArray, List.set_cons_zero, List.set_cons_succ]
    refine wpAnyH_ready (rs := [5]) (by kernel_rfl) (by simp) ?_
    refine AllReadyH.cons rfl (fun K hK => ?_) AllReadyH.nil
    go_simp
    (with_reducible refine (extract_mx hA.mx fr m hm hm2).mono ?_)
    rintro e u12 ⟨D, rfl, hD, hb, -⟩
    replace hA := hA.kept hb
    replace hr11 := hr11.kept hb
    clear hb
    clear hHeld
    refine hK.out _ _ (hA) (fun hHeld => ?_)
    clear hK K
    try simp only [Act.put, List.setIfInBounds_toArray, List.set_cons_zero, List.set_cons_succ]
    refine wpAnyH_ready (rs := [11]) (by kernel_rfl) (by simp) ?_
    refine AllReadyH.cons rfl (fun K hK => ?_) AllReadyH.nil
    go_simp
    (with_reducible refine (rextract_any B n bc L fr m _ hA.nums H7.out.2.2.2.2.2 (by omega)).mono ?_)
    rintro e u13 ⟨v, rfl, hI⟩
    obtain ⟨D2, d2, rfl, hD2, -, -⟩ := own_at hI
    replace hD := hD.kept hI.2
    replace hA := hA.kept hI.2
    replace hr11 := hr11.kept hI.2
    clear hI
    clear hHeld
    refine hK.out _ _ (hA) (fun hHeld => ?_)
    clear hK K
    try simp only [Act.put, List.setIfInBounds_toArray, List.set_cons_zero, List.set_cons_succ]
    refine wpAnyH_ready (rs := [12]) (by kernel_rfl) (by simp) ?_
    refine AllReadyH.cons rfl (fun K hK => ?_) AllReadyH.nil
    go_simp
    (with_reducible refine (rsame_any (some ⟨D, 0, none⟩) D2 (exL L fr m).length (exL L fr m).length (exL L fr m).length d2 (exL L fr m) (exL L fr m) _ hD hD2 rfl rfl (by have := HE2.out; omega)).mono ?_)
    rintro e u14 ⟨rfl, hb⟩
    rw [decide_eq_true rfl]
    replace hA := hA.kept hb
    replace hr11 := hr11.kept hb
    clear hb
    clear hHeld
    refine hK.out _ _ (hA) (fun hHeld => ?_)
    clear hK K
    try simp only [Act.put, List.setIfInBounds_toArray, List.set_cons_zero, List.set_cons_succ]
    refine wpAnyH_take (i := 13) (oi := ⟨some 19, _, _, _, _, _⟩) (v := ?_) rfl (by kernel_rfl) (by kernel_rfl) (by kernel_rfl) (fun _ _ _ h => h) (Or.inl ⟨by kernel_rfl, ?_⟩) (by assumption) ?_
    case refine_2 => (intro w hSw; go_simp; try (with_reducible rfl))
    try simp only [Act.put, List.setIfInBounds_toArray, List.set_cons_zero, List.set_cons_succ]
    refine wpAnyH_done (by kernel_rfl) ?_ _
    clear hHeld
    have H13 := Lib.hid (And.intro hA hr11)
    clear hA hr11
    go_wp2_with (refine load36 H13.out.1.mx.box _ (by with_reducible rfl) rfl rfl ?_)
    (with_reducible refine (count_mx H13.out.1.mx P' k pc' r H13.out.2 H7.out.2.2.2.1 (by omega)).mono ?_)
    rintro e u15 ⟨rfl, hb, -⟩
    rw [HEL.out]
    have HB := Lib.hid (H13.out.1.bel.trans (hb.mono H13.out.1.lt))
    clear hb
    go_wp2
    go_ret
    exact ⟨rfl, by rw [HQ.out]; exact HB.out⟩

end Go.Proofs.YtbcjepkfjbibfaaGreat
