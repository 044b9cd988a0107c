/- The walk of OrderSets. -/
import Derived.Test.YtjijkiafjlfeiaaOW
import Derived.Test.YtjijkiafjlfeiaaOM
import Derived.Test.YtjijkiafjlfeiaaLess
set_option maxRecDepth 100000
namespace Go.Proofs.Ytjijkiafjlfeiaa
open Go.RowKit
open M
attribute [local go_sem ↓] Go.wp_at_zero Go.wp_at_succ

theorem has_rs (P : Nat → Bool) (i : Nat) (h : i < 64) : decide ((i : Int) ∈ rsL P 64) = P i := by
  by_cases hp : P i = true
  · rw [hp]
    exact decide_eq_true (rsL_mem.2 ⟨i, rfl, h, hp⟩)
  · have : P i = false := by simpa using hp
    rw [this]
    refine decide_eq_false fun hm => ?_
    obtain ⟨j, e1, -, e3⟩ := rsL_mem.1 hm
    obtain rfl : i = j := by omega
    exact hp e3

/-- Three lists of the call's own that grow, apart from each other. -/
structure T3 (w : World) (x y z : Value) (a b c : List Int) (u : World) : Prop where
  ox : u.ownsRow w.heap.size 3 1 x a.length (a.map (Value.int .i64))
  oy : u.ownsRow w.heap.size 3 1 y b.length (b.map (Value.int .i64))
  oz : u.ownsRow w.heap.size 3 1 z c.length (c.map (Value.int .i64))
  xy : Dj x y
  xz : Dj x z
  yz : Dj y z
  bel : Below w.heap.size w u
variable {w u u' : World} {x y z x' : Value} {a b c a' : List Int}
theorem T3.kept (h : T3 w x y z a b c u) (hb : Below u.heap.size u u') : T3 w x y z a b c u' :=
  ⟨own_kept h.ox hb, own_kept h.oy hb, own_kept h.oz hb, h.xy, h.xz, h.yz, h.bel.trans (hb.mono h.bel.size)⟩
theorem T3.app (h : T3 w x y z a b c u) (hown : u'.ownsRow w.heap.size 3 1 x' a'.length (a'.map (Value.int .i64))) (hg : u.grownBy u' x.ownBlock) (hat : x'.ownBlock = x.ownBlock ∨ x'.ownBlock = some u.heap.size) : T3 w x' y z a' b c u' := by
  have hk : Kp (fun k => x.ownBlock = some k) u u' := (Kp.refl _ u).grown hg (fun k hk _ => hk)
  have hlo : ∀ k, x.ownBlock = some k → w.heap.size ≤ k := fun k e => (h.ox.lt k e).1
  have fr : ∀ k, x'.ownBlock = some k → x.ownBlock = some k ∨ u.heap.size ≤ k := fun k e => by
    rcases hat with e2 | e2
    · rw [e2] at e; exact .inl e
    · rw [e2] at e; right; simp at e; omega
  refine ⟨hown, own_kp h.oy hk (fun k e e2 => h.xy k e2 e), own_kp h.oz hk (fun k e e2 => h.xz k e2 e), Dj.fresh h.xy fr (fun k e => (h.oy.lt k e).2), Dj.fresh h.xz fr (fun k e => (h.oz.lt k e).2), h.yz, h.bel.trans (hk.toBelow h.bel.size (fun k hk e => by have := hlo _ e; omega))⟩
theorem T3.rot (h : T3 w x y z a b c u) : T3 w y z x b c a u := ⟨h.oy, h.oz, h.ox, h.yz, h.xy.symm, h.xz.symm, h.bel⟩
theorem T3.start (w : World) : T3 w (.slice none 0 0) (.slice none 0 0) (.slice none 0 0) [] [] [] w :=
  ⟨World.ownsRow_nil _ _ _ _, World.ownsRow_nil _ _ _ _, World.ownsRow_nil _ _ _ _, fun k e => by simp [Value.ownBlock] at e, fun k e => by simp [Value.ownBlock] at e, fun k e => by simp [Value.ownBlock] at e, Below.refl _ _⟩

set_option maxHeartbeats 8000000 in
theorem sets_walk (A : Option Addr) (n0 c0 : Nat) (xs : List Int) (B : Option Addr) (m0 d0 : Nat) (ys : List Int) (C : Option Addr) (k0 e0 : Nat) (zs : List Int) (w : World) (hA : NumsAt .i64 w A xs) (hx : xs.length = n0) (hB : NumsAt .i64 w B ys) (hy : ys.length = m0) (hC : NumsAt .i64 w C zs) (hz : zs.length = k0) (he : k0 ≤ e0) :
    Calls Try.prog 6 #[.slice A n0 c0, .slice B m0 d0, .slice C k0 e0] w fun e w' => e = .returned (.bool true) ∧ Below w.heap.size w w' := by
  obtain ⟨n, hn⟩ : ∃ n, n = min k0 40 := ⟨_, rfl⟩
  have hn40 : n ≤ 40 := by omega
  have hzn := hC.take n
  have hzl : (zs.take n).length = n := by rw [List.length_take]; omega
  have hfw := fun u => few_any C k0 e0 u he
  rw [← hn] at hfw
  clear hn hC hz he
  generalize zs.take n = Z at *
  have HX := Lib.hid (And.intro hA (And.intro hx (And.intro hB (And.intro hy (And.intro hzn hzl)))))
  have HFW := Lib.hid hfw
  clear hA hx hB hy hzn hzl hfw
  go_enter Try.func6, Try.ntmps6
  go_wp2_with fail
  refine (awake_any _).mono ?_
  rintro e w1 ⟨rfl, hb1⟩
  have hra := rising_any A n0 c0 xs w1 (HX.out.1.kept hb1) HX.out.2.1
  have HRA := Lib.hid hra
  have HB1 := Lib.hid hb1
  clear hb1 hra
  go_wp2_with fail
  (with_reducible refine HRA.out.mono ?_)
  rintro e w2 ⟨v2, P, rfl, hI2⟩
  have hb2 := HB1.out.trans (hI2.2.mono HB1.out.size)
  have hrb := rising_any B m0 d0 ys w2 (HX.out.2.2.1.kept hb2) HX.out.2.2.2.1
  obtain ⟨pa, pc, rfl, hpn, -⟩ := nums_of_own hI2.1
  have HRB := Lib.hid hrb
  have H2 := Lib.hid (And.intro hpn hb2)
  clear hrb hI2 hb2 hpn HRA HB1
  go_wp2_with fail
  (with_reducible refine HRB.out.mono ?_)
  rintro e w3 ⟨v3, Q, rfl, hI3⟩
  obtain ⟨qa, qc, rfl, hqn, -⟩ := nums_of_own hI3.1
  have hb3 := H2.out.2.trans (hI3.2.mono H2.out.2.size)
  have H3 := Lib.hid (And.intro (H2.out.1.kept hI3.2) (And.intro hqn hb3))
  have hpl := rsL_len P 64
  have hql := rsL_len Q 64
  obtain ⟨np, hnp⟩ : ∃ np, np = (rsL P 64).length := ⟨_, rfl⟩
  obtain ⟨nq, hnq⟩ : ∃ nq, nq = (rsL Q 64).length := ⟨_, rfl⟩
  rw [← hnp] at hpl
  rw [← hnq] at hql
  rw [← hnp, ← hnq]
  have HL := Lib.hid (And.intro hnp.symm hnq.symm)
  clear hqn hI3 hb3 HRB H2 hnp hnq
  go_wp2
  go_loopw [10, 11, 12, 13, 14, 15] (fun v10 v11 v12 v13 _ _ wr => ∃ i : Nat, i ≤ 64 ∧ v13 = .int .i64 (i : Int) ∧ T3 w3 v10 v11 v12 (rsL (keepR k36 P Q) i) (rsL (keepR k37 P Q) i) (rsL (keepR k38 P Q) i) wr) (fun _ _ _ v13 _ _ _ => 64 - (intOf v13).toNat)
  case atStart => exact ⟨0, Nat.zero_le _, rfl, T3.start w3⟩
  case round =>
    obtain ⟨i, hi, rfl, hT⟩ := hrel
    by_cases hlt : i < 64
    · have q1 : (i : Int) < 64 := by omega
      have h1 := has_any pa np pc (rsL P 64) (i : Int) wr (H3.out.1.kept hT.bel) HL.out.1 (by omega)
      have h2 := has_any qa nq qc (rsL Q 64) (i : Int) wr (H3.out.2.1.kept hT.bel) HL.out.2 (by omega)
      rw [has_rs P i hlt] at h1
      rw [has_rs Q i hlt] at h2
      have s1 := rsL_succ (keepR k36 P Q) i
      have s2 := rsL_succ (keepR k37 P Q) i
      have s3 := rsL_succ (keepR k38 P Q) i
      have l1 := rsL_len (keepR k36 P Q) i
      have l2 := rsL_len (keepR k37 P Q) i
      have l3 := rsL_len (keepR k38 P Q) i
      have e1 : keepR k36 P Q i = (P i || Q i) := by unfold keepR k36; simp
      have e2 : keepR k37 P Q i = (P i && Q i) := by unfold keepR k37; cases P i <;> cases Q i <;> rfl
      have e3 : keepR k38 P Q i = (P i && !Q i) := by unfold keepR k38; cases P i <;> cases Q i <;> rfl
      rw [e1] at s1
      rw [e2] at s2
      rw [e3] at s3
      have hsz := hT.bel.size
      have HT := Lib.hid hT
      have HH1 := Lib.hid h1
      have HH2 := Lib.hid h2
      have HS := Lib.hid (And.intro s1 (And.intro s2 s3))
      clear h1 h2 hT s1 s2 s3 e1 e2 e3
      generalize rsL (keepR k36 P Q) i = L1 at *
      generalize rsL (keepR k37 P Q) i = L2 at *
      generalize rsL (keepR k38 P Q) i = L3 at *
      obtain ⟨bp, hbp⟩ : ∃ bp, bp = P i := ⟨_, rfl⟩
      obtain ⟨bq, hbq⟩ : ∃ bq, bq = Q i := ⟨_, rfl⟩
      rw [← hbp] at HH1 HS
      rw [← hbq] at HH2 HS
      clear hbp hbq
      go_wp2_with fail
      (with_reducible refine HH1.out.mono ?_)
      rintro e u1 ⟨rfl, rfl⟩
      go_wp2_with fail
      (with_reducible refine HH2.out.mono ?_)
      rintro e u2 ⟨rfl, rfl⟩
      clear HH1 HH2
      rcases bp with _ | _
      · rcases bq with _ | _
        · go_wp2
          go_roundw
          case rel =>
            refine ⟨i + 1, by omega, by go_num, ?_⟩
            rw [HS.out.1, HS.out.2.1, HS.out.2.2]
            simp only [Bool.or_false, Bool.false_and, Bool.false_eq_true, if_false, List.append_nil]
            exact HT.out
          case measure => simp [intOf]; omega
        · go_wp2_with (first
            | (at_builtin
               refine wpList_append_nums rfl (.tmp 39) (.tmp 41) rfl w3.heap.size _ _ _ rfl (HT.out.kept (al _ _)).ox (some ⟨_, 0, none⟩) 1 1 [(i : Int)] rfl rfl ?c1 (by simp) ?c2 ?c3 ?_))
          case c1 => exact nums_one _ _
          case c2 => omega
          case c3 => first | omega | (simp; omega)
          intro y1 x1 hown hgrow hat
          have hT1 := ((HT.out.kept (al _ _)).app (a' := L1 ++ [(i : Int)]) (by simpa using hown) hgrow (by simpa using hat))
          have HT1 := Lib.hid hT1
          have hsz1 := hT1.bel.size
          clear hown hgrow hat hT1
          go_wp2
          go_roundw
          case rel =>
            refine ⟨i + 1, by omega, by go_num, ?_⟩
            rw [HS.out.1, HS.out.2.1, HS.out.2.2]
            simp only [Bool.or_true, Bool.false_and, Bool.false_eq_true, if_true, if_false, List.append_nil]
            exact HT1.out
          case measure => simp [intOf]; omega
      · rcases bq with _ | _
        · go_wp2_with (first
            | (at_builtin
               refine wpList_append_nums rfl (.tmp 39) (.tmp 41) rfl w3.heap.size _ _ _ rfl (HT.out.kept (al _ _)).ox (some ⟨_, 0, none⟩) 1 1 [(i : Int)] rfl rfl ?c1 (by simp) ?c2 ?c3 ?_))
          case c1 => exact nums_one _ _
          case c2 => omega
          case c3 => first | omega | (simp; omega)
          intro y1 x1 hown hgrow hat
          have hT1 := ((HT.out.kept (al _ _)).app (a' := L1 ++ [(i : Int)]) (by simpa using hown) hgrow (by simpa using hat))
          have HT1 := Lib.hid hT1
          have hsz1 := hT1.bel.size
          clear hown hgrow hat hT1
          go_wp2_with (first
            | (at_builtin
               refine wpList_append_nums rfl (.tmp 56) (.tmp 58) rfl w3.heap.size _ _ _ rfl (HT1.out.kept (al _ _)).rot.rot.ox (some ⟨_, 0, none⟩) 1 1 [(i : Int)] rfl rfl ?c1 (by simp) ?c2 ?c3 ?_))
          case c1 => exact nums_one _ _
          case c2 => omega
          case c3 => first | omega | (simp; omega)
          intro y3 x3 hown hgrow hat
          have hT3 := ((HT1.out.kept (al _ _)).rot.rot.app (a' := L3 ++ [(i : Int)]) (by simpa using hown) hgrow (by simpa using hat)).rot
          have HT3 := Lib.hid hT3
          have hsz3 := hT3.bel.size
          clear hown hgrow hat hT3
          go_wp2
          go_roundw
          case rel =>
            refine ⟨i + 1, by omega, by go_num, ?_⟩
            rw [HS.out.1, HS.out.2.1, HS.out.2.2]
            simp only [Bool.or_false, Bool.and_false, Bool.false_eq_true, Bool.not_false, Bool.and_true, if_true, if_false, List.append_nil]
            exact HT3.out
          case measure => simp [intOf]; omega
        · go_wp2_with (first
            | (at_builtin
               refine wpList_append_nums rfl (.tmp 39) (.tmp 41) rfl w3.heap.size _ _ _ rfl (HT.out.kept (al _ _)).ox (some ⟨_, 0, none⟩) 1 1 [(i : Int)] rfl rfl ?c1 (by simp) ?c2 ?c3 ?_))
          case c1 => exact nums_one _ _
          case c2 => omega
          case c3 => first | omega | (simp; omega)
          intro y1 x1 hown hgrow hat
          have hT1 := ((HT.out.kept (al _ _)).app (a' := L1 ++ [(i : Int)]) (by simpa using hown) hgrow (by simpa using hat))
          have HT1 := Lib.hid hT1
          have hsz1 := hT1.bel.size
          clear hown hgrow hat hT1
          go_wp2_with (first
            | (at_builtin
               refine wpList_append_nums rfl (.tmp 47) (.tmp 49) rfl w3.heap.size _ _ _ rfl (HT1.out.kept (al _ _)).rot.ox (some ⟨_, 0, none⟩) 1 1 [(i : Int)] rfl rfl ?c1 (by simp) ?c2 ?c3 ?_))
          case c1 => exact nums_one _ _
          case c2 => omega
          case c3 => first | omega | (simp; omega)
          intro y2 x2 hown hgrow hat
          have hT2 := ((HT1.out.kept (al _ _)).rot.app (a' := L2 ++ [(i : Int)]) (by simpa using hown) hgrow (by simpa using hat)).rot.rot
          have HT2 := Lib.hid hT2
          have hsz2 := hT2.bel.size
          clear hown hgrow hat hT2
          go_wp2
          go_roundw
          case rel =>
            refine ⟨i + 1, by omega, by go_num, ?_⟩
            rw [HS.out.1, HS.out.2.1, HS.out.2.2]
            simp only [Bool.or_true, Bool.and_true, Bool.not_true, Bool.and_false, Bool.false_eq_true, if_true, if_false, List.append_nil]
            exact HT2.out
          case measure => simp [intOf]; omega
    · obtain rfl : i = 64 := by omega
      have q1 : ¬ ((64 : Nat) : Int) < 64 := by omega
      obtain ⟨a1, b1, rfl, hn1, -⟩ := nums_of_own hT.ox
      obtain ⟨a2, b2, rfl, hn2, -⟩ := nums_of_own hT.oy
      obtain ⟨a3, b3, rfl, hn3, -⟩ := nums_of_own hT.oz
      have hp4 := H3.out.1.kept hT.bel
      have hq4 := H3.out.2.1.kept hT.bel
      have hb4 := H3.out.2.2.trans (hT.bel.mono H3.out.2.2.size)
      obtain ⟨w4, rfl⟩ : ∃ w4, w4 = wr := ⟨_, rfl⟩
      have HH := Lib.hid (And.intro hp4 (And.intro hq4 (And.intro hn1 (And.intro hn2 (And.intro hn3 hb4)))))
      have l1 := rsL_len (keepR k36 P Q) 64
      have l2 := rsL_len (keepR k37 P Q) 64
      have l3 := rsL_len (keepR k38 P Q) 64
      have hri : riseN (rsL P 64) np = true := by rw [← HL.out.1]; exact riseN_of (rsL_rise P 64)
      have HRI := Lib.hid hri
      clear hp4 hq4 hb4 hn1 hn2 hn3 hT hri H3
      have hm1 := merge_any pa qa np nq pc qc P Q w4 HH.out.1 HH.out.2.1 HL.out.1 HL.out.2
      have HM1 := Lib.hid hm1
      clear hm1
      go_wp2_with fail
      (with_reducible refine HM1.out.mono ?_)
      rintro e u5 ⟨v5, rfl, hI5⟩
      obtain ⟨r1, s1, rfl, hr1, -⟩ := nums_of_own hI5.1
      have hsa := rsame_any r1 a1 _ _ s1 b1 _ _ u5 hr1 (HH.out.2.2.1.kept hI5.2) rfl rfl (by omega)
      rw [decide_eq_true rfl] at hsa
      have HSA := Lib.hid hsa
      have H5 := Lib.hid hI5.2
      clear hsa hr1 hI5 HM1
      go_wp2_with fail
      (with_reducible refine HSA.out.mono ?_)
      rintro e u6 ⟨rfl, hb6⟩
      have hb46 := H5.out.trans (hb6.mono H5.out.size)
      have hm2 := both_any pa qa np nq pc qc P Q u6 (HH.out.1.kept hb46) (HH.out.2.1.kept hb46) HL.out.1 HL.out.2
      have HM2 := Lib.hid hm2
      have H6 := Lib.hid hb46
      clear hm2 hb6 hb46 HSA H5
      go_wp2_with fail
      (with_reducible refine HM2.out.mono ?_)
      rintro e u7 ⟨v7, rfl, hI7⟩
      obtain ⟨r2, s2, rfl, hr2, -⟩ := nums_of_own hI7.1
      have hb47 := H6.out.trans (hI7.2.mono H6.out.size)
      have hsb := rsame_any r2 a2 _ _ s2 b2 _ _ u7 hr2 (HH.out.2.2.2.1.kept hb47) rfl rfl (by omega)
      rw [decide_eq_true rfl] at hsb
      have HSB := Lib.hid hsb
      have H7 := Lib.hid hb47
      clear hsb hr2 hI7 HM2 hb47 H6
      go_wp2_with fail
      (with_reducible refine HSB.out.mono ?_)
      rintro e u8 ⟨rfl, hb8⟩
      have hb48 := H7.out.trans (hb8.mono H7.out.size)
      have hm3 := without_any pa qa np nq pc qc P Q u8 (HH.out.1.kept hb48) (HH.out.2.1.kept hb48) HL.out.1 HL.out.2
      have HM3 := Lib.hid hm3
      have H8 := Lib.hid hb48
      clear hm3 hb8 hb48 HSB H7
      go_wp2_with fail
      (with_reducible refine HM3.out.mono ?_)
      rintro e u9 ⟨v9, rfl, hI9⟩
      obtain ⟨r3, s3, rfl, hr3, -⟩ := nums_of_own hI9.1
      have hb49 := H8.out.trans (hI9.2.mono H8.out.size)
      have hsc := rsame_any r3 a3 _ _ s3 b3 _ _ u9 hr3 (HH.out.2.2.2.2.1.kept hb49) rfl rfl (by omega)
      rw [decide_eq_true rfl] at hsc
      have HSC := Lib.hid hsc
      have H9 := Lib.hid hb49
      clear hsc hr3 hI9 HM3 hb49 H8
      go_wp2_with fail
      (with_reducible refine HSC.out.mono ?_)
      rintro e u10 ⟨rfl, hb10⟩
      have hb410 := H9.out.trans (hb10.mono H9.out.size)
      have hbw := HH.out.2.2.2.2.2.trans (hb410.mono HH.out.2.2.2.2.2.size)
      have hr4 := rises_any pa np pc (rsL P 64) u10 (HH.out.1.kept hb410) HL.out.1 (by omega)
      rw [HRI.out] at hr4
      have hr5 := rises_any C n e0 Z u10 (HX.out.2.2.2.2.1.kept hbw) HX.out.2.2.2.2.2 (by omega)
      have hr6 := rrises_any C n e0 Z u10 (HX.out.2.2.2.2.1.kept hbw) HX.out.2.2.2.2.2 (by omega)
      have HR4 := Lib.hid hr4
      have HR5 := Lib.hid hr5
      have HR6 := Lib.hid hr6
      have H10 := Lib.hid hbw
      clear hr4 hr5 hr6 hb10 hb410 hbw HSC H9
      go_wp2_with fail
      (with_reducible refine (HFW.out _).mono ?_)
      rintro e u11 ⟨rfl, rfl⟩
      go_wp2_with fail
      (with_reducible refine HR4.out.mono ?_)
      rintro e u12 ⟨rfl, rfl⟩
      go_wp2_with fail
      (with_reducible refine HR5.out.mono ?_)
      rintro e u13 ⟨rfl, rfl⟩
      go_wp2_with fail
      (with_reducible refine HR6.out.mono ?_)
      rintro e u14 ⟨rfl, hb14⟩
      have HF := Lib.hid (H10.out.trans (hb14.mono H10.out.size))
      clear hb14
      generalize riseN Z n = b at *
      have q9 : (b == b) = true := by simp
      go_wp2
      go_ret
      exact ⟨rfl, HF.out⟩

end Go.Proofs.Ytjijkiafjlfeiaa
