/- The contract of joined. -/
import Derived.Test.YtdidoecigkbffaaGreatJD
import Derived.Deep.Cut
import Derived.Deep.CutRange
import Derived.Deep.LoopGhost
set_option maxRecDepth 100000
namespace Go.Proofs.YtdidoecigkbffaaGreat
open Go.RowKit
open S J

def JoinEnd (w : World) (W : List Int) (e : Ending) (u : World) : Prop :=
  ∃ g cap, e = .returned (.slice (some ⟨g, 0, none⟩) (2 * W.length - 1) cap) ∧ (∀ k, k < 2 * (W.length - 1) → u.cell? ⟨g, k * 3 + 2, none⟩ = some (.int .i64 (par W k : Nat))) ∧ w.heap.size ≤ g ∧ Below w.heap.size w u

theorem advN_ok {L t : Nat} {s : Q} (h : QH L t (2 * t) s) (j : Nat) (hj : j ≤ 2) (htj : t + j ≤ L) : QH L t (2 * t + j) (advN L s j) := by
  match j, hj with
  | 0, _ => exact h
  | 1, _ => exact (h.adv (by omega) (by omega)).1
  | 2, _ => exact ((h.adv (by omega) (by omega)).1.adv (by omega) (by omega)).1

def Wok (W : List Int) : Prop := ∀ k, k < W.length → 0 < W.getD k 0 ∧ W.getD k 0 ≤ big

theorem bw_ok {L t : Nat} {s : Q} (h : QH L t (2 * t) s) (hw : Wok s.W) (j : Nat) (hj : j ≤ 2) (htj : t + j ≤ L) : 0 ≤ bw L s j ∧ bw L s j ≤ big := by
  induction j with
  | zero => exact ⟨Int.le_refl _, by unfold bw big; omega⟩
  | succ j ih =>
    have hQ := advN_ok h j (by omega) (by omega)
    have hp := hQ.pk_lt (by omega)
    have := hw ((advN L s j).pk L) (by rw [h.len]; exact hp)
    have := ih (by omega) (by omega)
    unfold bw
    omega

theorem stp_eq {L t : Nat} {s : Q} (h : QH L t (2 * t) s) (hw : Wok s.W) (ht : t + 1 < L) : ({ advN L s 2 with W := (advN L s 2).W ++ [bw L s 2] } : Q) = s.stp L := by
  have h1 := hw (s.pk L) (by rw [h.len]; exact h.pk_lt (by omega))
  have h2 := hw ((s.adv L).pk L) (by rw [h.len]; exact (advN_ok h 1 (by omega) (by omega)).pk_lt (by omega))
  have e : bw L s 2 = min (s.W.getD (s.pk L) 0 + s.W.getD ((s.adv L).pk L) 0) big := by
    show min (min (0 + s.W.getD (s.pk L) 0) big + s.W.getD ((s.adv L).pk L) 0) big = _
    omega
  show (⟨((s.adv L).adv L).a, ((s.adv L).adv L).b, ((s.adv L).adv L).W ++ [bw L s 2], ((s.adv L).adv L).q⟩ : Q) = ⟨((s.adv L).adv L).a, ((s.adv L).adv L).b, ((s.adv L).adv L).W ++ [min (((s.adv L).adv L).W.getD (s.pk L) 0 + ((s.adv L).adv L).W.getD ((s.adv L).pk L) 0) big], ((s.adv L).adv L).q⟩
  rw [e, adv_W, adv_W]

theorem wok_run {W : List Int} (hw : Wok W) (t : Nat) (ht : t + 1 ≤ W.length) : Wok (runQ W t).W := by
  induction t with
  | zero => exact hw
  | succ t ih =>
    have hQ := (runQ_ok W t (by omega)).1
    have hi := ih (by omega)
    show Wok ((runQ W t).stp W.length).W
    rw [← stp_eq hQ hi (by omega)]
    show Wok ((advN W.length (runQ W t) 2).W ++ [bw W.length (runQ W t) 2])
    rw [advN_W]
    intro k hk
    rw [List.length_append] at hk
    simp only [List.length_cons, List.length_nil] at hk
    rw [List.getD_eq_getElem?_getD]
    by_cases h : k < (runQ W t).W.length
    · rw [List.getElem?_append_left h, ← List.getD_eq_getElem?_getD]; exact hi k h
    · rw [List.getElem?_append_right (by omega), show k - (runQ W t).W.length = 0 by omega]
      have h1 := hi ((advN W.length (runQ W t) 1).pk W.length) (by rw [hQ.len]; exact (advN_ok hQ 1 (by omega) (by omega)).pk_lt (by omega))
      have h2 := bw_ok hQ hi 1 (by omega) (by omega)
      have e : (([bw W.length (runQ W t) 2] : List Int)[0]?).getD 0 = min (bw W.length (runQ W t) 1 + (runQ W t).W.getD ((advN W.length (runQ W t) 1).pk W.length) 0) big := rfl
      rw [e]
      unfold big at *
      omega

theorem adv_eta {L t m : Nat} {s : Q} (h : QH L t m s) (hm : m < L + t) (ht : t ≤ m / 2) : ({ ({ s.adv L with q := s.q } : Q) with q := ({ s.adv L with q := s.q } : Q).q ++ [s.pk L] } : Q) = s.adv L := by
  have := (h.adv hm ht).2
  show (⟨(s.adv L).a, (s.adv L).b, (s.adv L).W, s.q ++ [s.pk L]⟩ : Q) = s.adv L
  rw [← this]

set_option maxHeartbeats 4000000 in
theorem joined_any (base : Nat) (w : World) (v : Value) (ys : List Hp) (h : HRow base w v ys) (hpos : 0 < ys.length) (hn : ys.length ≤ 39) (hwt : ∀ y ∈ ys, 0 < y.w ∧ y.w ≤ big) :
    Calls Tryz.prog 53 #[v] w (JoinEnd w (ys.map Hp.w)) := by
  have h' := h
  rcases h with ⟨-, rfl⟩ | ⟨g0, lcap, rfl, -, -, hc1, hc2, -⟩
  · simp at hpos
  · obtain ⟨L, hL⟩ : ∃ L, ys.length = L := ⟨_, rfl⟩
    obtain ⟨W, hW⟩ : ∃ W, W = ys.map Hp.w := ⟨_, rfl⟩
    have hWL : W.length = L := by rw [hW, List.length_map, hL]
    rw [hL] at hpos hn hc1 h' ⊢
    rw [← hW]
    have hcl := clone_any base (w.alloc (.cells #[.slice (some ⟨g0, 0, none⟩) L lcap] 77)) _ ys (h'.kept ((Below.refl _ _).alloc (Nat.le_refl _) _)) (by omega)
    have HCL := Lib.hid hcl
    have HH := Lib.hid (And.intro hwt (And.intro hL (And.intro hW hWL)))
    clear hcl hwt h' hL hW hWL
    go_enter Tryz.func53, Tryz.ntmps53
    go_wp2_with fail
    go_step3
    go_wp2_with fail
    refine HCL.out.mono ?_
    rintro e u1 ⟨v', rfl, hown, hb1⟩
    obtain ⟨g, cap, rfl⟩ : ∃ g cap, v' = .slice (some ⟨g, 0, none⟩) L cap := by
      rw [HH.out.2.1] at hown
      rcases hown.2 with ⟨-, e⟩ | ⟨g, cap, cur, e, -⟩
      · omega
      · exact ⟨g, cap, e⟩
    have hlv : u1.cell? ⟨w.heap.size, 0, none⟩ = some (.slice (some ⟨g0, 0, none⟩) L lcap) := by
      rw [hb1.cell (p := ⟨w.heap.size, 0, none⟩) (by simp)]; simp
    have hsz : w.heap.size < u1.heap.size := by have := hb1.size; simp at this; omega
    have HO := Lib.hid (And.intro hown (And.intro hb1 hlv))
    clear hown hb1
    go_upto_region 2 with fail
    obtain ⟨u2, hu2⟩ : ∃ u2, u2 = u1.alloc (.cells #[.slice (some ⟨g, 0, none⟩) L cap] 77) := ⟨_, rfl⟩
    have HU2 := Lib.hid hu2
    have y1 : u2.cell? ⟨w.heap.size, 0, none⟩ = some (.slice (some ⟨g0, 0, none⟩) L lcap) := by rw [hu2, cell_old _ _ _ _ hsz]; exact hlv
    have hsz2 : u2.heap.size = u1.heap.size + 1 := by rw [hu2]; simp
    have y2 : (u2.alloc (.cells #[.int .i64 0] 3)).cell? ⟨w.heap.size, 0, none⟩ = some (.slice (some ⟨g0, 0, none⟩) L lcap) := by rw [cell_old _ _ _ _ (by omega)]; exact y1
    have y3 : ((u2.alloc (.cells #[.int .i64 0] 3)).alloc (.cells #[.int .i64 0] 3)).cell? ⟨w.heap.size, 0, none⟩ = some (.slice (some ⟨g0, 0, none⟩) L lcap) := by rw [cell_old _ _ _ _ (by simp; omega)]; exact y2
    rw [← hu2]
    have HSZ := Lib.hid hsz2
    clear hu2 hlv hsz2 hsz
    go_cut [4, 5] from 11 to 12 (fun v4 v5 wx => ∃ ab nb, v4 = .pointer (some ⟨ab, 0, none⟩) ∧ v5 = .pointer (some ⟨nb, 0, none⟩) ∧ JW w w.heap.size u1.heap.size ab nb g cap (.slice (some ⟨g0, 0, none⟩) L lcap) L (Q.start W) ys wx)
    case first =>
      have hst := fun (x y ab nb : Nat) (hxy : (ab = u2.heap.size ∧ nb = u2.heap.size + 1 ∧ x = 0 ∧ y = L) ∨ (nb = u2.heap.size ∧ ab = u2.heap.size + 1 ∧ x = L ∧ y = 0)) => JW.start (w := w) (v := .slice (some ⟨g0, 0, none⟩) L lcap) HU2.out (by have := HO.out.1; rw [HH.out.2.1] at this; simpa using this) HO.out.2.1 HH.out.2.1 HH.out.2.2.1 ab nb hxy
      have HST := Lib.hid hst
      clear hst
      go_big_region
      all_goals (go_wp2; go_meet)
      · exact ⟨_, _, rfl, rfl, HST.out 0 L _ _ (.inl ⟨rfl, rfl, rfl, rfl⟩)⟩
      · exact ⟨_, _, rfl, rfl, HST.out L 0 _ _ (.inr ⟨rfl, rfl, rfl, rfl⟩)⟩
    case rest =>
      obtain ⟨ab, nb, rfl, rfl, hJ⟩ := hcut
      have HJ := Lib.hid hJ
      clear hJ HO HU2 HSZ y1 y2 y3 HCL
      generalize w.heap.size = lbx at *
      generalize u1.heap.size = hbx at *
      have hwk : Wok W := fun k hk => by
        have hk' : k < ys.length := by have := HH.out.2.2.2; have := HH.out.2.1; omega
        rw [HH.out.2.2.1, List.getD_eq_getElem?_getD, List.getElem?_map, List.getElem?_eq_getElem hk']
        exact HH.out.1 _ (List.getElem_mem hk')
      have HWK := Lib.hid (And.intro hwk HH.out.2.2.2)
      clear hwk HH
      go_wp2
      go_step3
      go_wp2
      go_loopg [7, 8] L (fun g1 _ _ wr => ∃ (t gg cp : Nat) (H : List Hp), t + 1 ≤ L ∧ L - t ≤ g1 ∧ JW w lbx hbx ab nb gg cp (.slice (some ⟨g0, 0, none⟩) L lcap) L (runQ W t) H wr)
      case atStart => exact ⟨0, g, cap, ys, by omega, by omega, HJ.out⟩
      case round =>
        obtain ⟨t, gg, cp, H, htL, hg1, hJ⟩ := hrel
        have hQ := (runQ_ok W t (by rw [HWK.out.2]; exact htL)).1
        have hwk := wok_run HWK.out.1 t (by rw [HWK.out.2]; exact htL)
        rw [HWK.out.2] at hQ
        obtain ⟨s, hs⟩ : ∃ s, s = runQ W t := ⟨_, rfl⟩
        rw [← hs] at hJ hQ hwk
        obtain ⟨T, hT⟩ : ∃ T, T = L + t := ⟨_, rfl⟩
        have hHT : H.length = T := by rw [← hJ.len, hQ.len, hT]
        obtain ⟨kb, hkb⟩ : ∃ kb, kb = wr.heap.size := ⟨_, rfl⟩
        have hJ0 := hJ.kept ((Below.refl wr.heap.size wr).alloc (Nat.le_refl _) (.cells #[.int .i64 0, .int .i64 0, .int .i64 0] 81))
        have hB0 : Bo kb (bw L s 0) (wr.alloc (.cells #[.int .i64 0, .int .i64 0, .int .i64 0] 81)) := by
          rw [hkb]
          exact ⟨by rw [cell_new _ _ _ _ _ rfl]; rfl, by rw [cell_new _ _ _ _ _ rfl]; rfl, by rw [cell_new _ _ _ _ _ rfl]; rfl, frozen_new _ _ _ _ _ rfl⟩
        have hkn : kb ≠ lbx ∧ kb ≠ hbx ∧ kb ≠ ab ∧ kb ≠ nb ∧ w.heap.size ≤ kb := by
          have k1 := World.block_lt_of_cell? wr _ hJ.cl
          have k2 := World.block_lt_of_cell? wr _ hJ.ch
          have k3 := World.block_lt_of_cell? wr _ hJ.ca
          have k4 := World.block_lt_of_cell? wr _ hJ.cn
          have k5 := hJ.bel.size
          simp only at k1 k2 k3 k4
          omega
        have hkg : kb ≠ gg := by
          have := (hJ.own.lt gg rfl).2
          omega
        have HK := Lib.hid (And.intro hQ (And.intro hwk (And.intro hs (And.intro hT hkn))))
        have HJ0 := Lib.hid (And.intro hJ0 (And.intro hB0 hHT))
        clear hQ hwk hs hkn hJ0 hB0 hHT hJ HJ hT
        go_wp2
        rw [← hkb]
        generalize wr.alloc (.cells #[.int .i64 0, .int .i64 0, .int .i64 0] 81) = wr0 at *
        clear hkb
        go_loopg [8, 14] 2 (fun g2 _ v14 wq => ∃ (j : Nat) (H' : List Hp), j ≤ 2 ∧ 2 - j ≤ g2 ∧ v14 = .int .i64 (j : Int) ∧ t + j ≤ L ∧ H'.length = T ∧ JW w lbx hbx ab nb gg cp (.slice (some ⟨g0, 0, none⟩) L lcap) L (advN L s j) H' wq ∧ Bo kb (bw L s j) wq)
        case atStart => exact ⟨0, H, by omega, by omega, rfl, by omega, HJ0.out.2.2, HJ0.out.1, HJ0.out.2.1⟩
        case round =>
          obtain ⟨j, H', hj2, hg2, rfl, htj, hHT, hJ, hB⟩ := hrel
          clear HJ0
          by_cases hjl : j < 2
          · have q1 : (j : Int) < 2 := by omega
            have hQj := advN_ok HK.out.1 j hj2 htj
            have hlt := light_jw hJ (by have := hQj.hbt; have := HK.out.2.2.2.1; omega) (by have := HK.out.2.2.2.1; omega) (by have := HK.out.2.2.2.1; omega)
            have HLT := Lib.hid hlt
            have HQJ := Lib.hid (And.intro hQj hHT)
            have HB := Lib.hid hB
            clear hlt hJ hB hQj hHT
            go_wp2_with fail
            refine HLT.out.mono ?_
            rintro e u3 ⟨rfl, hJ3, hk3⟩
            clear HLT
            have hB3 := HB.out.kp hk3 (by have := HK.out.2.2.2.2; omega)
            have c1 := hJ3.ch
            rw [HQJ.out.2] at c1
            have z1 := hJ3.zh
            have hTe := HK.out.2.2.2.1
            by_cases hv : t + j < L
            · have hpk := HQJ.out.1.pk_lt (by omega)
              have hin := hJ3.into (k := (advN L s j).pk L) (by rw [HQJ.out.2]; omega) T HQJ.out.1.pk_new (by show T = L + (advN L s j).q.length / 2; rw [HQJ.out.1.qlen]; omega)
              rw [adv_eta HQJ.out.1 (by omega) (by omega)] at hin
              have hw3 := hin.li.wt ((advN L s j).pk L) (by rw [List.length_set, HQJ.out.2]; omega)
              have hc3 := hin.ch
              rw [List.length_set, HQJ.out.2] at hc3
              have hzz := hJ3.own.frozenAt ((advN L s j).pk L * 3 + 2)
              have hcc := hJ3.own.cellAt ((advN L s j).pk L * 3 + 2) (by rw [HQJ.out.2]; omega)
              rw [(hcl_at H' _ (by rw [HQJ.out.2]; omega)).2.2] at hcc
              have hB4 := hB3.kp (Kp.setCell (X := fun b => b = gg) (Kp.refl _ u3) (p := ⟨gg, (advN L s j).pk L * 3 + 2, none⟩) (.inl rfl) (.int .i64 (T : Int))) hkg
              have hwv : ((advN L s j).adv L).W.getD ((advN L s j).pk L) 0 = s.W.getD ((advN L s j).pk L) 0 := by rw [adv_W, advN_W]
              rw [hwv] at hw3
              have hy := HK.out.2.1 ((advN L s j).pk L) (by rw [HK.out.1.len]; exact hpk)
              have hx := bw_ok HK.out.1 HK.out.2.1 j hj2 htj
              have hbs : bw L s (j + 1) = min (bw L s j + s.W.getD ((advN L s j).pk L) 0) big := rfl
              have hln : (H'.set ((advN L s j).pk L) ⟨(H'.getD ((advN L s j).pk L) default).s, (H'.getD ((advN L s j).pk L) default).w, (T : Int)⟩).length = T := by rw [List.length_set]; exact HQJ.out.2
              have HIN := Lib.hid (And.intro hin (And.intro hB4 (And.intro hbs hln)))
              have d1 := hB4.c1
              have d2 := hB4.z1
              clear hin hB4 hbs hln hwv HB hk3 HQJ hB3
              generalize (advN L s j).pk L = k at *
              generalize (H'.getD k default).p = pp at *
              generalize H'.set k ⟨(H'.getD k default).s, (H'.getD k default).w, (T : Int)⟩ = H2 at *
              generalize s.W.getD k 0 = y at *
              obtain ⟨x, hxx⟩ : ∃ x, x = bw L s j := ⟨_, rfl⟩
              rw [← hxx] at HIN hx d1
              unfold big at hx hy
              have q2 : ((k : Int) == (T : Int)) = false := by simp; omega
              have q3 : (k : Int) < (T : Int) := by omega
              have q4 : (0 : Int) ≤ (k : Int) := by omega
              obtain ⟨u4, hu4⟩ : ∃ u4, u4 = u3.setCell ⟨gg, k * 3 + 2, none⟩ (.int .i64 (T : Int)) := ⟨_, rfl⟩
              rw [← hu4] at HIN d1 d2 hc3 hw3
              have HU4 := Lib.hid hu4.symm
              clear hxx hJ3 hTe hu4
              by_cases hs : x + y ≤ 1152921504606846976
              · have hs' : x + y ≤ 1152921504606846976 := hs
                go_wp2
                rw [HU4.out]
                go_big_region
                all_goals go_wp2
                go_roundg (2 - (j + 1))
                case measure => omega
                case rel =>
                  have hk := HK.out.2.2.2.2
                  have hb4 := HIN.out.2.1.set (x + y)
                  have hj4 := HIN.out.1.other (p := ⟨kb, 1, none⟩) (.int .i64 (x + y)) (by have := hk.2.2.2.2; exact this) (by show kb ≠ lbx; omega) (by show kb ≠ hbx; omega) (by show kb ≠ ab; omega) (by show kb ≠ nb; omega) hkg
                  have e : bw L s (j + 1) = (x + y) := by rw [HIN.out.2.2.1]; unfold big; omega
                  exact ⟨j + 1, H2, by omega, Nat.le_refl _, by go_num, by omega, HIN.out.2.2.2, hj4.drew, by rw [e]; exact hb4.kp ((Kp.refl (fun _ => False) _).drew) (fun h => h)⟩
              · have hs' : (1152921504606846976 : Int) < x + y := by omega
                go_wp2
                rw [HU4.out]
                go_big_region
                all_goals go_wp2
                go_roundg (2 - (j + 1))
                case measure => omega
                case rel =>
                  have hk := HK.out.2.2.2.2
                  have hb4 := HIN.out.2.1.set 1152921504606846976
                  have hj4 := HIN.out.1.other (p := ⟨kb, 1, none⟩) (.int .i64 1152921504606846976) (by have := hk.2.2.2.2; exact this) (by show kb ≠ lbx; omega) (by show kb ≠ hbx; omega) (by show kb ≠ ab; omega) (by show kb ≠ nb; omega) hkg
                  have e : bw L s (j + 1) = 1152921504606846976 := by rw [HIN.out.2.2.1]; unfold big; omega
                  exact ⟨j + 1, H2, by omega, Nat.le_refl _, by go_num, by omega, HIN.out.2.2.2, hj4.drew, by rw [e]; exact hb4.kp ((Kp.refl (fun _ => False) _).drew) (fun h => h)⟩
            · obtain rfl : j = 1 := by omega
              have hQ1 := HQJ.out.1
              have hpk : (advN L s 1).pk L = T := by
                have h1 := hQ1.ha; have h2 := hQ1.hbt; have h3 := hQ1.sum
                unfold Q.pk Q.pick pickB
                rw [if_neg (by simp only [decide_eq_true_eq]; omega)]
                omega
              have hfin : ∀ k, k < 2 * (W.length - 1) → u3.cell? ⟨gg, k * 3 + 2, none⟩ = some (.int .i64 (par W k : Nat)) := by
                intro k hk
                have hWL := HWK.out.2
                have hq1 : (advN L s 1).q = s.q ++ [s.pk L] := (HK.out.1.adv (by omega) (by omega)).2
                have hso : ordQ W = s.q := by unfold ordQ; rw [HK.out.2.2.1, hWL, show L - 1 = t by omega]
                obtain ⟨p1, p2, p3, p4, p5⟩ := par_lt (W := W) (by omega) hk
                have hil : (ordQ W).idxOf k < s.q.length := by rw [HK.out.1.qlen]; omega
                have hp := hJ3.hp ((ordQ W).idxOf k) (by show _ < (advN L s 1).q.length; rw [hq1, List.length_append]; omega)
                have e5 : (advN L s 1).q.getD ((ordQ W).idxOf k) 0 = k := by
                  rw [hq1, getD_snoc, if_pos hil, ← hso]; exact p5
                rw [show ({ (advN L s 1).adv L with q := (advN L s 1).q } : Q).q = (advN L s 1).q from rfl, e5] at hp
                rw [hJ3.own.cellAt (k * 3 + 2) (by rw [HQJ.out.2]; omega), (hcl_at H' k (by rw [HQJ.out.2]; omega)).2.2, hp]
                unfold par
                rw [hWL]
              have HF := Lib.hid (And.intro hfin (And.intro hJ3.bel (And.intro (hJ3.own.lt gg rfl).1 (show 2 * W.length - 1 = T by have := HWK.out.2; omega))))
              have q2 : ((T : Int) == (T : Int)) = true := by simp
              rw [hpk]
              clear hfin hJ3 hpk hQ1 hTe HB hB3 hk3 HQJ
              go_wp2
              rw [Exit.noGoto_ret]
              go_ret
              exact ⟨gg, cp, (by rw [HF.out.2.2.2]; rfl), HF.out.1, HF.out.2.2.1, HF.out.2.1⟩
          · obtain rfl : j = 2 := by omega
            have HJ2 := Lib.hid (And.intro hJ (And.intro hHT hB))
            have c1 := hJ.ch
            rw [hHT] at c1
            obtain ⟨d0, d1, d2, -⟩ := hB
            obtain ⟨x, hx⟩ : ∃ x, x = bw L s 2 := ⟨_, rfl⟩
            rw [← hx] at d1
            have HX := Lib.hid hx
            clear hJ hHT hx
            obtain ⟨i0, hi, hz0, hz1, hz2⟩ := info_parts info81
            go_wp2_with (first
              | (at_builtin
                 refine wpList_append_own_at _ rfl (.tmp 39) (.tmp 41) 77 rfl w.heap.size 81 i0 (.agg #[.int .i64 0, .int .i64 0, .int .i64 0]) 3 24 Tryz.underlying77 hi hz0 hz1 hz2 rfl (by omega) _ T (H'.flatMap hcl) rfl (by have := (HJ2.out.1.own.alloc (.cells #[.int .i64 0, .int .i64 x, .int .i64 0] 81)); rw [HJ2.out.2.1] at this; exact this) ⟨_, 0, none⟩ 1 1 [.int .i64 0, .int .i64 x, .int .i64 0] rfl rfl ?c1 (by simp [Value.oneCell']) ?c2 ?c3 ?c4 ?_))
            case c1 => exact World.news_of_block (cs := #[.int .i64 0, .int .i64 x, .int .i64 0]) (t := 81) (fr := (0, 0)) (heap_alloc_new _ _)
            case c2 => have := HK.out.2.2.2.1; unfold maxLen; omega
            case c3 => have := HK.out.2.2.2.1; omega
            case c4 => have := HJ2.out.1.bel.size; simp; omega
            intro v9 w5 hown hgrow _ hat
            have hown2 := hown
            obtain ⟨-, hcs⟩ := hown2
            rcases hcs with ⟨-, hcs⟩ | ⟨g', cap', cur, rfl, -, -, -, -, -, -⟩
            · omega
            · have hmore := HJ2.out.1.more (x := x) (by rw [HJ2.out.2.1]; exact hown) hgrow (by
                  simp only [Value.ownBlock] at hat
                  rcases hat with h | h
                  · left; simpa using h
                  · right; simpa using h) (fun i hi => by
                  have hQ2 := advN_ok HK.out.1 2 (by omega) htj
                  rw [hQ2.qlen] at hi
                  have := hQ2.lt i hi
                  have := HK.out.2.2.2.1
                  rw [HJ2.out.2.1]; omega)
              rw [HX.out, stp_eq HK.out.1 HK.out.2.1 (by omega), HJ2.out.2.1] at hmore
              obtain ⟨m1, m2, m3⟩ := hmore
              have hst : s.stp L = runQ W (t + 1) := by rw [HK.out.2.2.1]; show _ = (runQ W t).stp W.length; rw [HWK.out.2]
              rw [hst] at m1
              have HM := Lib.hid m1
              clear m1 hst hown hgrow hat hi hz0 hz1 hz2 d0 d1 d2 c1
              go_wp2
              go_roundg (L - (t + 1))
              case measure => omega
              case rel => exact ⟨t + 1, g', cap', _, by omega, Nat.le_refl _, HM.out⟩

/-- The closure where there are no heaps. -/
theorem light_nil (nb ab lb hb : Nat) (u : World) (cn : u.cell? ⟨nb, 0, none⟩ = some (.int .i64 0)) (ca : u.cell? ⟨ab, 0, none⟩ = some (.int .i64 0)) (cl : u.cell? ⟨lb, 0, none⟩ = some (.slice none 0 0)) (zn : u.frozen? ⟨nb, 0, none⟩ = false) :
    Calls Tryz.prog 76 #[.pointer (some ⟨nb, 0, none⟩), .pointer (some ⟨ab, 0, none⟩), .pointer (some ⟨lb, 0, none⟩), .pointer (some ⟨hb, 0, none⟩)] u fun e u' => e = .returned (.int .i64 0) ∧ ∃ n, u' = (u.drewN n).setCell ⟨nb, 0, none⟩ (.int .i64 1) := by
  have hund : undef = Value.tuple #[] := rfl
  go_enter Tryz.func76, Tryz.ntmps76
  go_wp2
  go_big_region
  all_goals go_wp2
  go_ret
  exact ⟨rfl, 1, rfl⟩

end Go.Proofs.YtdidoecigkbffaaGreat
