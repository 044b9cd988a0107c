/- The walk of ShapedFree. -/
import Derived.Test.YtdidoecigkbffaaWhole
set_option maxRecDepth 100000
namespace Go.Proofs.Ytdidoecigkbffaa
open Go.RowKit
open S J M
attribute [local go_sem ↓] Go.wp_at_zero Go.wp_at_succ

theorem bdN (w : World) (q : Nat) : Below w.heap.size w (w.drewN q) := ⟨rfl, rfl, rfl, Nat.le_refl _, fun _ _ => rfl⟩
theorem str_nil : (str []).toList.isEmpty = true := by rw [ByteArray.toList_eq]; rfl
theorem codF_nil (ys : List Hp) (c : Nat) : codF ys [] c = [] := rfl

/-- Who has a code. -/
theorem Cod.has {xs : List Int} {n : Nat} {ys : List Hp} {zs : List Int} (h : Cod xs n ys zs) {c : Nat} (hc : c < n) : codF ys zs c ≠ [] ↔ 0 < xs.getD c 0 ∧ 1 < Ytdidoecigkbffaa.many xs n := by
  have hm := h.many
  by_cases hl : 2 ≤ ys.length
  · have h1 := h.lenD hl hc
    have h2 := h.yo.dep_pos hl hc
    constructor
    · intro hne
      have := List.length_pos_iff.2 hne
      exact ⟨h2.1 (by omega), by omega⟩
    · intro hh e
      have := h2.2 hh.1
      rw [e] at h1
      simp at h1
      omega
  · rw [h.few (by omega), codF_nil]
    constructor
    · intro h; exact absurd rfl h
    · intro hh; omega
theorem pre_str {a b : List Bool} (h : ∀ s, b ≠ a ++ s) (_hl : (str a).size ≤ (str b).size) : (((str b).extract 0 (str a).size).toList == (str a).toList) = false := by
  rw [str_size, str_take, ByteArray.toList_eq, ByteArray.toList_eq]
  rw [beq_eq_false_iff_ne]
  intro e
  have e2 : str (b.take a.length) = str a := by
    have : (str (b.take a.length)).data = (str a).data := Array.toList_inj.1 e
    cases hx : str (b.take a.length)
    cases hy : str a
    rw [hx, hy] at this
    simp only at this
    rw [this]
  have e3 := str_inj e2
  exact h (b.drop a.length) (by conv => lhs; rw [← List.take_append_drop a.length b, e3])
theorem Cod.ord {xs : List Int} {n : Nat} {ys : List Hp} {zs : List Int} (h : Cod xs n ys zs) (hl : 2 ≤ ys.length) (hx : ∀ x ∈ xs, 0 ≤ x ∧ x < 1024) (hn : xs.length = n) {i k : Nat} (hi : i < n) (hk : k < n) (hp : 0 < xs.getD k 0) (hlt : xs.getD k 0 < xs.getD i 0) : (codF ys zs i).length ≤ (codF ys zs k).length := by
  rw [h.lenD hl hi, h.lenD hl hk]
  refine h.yo.order hl hi hk hp ?_
  have h1 := hx _ (memI xs i (by omega))
  have h2 := hx _ (memI xs k (by omega))
  have hb : big = 1152921504606846976 := rfl
  rw [hb]
  omega

set_option maxHeartbeats 8000000 in
theorem free_walk (A : Option Addr) (n0 c0 : Nat) (xs : List Int) (w : World) (hA : NumsAt .i64 w A xs) (hx : xs.length = n0) :
    Calls Try.prog 3 #[.slice A n0 c0] w fun e w' => e = .returned (.bool true) ∧ Below w.heap.size w w' := by
  have HX := Lib.hid (And.intro hA hx)
  clear hA hx
  go_enter Try.func3, Try.ntmps3
  go_wp2_with fail
  refine (awake_any _).mono ?_
  rintro e w1 ⟨rfl, hb1⟩
  have HB := Lib.hid hb1
  clear hb1
  go_wp2
  go_loopw [4, 5, 6, 7] (fun v4 v5 v6 _ wr => ∃ i : Nat, i ≤ n0 ∧ i ≤ 30 ∧ v6 = .int .i64 (i : Int) ∧ v5 = .int .i64 (many (mskL xs i) i : Nat) ∧ OwnI w1 v4 (mskL xs i) wr) (fun _ _ v6 _ _ => 30 - (intOf v6).toNat)
  case atStart => exact ⟨0, Nat.zero_le _, Nat.zero_le _, rfl, rfl, World.ownsRow_nil _ _ _ _, Below.refl _ _⟩
  case round =>
    obtain ⟨i, hin, hi20, rfl, rfl, hI⟩ := hrel
    by_cases hlt : i < n0 ∧ i < 30
    · obtain ⟨hl1, hl2⟩ := hlt
      obtain ⟨bb, off, hAe, hbl, hcb⟩ := num_at (HX.out.1.kept (HB.out.trans (hI.2.mono HB.out.size))) (i := i) (by rw [HX.out.2]; exact hl1)
      have hand := and1023 (xs.getD i 0)
      have hsu := mskL_succ xs i (by rw [HX.out.2]; exact hl1)
      have hml := mskL_len xs i (by rw [HX.out.2]; exact hin)
      have hma := many_app (mskL xs i) (xs.getD i 0 % 1024)
      have hmle := many_le (mskL xs i) i
      rw [hml] at hma
      have hy0 : 0 ≤ xs.getD i 0 % 1024 := by omega
      have hsz := hI.2.size
      have HM := Lib.hid (And.intro hI (And.intro hsu (And.intro hml hma)))
      subst hAe
      clear hI hsu hml hma
      generalize xs.getD i 0 % 1024 = y at *
      generalize xs.getD i 0 = x at *
      generalize many (mskL xs i) i = mn at *
      have q1 : (i : Int) < (n0 : Int) := by omega
      have q2 : (0 : Int) ≤ (i : Int) := by omega
      have q3 : (i : Int) < 30 := by omega
      go_wp2_with (first
        | (at_builtin
           refine wpList_append_nums rfl (.tmp 27) (.tmp 29) rfl w1.heap.size _ _ _ rfl (HM.out.1.alloc _).1 (some ⟨_, 0, none⟩) 1 1 [y] rfl rfl ?c1 (by simp) ?c2 ?c3 ?_))
      case c1 => exact nums_one _ _
      case c2 => rw [HM.out.2.2.1]; omega
      case c3 => first | omega | (simp; omega)
      intro v' w5 hown hgrow _
      have hI5 := (HM.out.1.alloc _).app (l' := mskL xs i ++ [y]) (by simpa using hown) hgrow
      have HX5 := Lib.hid hI5
      clear hown hgrow hI5
      by_cases hpos : 0 < y
      · go_wp2
        go_roundw
        case rel => exact ⟨i + 1, by omega, by omega, by go_num, by rw [HM.out.2.1, HM.out.2.2.2, if_pos hpos]; go_num, by rw [HM.out.2.1]; exact HX5.out⟩
        case measure => simp [intOf]; omega
      · go_wp2
        go_roundw
        case rel => exact ⟨i + 1, by omega, by omega, by go_num, by rw [HM.out.2.1, HM.out.2.2.2, if_neg hpos]; rfl, by rw [HM.out.2.1]; exact HX5.out⟩
        case measure => simp [intOf]; omega
    · have hml := mskL_len xs i (by rw [HX.out.2]; exact hin)
      obtain ⟨m, hm⟩ : ∃ m, m = mskL xs i := ⟨_, rfl⟩
      rw [← hm] at hml hI ⊢
      obtain ⟨ma, mc, rfl, hmn, -, hmc, -⟩ := nums_of_own hI.1
      have hb2 := HB.out.trans (hI.2.mono HB.out.size)
      have hco := codes_any ma i mc m wr hmn hml (by omega)
      have HCO := Lib.hid hco
      have hms := mskL_in xs i
      rw [← hm] at hms
      have HM := Lib.hid (And.intro hml (And.intro hb2 (And.intro hmn hms)))
      rw [hml]
      clear hco hb2 hI hmn hmc hml hms hm
      obtain ⟨mn, hmn⟩ : ∃ mn, mn = many m i := ⟨_, rfl⟩
      rw [← hmn]
      have hmle := many_le m i
      rw [← hmn] at hmle
      have HMN := Lib.hid hmn
      clear hmn
      obtain ⟨w2, rfl⟩ : ∃ w2, w2 = wr := ⟨_, rfl⟩
      rcases (show (¬ (i : Int) < (n0 : Int)) ∨ ((i : Int) < (n0 : Int) ∧ ¬ (i : Int) < 30) by omega) with q1 | ⟨q1, q2⟩
      all_goals
        go_wp2_with fail
        (with_reducible refine HCO.out.mono ?_)
        rintro e u2 ⟨C, ys, zs, rfl, hcod, hSR⟩
        rw [HM.out.1] at hcod hSR ⊢
        have hHas := fun c (hc : c < i) => hcod.has hc
        rw [← HMN.out] at hHas
        have hl2 : 1 < mn → 2 ≤ ys.length := fun h => by have := hcod.many; have := HMN.out; omega
        have hpre := fun (a b : Nat) (ha : a < i) (hb : b < i) (hab : a ≠ b) (h1 : 0 < m.getD a 0) (h2 : 0 < m.getD b 0) (h3 : 1 < mn) (hle : (str (codF ys zs a)).size ≤ (str (codF ys zs b)).size) => pre_str (hcod.free (hl2 h3) ha hb hab h1 h2) hle
        have hord := fun (a b : Nat) (ha : a < i) (hb : b < i) (h2 : 0 < m.getD b 0) (h3 : 1 < mn) (hlt : m.getD b 0 < m.getD a 0) => (show (str (codF ys zs a)).size ≤ (str (codF ys zs b)).size by rw [str_size, str_size]; exact hcod.ord (hl2 h3) HM.out.2.2.2 HM.out.1 ha hb h2 hlt)
        have HC := Lib.hid (And.intro hSR (And.intro hHas (And.intro hpre hord)))
        have hbu := HM.out.2.1.trans (hSR.bel.mono HM.out.2.1.size)
        have HN := Lib.hid (And.intro (HM.out.2.2.1.kept hSR.bel) hbu)
        have hsmall := fun c => hcod.len c
        have HSM := Lib.hid hsmall
        clear hcod hSR hHas hl2 hpre hord HCO hbu hsmall
        generalize codF ys zs = f at *
        have q3 : ((i : Int) == (i : Int)) = true := by simp
        obtain ⟨w3, rfl⟩ : ∃ w3, w3 = u2 := ⟨_, rfl⟩
        go_wp2
        go_loopw [9, 10] (fun v9 _ wr => ∃ k : Nat, k ≤ i ∧ v9 = .int .i64 (k : Int) ∧ Below w3.heap.size w3 wr) (fun v9 _ _ => i - (intOf v9).toNat)
        case atStart => exact ⟨0, Nat.zero_le _, rfl, Below.refl _ _⟩
        case round =>
          obtain ⟨k, hki, rfl, hbk⟩ := hrel
          by_cases hlt2 : k < i
          · have c1 := (HC.out.1.kept hbk).cell k hlt2
            obtain ⟨bb, off, hAe, -, c2⟩ := num_at (HN.out.1.kept hbk) (i := k) (by rw [HM.out.1]; exact hlt2)
            have hhas := HC.out.2.1 k hlt2
            have hx0 := (HM.out.2.2.2 _ (memI m k (by rw [HM.out.1]; exact hlt2))).1
            have hne := fun h => str_ne (l := f k) h
            have hni : f k = [] → (str (f k)).toList.isEmpty = true := fun h => by rw [h]; exact str_nil
            have HBK := Lib.hid hbk
            obtain ⟨x, hx⟩ : ∃ x, x = m.getD k 0 := ⟨_, rfl⟩
            obtain ⟨si, hsi⟩ : ∃ si, si = str (f k) := ⟨_, rfl⟩
            rw [← hx] at c2 hhas hx0
            rw [← hsi] at c1 hne hni
            have HXS := Lib.hid (And.intro hx (And.intro hsi hAe))
            subst hAe
            have q4 : (k : Int) < (i : Int) := by omega
            have q5 : (0 : Int) ≤ (k : Int) := by omega
            have hfin : ∀ nq, Below w3.heap.size w3 (wr.drewN nq) := fun nq => HBK.out.trans ((bdN wr nq).mono HBK.out.size)
            have HFIN := Lib.hid hfin
            clear hbk hx hsi hfin
            by_cases hx1 : 0 < x
            · have hxne : (x == 0) = false := by simp; omega
              have d0 : decide (0 < x) = true := decide_eq_true hx1
              by_cases hm1 : 1 < mn
              · have hem := hne (hhas.2 ⟨hx1, hm1⟩)
                have q6 : (1 : Int) < (mn : Int) := by omega
                have q7 : ¬ (mn : Int) < 2 := by omega
                clear hne hni hhas
                go_wp2
                go_quiet (fail)
                have HW4 := Lib.hid (HFIN.out nq)
                generalize wr.drewN nq = w4 at *
                go_wp2
                go_loopw [10] (fun v10 wq => ∃ j : Nat, j ≤ i ∧ v10 = .int .i64 (j : Int) ∧ Below w4.heap.size w4 wq) (fun v10 _ => i - (intOf v10).toNat)
                case atStart => exact ⟨0, Nat.zero_le _, rfl, Below.refl _ _⟩
                case round =>
                  obtain ⟨j, hji, rfl, hbj⟩ := hrel
                  by_cases hlt3 : j < i
                  · have hb0 := HW4.out.trans (hbj.mono HW4.out.size)
                    have e1 := (HC.out.1.kept hb0).cell k hlt2
                    have e2 := (HC.out.1.kept hb0).cell j hlt3
                    obtain ⟨b5, o5, h5, -, e3⟩ := num_at (HN.out.1.kept hb0) (i := k) (by rw [HM.out.1]; exact hlt2)
                    obtain ⟨b6, o6, h6, -, e4⟩ := num_at (HN.out.1.kept hb0) (i := j) (by rw [HM.out.1]; exact hlt3)
                    simp only [Option.some.injEq, Addr.mk.injEq, and_true] at h5 h6
                    obtain ⟨rfl, rfl⟩ := h5
                    obtain ⟨rfl, rfl⟩ := h6
                    rw [← HXS.out.2.1] at e1
                    rw [← HXS.out.1] at e3
                    have hy0 := (HM.out.2.2.2 _ (memI m j (by rw [HM.out.1]; exact hlt3))).1
                    have HJ := Lib.hid hbj
                    have q8 : (j : Int) < (i : Int) := by omega
                    have q9 : (0 : Int) ≤ (j : Int) := by omega
                    clear hbj hb0
                    obtain ⟨y, hy⟩ : ∃ y, y = m.getD j 0 := ⟨_, rfl⟩
                    obtain ⟨sj, hsj⟩ : ∃ sj, sj = str (f j) := ⟨_, rfl⟩
                    rw [← hy] at e4 hy0
                    rw [← hsj] at e2
                    have HYS := Lib.hid (And.intro hy hsj)
                    clear hy hsj
                    by_cases hkj : k = j
                    · subst hkj
                      have q10 : ((k : Int) == (k : Int)) = true := by simp
                      go_wp2
                      go_roundw
                      case rel => exact ⟨k + 1, by omega, by go_num, HJ.out⟩
                      case measure => simp [intOf]; omega
                    · have q10 : ((k : Int) == (j : Int)) = false := by simp; omega
                      by_cases hy1 : y = 0
                      · subst hy1
                        go_wp2
                        go_roundw
                        case rel => exact ⟨j + 1, by omega, by go_num, HJ.out⟩
                        case measure => simp [intOf]; omega
                      · have hyne : (y == 0) = false := by simpa using hy1
                        have hord := HC.out.2.2.2 k j hlt2 hlt3 (by rw [← HYS.out.1]; omega) hm1
                        have hpre := HC.out.2.2.1 k j hlt2 hlt3 hkj (by rw [← HXS.out.1]; exact hx1) (by rw [← HYS.out.1]; omega) hm1
                        rw [← HYS.out.1, ← HXS.out.1, ← HXS.out.2.1, ← HYS.out.2] at hord
                        rw [← HXS.out.2.1, ← HYS.out.2] at hpre
                        have hsi39 : si.size ≤ 1000 := by rw [HXS.out.2.1, str_size]; have := HSM.out k; omega
                        have hsj39 : sj.size ≤ 1000 := by rw [HYS.out.2, str_size]; have := HSM.out j; omega
                        by_cases hle : si.size ≤ sj.size
                        · have hpf := hpre hle
                          have g1 : decide ((si.size : Int) ≤ (sj.size : Int)) = true := decide_eq_true (by omega)
                          have g2 : decide (si.size ≤ sj.size) = true := decide_eq_true hle
                          have g3 : ¬ (sj.size : Int) < (si.size : Int) := by omega
                          have g4 : decide (sj.size < si.size) = false := decide_eq_false (by omega)
                          have g5 : decide ((sj.size : Int) < (si.size : Int)) = false := decide_eq_false (by omega)
                          have g6 : (si.size : Int) ≤ (sj.size : Int) := by omega
                          clear hpre hord
                          by_cases hlt4 : y < x
                          · have g7 : decide (y < x) = true := decide_eq_true hlt4
                            have hfq : ∀ nq, Below w4.heap.size w4 (wr.drewN nq) := fun nq => HJ.out.trans ((bdN wr nq).mono HJ.out.size)
                            have HFQ := Lib.hid hfq
                            clear hfq
                            go_wp2
                            go_quiet (fail)
                            go_wp2
                            go_quiet (fail)
                            go_wp2
                            go_roundw
                            case rel => exact ⟨j + 1, by omega, by go_num, HFQ.out _⟩
                            case measure => simp [intOf]; omega
                          · have g7 : decide (y < x) = false := decide_eq_false hlt4
                            have hfq : ∀ nq, Below w4.heap.size w4 (wr.drewN nq) := fun nq => HJ.out.trans ((bdN wr nq).mono HJ.out.size)
                            have HFQ := Lib.hid hfq
                            clear hfq
                            go_wp2
                            go_quiet (fail)
                            go_wp2
                            go_quiet (fail)
                            go_wp2
                            go_roundw
                            case rel => exact ⟨j + 1, by omega, by go_num, HFQ.out _⟩
                            case measure => simp [intOf]; omega
                        · have g1 : decide ((si.size : Int) ≤ (sj.size : Int)) = false := decide_eq_false (by omega)
                          have g2 : decide (si.size ≤ sj.size) = false := decide_eq_false hle
                          have hlt4 : ¬ y < x := fun h => hle (hord h)
                          have g7 : decide (y < x) = false := decide_eq_false hlt4
                          clear hpre hord
                          have hfq : ∀ nq, Below w4.heap.size w4 (wr.drewN nq) := fun nq => HJ.out.trans ((bdN wr nq).mono HJ.out.size)
                          have HFQ := Lib.hid hfq
                          clear hfq
                          go_wp2
                          go_quiet (fail)
                          go_wp2
                          go_quiet (fail)
                          go_wp2
                          go_roundw
                          case rel => exact ⟨j + 1, by omega, by go_num, HFQ.out _⟩
                          case measure => simp [intOf]; omega
                  · obtain rfl : j = i := by omega
                    have q8 : ¬ (j : Int) < (j : Int) := by omega
                    have HF2 := Lib.hid (HW4.out.trans (hbj.mono HW4.out.size))
                    clear hbj
                    go_wp2
                    go_roundw
                    case rel => exact ⟨k + 1, by omega, by go_num, HF2.out⟩
                    case measure => simp [intOf]; omega
              · have hem := hni (Classical.byContradiction fun h => hm1 (hhas.1 h).2)
                have q6 : ¬ (1 : Int) < (mn : Int) := by omega
                have q7 : (mn : Int) < 2 := by omega
                clear hne hni hhas
                go_wp2
                go_quiet (fail)
                have HW4 := Lib.hid (HFIN.out nq)
                generalize wr.drewN nq = w4 at *
                go_wp2
                go_loopw [10] (fun v10 wq => ∃ j : Nat, j ≤ i ∧ v10 = .int .i64 (j : Int) ∧ Below w4.heap.size w4 wq) (fun v10 _ => i - (intOf v10).toNat)
                case atStart => exact ⟨0, Nat.zero_le _, rfl, Below.refl _ _⟩
                case round =>
                  obtain ⟨j, hji, rfl, hbj⟩ := hrel
                  by_cases hlt3 : j < i
                  · have hb0 := HW4.out.trans (hbj.mono HW4.out.size)
                    have e1 := (HC.out.1.kept hb0).cell k hlt2
                    have e2 := (HC.out.1.kept hb0).cell j hlt3
                    obtain ⟨b5, o5, h5, -, e3⟩ := num_at (HN.out.1.kept hb0) (i := k) (by rw [HM.out.1]; exact hlt2)
                    obtain ⟨b6, o6, h6, -, e4⟩ := num_at (HN.out.1.kept hb0) (i := j) (by rw [HM.out.1]; exact hlt3)
                    simp only [Option.some.injEq, Addr.mk.injEq, and_true] at h5 h6
                    obtain ⟨rfl, rfl⟩ := h5
                    obtain ⟨rfl, rfl⟩ := h6
                    rw [← HXS.out.2.1] at e1
                    rw [← HXS.out.1] at e3
                    have hy0 := (HM.out.2.2.2 _ (memI m j (by rw [HM.out.1]; exact hlt3))).1
                    have HJ := Lib.hid hbj
                    have q8 : (j : Int) < (i : Int) := by omega
                    have q9 : (0 : Int) ≤ (j : Int) := by omega
                    clear hbj hb0
                    obtain ⟨y, hy⟩ : ∃ y, y = m.getD j 0 := ⟨_, rfl⟩
                    obtain ⟨sj, hsj⟩ : ∃ sj, sj = str (f j) := ⟨_, rfl⟩
                    rw [← hy] at e4 hy0
                    rw [← hsj] at e2
                    have HYS := Lib.hid (And.intro hy hsj)
                    clear hy hsj
                    by_cases hkj : k = j
                    · subst hkj
                      have q10 : ((k : Int) == (k : Int)) = true := by simp
                      go_wp2
                      go_roundw
                      case rel => exact ⟨k + 1, by omega, by go_num, HJ.out⟩
                      case measure => simp [intOf]; omega
                    · have q10 : ((k : Int) == (j : Int)) = false := by simp; omega
                      by_cases hy1 : y = 0
                      · subst hy1
                        go_wp2
                        go_roundw
                        case rel => exact ⟨j + 1, by omega, by go_num, HJ.out⟩
                        case measure => simp [intOf]; omega
                      · have hyne : (y == 0) = false := by simpa using hy1
                        go_wp2
                        go_roundw
                        case rel => exact ⟨j + 1, by omega, by go_num, HJ.out⟩
                        case measure => simp [intOf]; omega
                  · obtain rfl : j = i := by omega
                    have q8 : ¬ (j : Int) < (j : Int) := by omega
                    have HF2 := Lib.hid (HW4.out.trans (hbj.mono HW4.out.size))
                    clear hbj
                    go_wp2
                    go_roundw
                    case rel => exact ⟨k + 1, by omega, by go_num, HF2.out⟩
                    case measure => simp [intOf]; omega
            · have hem := hni (Classical.byContradiction fun h => hx1 (hhas.1 h).1)
              obtain rfl : x = 0 := by omega
              clear hne hni hhas
              go_wp2
              go_quiet (fail)
              have HW4 := Lib.hid (HFIN.out nq)
              generalize wr.drewN nq = w4 at *
              go_wp2
              go_loopw [10] (fun v10 wq => ∃ j : Nat, j ≤ i ∧ v10 = .int .i64 (j : Int) ∧ Below w4.heap.size w4 wq) (fun v10 _ => i - (intOf v10).toNat)
              case atStart => exact ⟨0, Nat.zero_le _, rfl, Below.refl _ _⟩
              case round =>
                obtain ⟨j, hji, rfl, hbj⟩ := hrel
                by_cases hlt3 : j < i
                · have hb0 := HW4.out.trans (hbj.mono HW4.out.size)
                  have e1 := (HC.out.1.kept hb0).cell k hlt2
                  have e2 := (HC.out.1.kept hb0).cell j hlt3
                  obtain ⟨b5, o5, h5, -, e3⟩ := num_at (HN.out.1.kept hb0) (i := k) (by rw [HM.out.1]; exact hlt2)
                  obtain ⟨b6, o6, h6, -, e4⟩ := num_at (HN.out.1.kept hb0) (i := j) (by rw [HM.out.1]; exact hlt3)
                  simp only [Option.some.injEq, Addr.mk.injEq, and_true] at h5 h6
                  obtain ⟨rfl, rfl⟩ := h5
                  obtain ⟨rfl, rfl⟩ := h6
                  rw [← HXS.out.2.1] at e1
                  rw [← HXS.out.1] at e3
                  have hy0 := (HM.out.2.2.2 _ (memI m j (by rw [HM.out.1]; exact hlt3))).1
                  have HJ := Lib.hid hbj
                  have q8 : (j : Int) < (i : Int) := by omega
                  have q9 : (0 : Int) ≤ (j : Int) := by omega
                  clear hbj hb0
                  obtain ⟨y, hy⟩ : ∃ y, y = m.getD j 0 := ⟨_, rfl⟩
                  obtain ⟨sj, hsj⟩ : ∃ sj, sj = str (f j) := ⟨_, rfl⟩
                  rw [← hy] at e4 hy0
                  rw [← hsj] at e2
                  have HYS := Lib.hid (And.intro hy hsj)
                  clear hy hsj
                  by_cases hkj : k = j
                  · subst hkj
                    have q10 : ((k : Int) == (k : Int)) = true := by simp
                    go_wp2
                    go_roundw
                    case rel => exact ⟨k + 1, by omega, by go_num, HJ.out⟩
                    case measure => simp [intOf]; omega
                  · have q10 : ((k : Int) == (j : Int)) = false := by simp; omega
                    go_wp2
                    go_roundw
                    case rel => exact ⟨j + 1, by omega, by go_num, HJ.out⟩
                    case measure => simp [intOf]; omega
                · obtain rfl : j = i := by omega
                  have q8 : ¬ (j : Int) < (j : Int) := by omega
                  have HF2 := Lib.hid (HW4.out.trans (hbj.mono HW4.out.size))
                  clear hbj
                  go_wp2
                  go_roundw
                  case rel => exact ⟨k + 1, by omega, by go_num, HF2.out⟩
                  case measure => simp [intOf]; omega
          · obtain rfl : k = i := by omega
            have q4 : ¬ (k : Int) < (k : Int) := by omega
            have HF := Lib.hid (HN.out.2.trans (hbk.mono HN.out.2.size))
            clear hbk
            go_wp2
            go_ret
            exact ⟨rfl, HF.out⟩

end Go.Proofs.Ytdidoecigkbffaa
