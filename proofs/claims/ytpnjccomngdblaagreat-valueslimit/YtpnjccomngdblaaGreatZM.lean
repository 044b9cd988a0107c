/- The contract of marked. -/
import Derived.Test.YtpnjccomngdblaaGreatZL
set_option maxRecDepth 100000
namespace Go.Proofs.YtpnjccomngdblaaGreat
open Go.RowKit
open M
attribute [local go_sem ↓] Go.wp_at_zero Go.wp_at_succ

variable {w u u' : World} {F : FQ} {l : List Int} {size : Nat}

theorem madeBool (n : Nat) : ∀ i, i < n → (madeCells #[Value.bool false] n).toList[i]? = some (.bool false) := by
  intro i hi
  simp [madeCells, hi, Nat.mod_one]
theorem GM.start (w : World) (n T : Nat) (w1 w4 : World)
    (h1 : w1.ownsRow (w.heap.size + 1) 4 1 (.slice (some ⟨(w.heap.size + 1), 0, none⟩) n n) n (madeCells #[Value.bool false] n).toList) (g1 : (w.alloc (.cells #[.int .i64 0, .int .i64 0, .slice none 0 0, .int .i64 0, .slice none 0 0, .int .i64 0, .int .i64 0, .int .i64 0, .slice none 0 0, .int .i64 0, .int .i64 0, .int .i64 0, .slice none 0 0, .int .i64 0, .int .i64 0, .int .i64 0, .slice none 0 0] 37)).grownBy w1 none)
    (w3 : World) (hw3 : w3 = (w1.alloc (.cells #[.slice (some ⟨(w.heap.size + 1), 0, none⟩) n n] 99)).alloc (.cells #[.slice none 0 0] 38))
    (h4 : w4.ownsRow w3.heap.size 3 1 (.slice (some ⟨w3.heap.size, 0, none⟩) T T) T (madeCells #[Value.int .i64 0] T).toList) (g4 : w3.grownBy w4 none) :
    GM w ⟨w.heap.size, w.heap.size + 1, w1.heap.size, w1.heap.size + 1, w3.heap.size, w4.heap.size, w4.heap.size + 1, n, T⟩ (fun _ => false) (fun _ => 0) (.slice none 0 0) [] (w4.alloc (.cells #[.slice (some ⟨w3.heap.size, 0, none⟩) T T] 38)) := by
  obtain ⟨w0, hw0⟩ : ∃ w0, w0 = w.alloc (.cells #[.int .i64 0, .int .i64 0, .slice none 0 0, .int .i64 0, .slice none 0 0, .int .i64 0, .int .i64 0, .int .i64 0, .slice none 0 0, .int .i64 0, .int .i64 0, .int .i64 0, .slice none 0 0, .int .i64 0, .int .i64 0, .int .i64 0, .slice none 0 0] 37) := ⟨_, rfl⟩
  have th0 := there_new w
  have ty0 : Typ (w.alloc (.cells #[.int .i64 0, .int .i64 0, .slice none 0 0, .int .i64 0, .slice none 0 0, .int .i64 0, .int .i64 0, .int .i64 0, .slice none 0 0, .int .i64 0, .int .i64 0, .int .i64 0, .slice none 0 0, .int .i64 0, .int .i64 0, .int .i64 0, .slice none 0 0] 37)) w.heap.size 37 := ⟨_, _, heap_alloc_new w _⟩
  have hs0 : w0.heap.size = w.heap.size + 1 := by rw [hw0]; simp
  have b0 : Below w.heap.size w w0 := by rw [hw0]; exact al w _
  rw [← hw0] at g1 th0 ty0
  rw [← hs0] at h1 hw3 ⊢
  have b1 := below_grown g1
  have l1 := h1.lt w0.heap.size rfl
  have hs3 : w3.heap.size = w1.heap.size + 2 := by rw [hw3]; simp
  have b3 : Below w1.heap.size w1 w3 := by rw [hw3]; exact (al w1 _).alloc (by simp) _
  have b4 := below_grown g4
  have l4 := h4.lt w3.heap.size rfl
  have b5 := al w4 (.cells #[.slice (some ⟨w3.heap.size, 0, none⟩) T T] 38)
  have k1 : Below w1.heap.size w1 (w4.alloc (.cells #[.slice (some ⟨w3.heap.size, 0, none⟩) T T] 38)) := (b3.trans (b4.mono (by omega))).trans (b5.mono (by omega))
  have k3 : Below w3.heap.size w3 (w4.alloc (.cells #[.slice (some ⟨w3.heap.size, 0, none⟩) T T] 38)) := b4.trans (b5.mono (by omega))
  have k0 : Below w0.heap.size w0 (w4.alloc (.cells #[.slice (some ⟨w3.heap.size, 0, none⟩) T T] 38)) := b1.trans (k1.mono (by omega))
  have e4 : w3.cell? ⟨w1.heap.size, 0, none⟩ = some (.slice (some ⟨w0.heap.size, 0, none⟩) n n) := by
    rw [hw3, cell_old _ _ _ _ (by simp), cell_new _ _ _ _ _ rfl]; rfl
  have e5 : w3.cell? ⟨w1.heap.size + 1, 0, none⟩ = some (.slice none 0 0) := by
    rw [hw3, cell_new _ _ _ _ _ (by simp)]; rfl
  have f5 : w3.frozen? ⟨w1.heap.size + 1, 0, none⟩ = false := by
    rw [hw3, frozen_new _ _ _ _ _ (by simp)]
  refine ⟨?_, ?_, ?_, ?_, fun j hj => ?_, fun j hj => ?_, fun j hj => ?_, fun j hj => ?_, ?_, ty0.kept k0, World.ownsRow_nil _ _ _ _, ?_, ?_⟩
  · rw [k3.cell (p := ⟨w1.heap.size, 0, none⟩) (show w1.heap.size < w3.heap.size by omega)]; exact e4
  · rw [k3.cell (p := ⟨w1.heap.size + 1, 0, none⟩) (show w1.heap.size + 1 < w3.heap.size by omega)]; exact e5
  · rw [k3.frozen (p := ⟨w1.heap.size + 1, 0, none⟩) (show w1.heap.size + 1 < w3.heap.size by omega)]; exact f5
  · rw [cell_new _ _ _ _ _ rfl]; rfl
  · rw [k1.cell (p := ⟨w0.heap.size, j, none⟩) l1.2, h1.cellAt j (by simpa using hj)]; exact madeBool n j hj
  · rw [k1.frozen (p := ⟨w0.heap.size, j, none⟩) l1.2]; exact h1.frozenAt j
  · rw [b5.cell (p := ⟨w3.heap.size, j, none⟩) l4.2, h4.cellAt j (by simpa using hj)]; exact madeInt T j hj
  · rw [b5.frozen (p := ⟨w3.heap.size, j, none⟩) l4.2]; exact h4.frozenAt j
  · exact there_kp th0 (show w.heap.size < w0.heap.size by omega) (Below.kp k0) (fun h => h)
  · have := b1.size
    have := b4.size
    simp
    omega
  · exact b0.trans (k0.mono (by omega))

/-- What is gathered of the first i places. -/
def pcF (l : List Int) (i t : Nat) : Int := if plR l (min (8 * t) l.length) < i then (plR l (min (8 * t) l.length) : Int) else 0
def mkF (l : List Int) (i j : Nat) : Bool := decide (j < i) && mkB l.length (plA l j)
theorem mkB_iff (n p : Nat) (hp : p ≤ n) : mkB n p = true ↔ ∃ t, t ≤ mfN n ∧ p = min (8 * t) n := by
  unfold mkB mfN
  simp only [Bool.or_eq_true, decide_eq_true_eq]
  constructor
  · rintro (h | h)
    · exact ⟨p / 8, by omega, by omega⟩
    · exact ⟨(n + 7) / 8, by omega, by omega⟩
  · rintro ⟨t, h1, h2⟩
    omega
theorem mf_min (n t : Nat) (ht : t ≤ mfN n) : mfN (min (8 * t) n) = t := by unfold mfN at *; omega
theorem pcF_yes (h : I64s l) (hn : Nn l) {i : Nat} (hi : i ≤ l.length) (hm : mkB l.length (plA l i) = true) {t : Nat} (ht : t ≤ mfN l.length) : (if t = mfN (plA l i) then (i : Int) else pcF l i t) = pcF l (i + 1) t := by
  have ha := (allA_at h hn hi).2
  obtain ⟨s, hs1, hs2⟩ := (mkB_iff _ _ ha).1 hm
  have hr := plR_plA h hn hi
  unfold pcF
  by_cases e : t = mfN (plA l i)
  · have es : s = t := by rw [e, hs2, mf_min _ _ hs1]
    rw [if_pos e, ← es, ← hs2, hr, if_pos (by omega)]
  · rw [if_neg e]
    have : plR l (min (8 * t) l.length) ≠ i := fun e2 => by
      have h2 := (plR_ok h hn (p := min (8 * t) l.length) (by omega)).2
      rw [e2] at h2
      exact e (by rw [h2, mf_min _ _ ht])
    by_cases e3 : plR l (min (8 * t) l.length) < i
    · rw [if_pos e3, if_pos (by omega)]
    · rw [if_neg e3, if_neg (by omega)]
theorem pcF_no (h : I64s l) (hn : Nn l) {i : Nat} (hi : i ≤ l.length) (hm : mkB l.length (plA l i) = false) {t : Nat} (ht : t ≤ mfN l.length) : pcF l i t = pcF l (i + 1) t := by
  unfold pcF
  have : plR l (min (8 * t) l.length) ≠ i := fun e2 => by
    have h2 := (plR_ok h hn (p := min (8 * t) l.length) (by omega)).2
    rw [e2] at h2
    have := (mkB_iff l.length (plA l i) (allA_at h hn hi).2).2 ⟨t, ht, h2⟩
    rw [hm] at this
    exact absurd this (by decide)
  by_cases e3 : plR l (min (8 * t) l.length) < i
  · rw [if_pos e3, if_pos (by omega)]
  · rw [if_neg e3, if_neg (by omega)]

/-- Nothing but a rank, and numbers. -/
abbrev FQ0 (R : RP) (S P : IP) : FQ := ⟨0, 0, none, 0, 0, R, S, P⟩
abbrev IP0 : IP := ⟨0, 0, 0, none, 0, 0⟩

set_option maxHeartbeats 4000000 in
theorem marked_any (A : Option Addr) (n c : Nat) (l : List Int) (w : World) (hA : NumsAt .i64 w A (begL l)) (hl : l.length + 1 = n) (hn : n ≤ 1001) (h64 : I64s l) (hnn : Nn l) :
    Calls Tryz.prog 77 #[.slice A n c] w fun e u => ∃ F : FQ, e = .returned (.agg #[.int .i64 (F.N : Int), .int .i64 F.Z, .slice F.wa F.wW F.wc, .int .i64 (F.R.n : Int), .slice F.R.a F.R.m F.R.c, .int .i64 (F.R.cn : Int), .int .i64 (F.R.cW : Int), .int .i64 (F.R.cL : Int), .slice F.R.a2 F.R.m2 F.R.c2, .int .i64 (F.S.n : Int), .int .i64 (F.S.W : Int), .int .i64 (F.S.L : Int), .slice F.S.a F.S.m F.S.c, .int .i64 (F.P.n : Int), .int .i64 (F.P.W : Int), .int .i64 (F.P.L : Int), .slice F.P.a F.P.m F.P.c]) ∧
      MP u F l ∧ Below w.heap.size w u := by
  have hmk := fun w => mark_any l.length w (by omega)
  have hT : mfN l.length ≤ 126 := by unfold mfN; omega
  obtain ⟨T, hTe⟩ : ∃ T, mfN l.length = T := ⟨_, rfl⟩
  rw [hTe] at hmk hT
  obtain ⟨m, hm⟩ : ∃ m, l.length = m := ⟨_, rfl⟩
  rw [hm] at hmk
  have HX := Lib.hid (And.intro hA (And.intro hl (And.intro h64 (And.intro hnn (And.intro hTe hm)))))
  have HMK := Lib.hid hmk
  have hmn : m + 1 = n := by omega
  clear hA hl h64 hnn hTe hm hmk
  obtain ⟨i0, hi0, hz0, hz1, hz2⟩ := info_parts info4
  obtain ⟨i1, hi1, hy0, hy1, hy2⟩ := info_parts info3
  have q1 : IntKind.i64.wrap ((n : Int) - 1) = (m : Int) := by rw [show (n : Int) - 1 = (m : Int) by omega]; exact IntWalk.i64_in _ (by omega)
  have q2 : IntKind.i64.wrap ((T : Int) + 1) = ((T + 1 : Nat) : Int) := by rw [Int.natCast_add]; exact IntWalk.i64_in _ (by omega)
  obtain ⟨T1, hT1⟩ : ∃ T1, T + 1 = T1 := ⟨_, rfl⟩
  rw [hT1] at q2
  go_enter Tryz.func77, Tryz.ntmps77
  go_wp2_with (first | (at_make; refine wpList_make_full _ rfl _ _ 99 rfl _ 4 i0 (.bool false) 1 Tryz.underlying99 hi0 hz0 hz1 _ _ _ _ n rfl rfl rfl rfl ?b2 ?b3 (Nat.le_refl _) ?_))
  case b2 => rw [hz2]; omega
  case b3 => unfold maxLen; omega
  intro w1 h1 g1
  have H1 := Lib.hid (And.intro h1 g1)
  clear h1 g1 hi0 hz0 hz1 hz2
  go_upto_region 4 with fail
  obtain ⟨w3, hw3⟩ : ∃ w3, w3 = (w1.alloc (.cells #[.slice (some ⟨w.heap.size + 1, 0, none⟩) n n] 99)).alloc (.cells #[.slice none 0 0] 38) := ⟨_, rfl⟩
  rw [← hw3]
  go_wp2_with (first
    | (go_at_call 40; (with_reducible refine (HMK.out _).mono ?_); rintro e w' ⟨rfl, rfl⟩)
    | (at_make; refine wpList_make_full _ rfl _ _ 38 rfl _ 3 i1 (.int .i64 0) 1 Tryz.underlying38 hi1 hy0 hy1 _ _ _ _ T1 rfl rfl rfl rfl ?b2 ?b3 (Nat.le_refl _) ?_))
  case b2 => rw [hy2]; omega
  case b3 => unfold maxLen; omega
  intro w4 h4 g4
  have e3 : w3.heap.size = w1.heap.size + 1 + 1 := by rw [hw3]; simp
  rw [← e3] at h4
  rw [← hw3] at g4
  have hst := GM.start w n T1 w1 w4 H1.out.1 H1.out.2 w3 hw3 h4 g4
  clear HMK H1 h4 g4 hi1 hy0 hy1 hy2
  go_upto_region 6 with fail
  rw [e3] at hst
  obtain ⟨w5, hw5⟩ : ∃ w5, w4.alloc (.cells #[.slice (some ⟨w1.heap.size + 1 + 1, 0, none⟩) T1 T1] 38) = w5 := ⟨_, rfl⟩
  rw [hw5] at hst
  rw [hw5]
  obtain ⟨B4, e4⟩ : ∃ B4, w1.heap.size = B4 := ⟨_, rfl⟩
  obtain ⟨Q, e5⟩ : ∃ Q, B4 + 1 + 1 = Q := ⟨_, rfl⟩
  obtain ⟨B6, e6⟩ : ∃ B6, w4.heap.size = B6 := ⟨_, rfl⟩
  obtain ⟨r, e0⟩ : ∃ r, w.heap.size = r := ⟨_, rfl⟩
  rw [e4, e5, e6, e0] at hst
  simp only [e4, e5, e6, e0]
  clear hw5 hw3 e3
  have HS := Lib.hid (And.intro hst (And.intro e4 (And.intro e5 (And.intro e6 e0))))
  clear hst e4 e5 e6 e0
  go_wp2
  go_loopw [8, 9, 24] (fun _ _ v24 wr => ∃ (i : Nat) (sv : Value), i ≤ n ∧ v24 = .int .i64 (i : Int) ∧ GM w ⟨r, r + 1, B4, B4 + 1, Q, B6, B6 + 1, n, T1⟩ (mkF l i) (pcF l i) sv (smN l i) wr) (fun _ _ v24 _ => n - (intOf v24).toNat)
  case atStart => exact ⟨0, .slice none 0 0, Nat.zero_le _, rfl, HS.out.1.congr (fun j _ => by simp [mkF]) (fun t _ => by simp [pcF])⟩
  case round =>
    obtain ⟨i, sv, hin, rfl, hG⟩ := hrel
    clear HS
    have h64 := HX.out.2.2.1
    have hnn := HX.out.2.2.2.1
    have hll := HX.out.2.2.2.2.2
    by_cases hlt : i < n
    · have hil : i ≤ l.length := by omega
      obtain ⟨bb, off, hAe, -, ck⟩ := num_at (HX.out.1.kept hG.bel) (i := i) (by rw [begL_len]; omega)
      rw [begL_at l hil] at ck
      have ha := (allA_at h64 hnn hil).2
      have hsu := smN_succ l i
      have hsl := smN_le l i
      obtain ⟨b, hb⟩ : ∃ b, plA l i = b := ⟨_, rfl⟩
      have q3 : (i : Int) < (n : Int) := by omega
      have q4 : (0 : Int) ≤ (i : Int) := by omega
      subst hAe
      cases hmb : mkB l.length (plA l i) with
      | true =>
        have hga := gather_any i b hG hlt (by omega) (by have := mf_min; unfold mfN at *; show (b + 7) / 8 < T1; have := HX.out.2.2.2.2.1; omega) (by omega)
        rw [hmb, if_pos rfl, hb] at hsu
        have hcg := fun (sv' : Value) (u' : World) (h : GM w ⟨r, r + 1, B4, B4 + 1, Q, B6, B6 + 1, n, T1⟩ (fun j => if j = i then true else mkF l i j) (fun j => if j = mfN b then (i : Int) else pcF l i j) sv' (smN l i ++ [(b : Int)]) u') =>
          h.congr (mk' := mkF l (i + 1)) (pc' := pcF l (i + 1)) (fun j hj => by
            unfold mkF
            by_cases e : j = i
            · rw [if_pos e, e, hmb, decide_eq_true (by omega)]; rfl
            · rw [if_neg e]
              by_cases e2 : j < i
              · rw [decide_eq_true e2, decide_eq_true (by omega)]
              · rw [decide_eq_false e2, decide_eq_false (by omega)])
            (fun t ht => by rw [← hb]; exact pcF_yes h64 hnn hil hmb (by have := HX.out.2.2.2.2.1; have ht : t < T1 := ht; omega))
        rw [← hsu] at hcg
        have hmm : b % 8 = 0 ∨ b = m := by
          unfold mkB at hmb
          rw [hb, hll] at hmb
          simpa using hmb
        rw [hsu] at hcg
        rw [hb] at ck
        have HGA := Lib.hid (And.intro hga (And.intro hcg hsu))
        clear hga hcg hsu hsl hb hmb hG ha
        dsimp only at HGA
        rcases Nat.eq_zero_or_pos (b % 8) with h8 | h8
        · have q5 : ((b : Int).tmod 8 == 0) = true := by rw [Int.tmod_eq_emod_of_nonneg (by omega)]; simp; omega
          have q6 : (b : Int).tmod 8 = 0 := by rw [Int.tmod_eq_emod_of_nonneg (by omega)]; omega
          clear hmm
          go_wp2_with fail
          (with_reducible refine HGA.out.1.mono ?_)
          rintro e w6 ⟨rfl, sv', hG⟩
          have HG := Lib.hid (HGA.out.2.1 sv' w6 hG)
          clear hG
          go_wp2
          go_roundw
          case rel => exact ⟨i + 1, sv', by omega, by go_num, by rw [HGA.out.2.2]; exact HG.out⟩
          case measure => first | (simp [intOf]; done) | (simp [intOf]; omega)
        · have q5 : ((b : Int).tmod 8 == 0) = false := by rw [Int.tmod_eq_emod_of_nonneg (by omega)]; simp; omega
          have q6 : ¬ (b : Int).tmod 8 = 0 := by rw [Int.tmod_eq_emod_of_nonneg (by omega)]; omega
          have hbm : b = m := by omega
          have q7 : ((b : Int) == (m : Int)) = true := by simp; omega
          subst hbm
          clear hmm
          go_wp2_with fail
          (with_reducible refine HGA.out.1.mono ?_)
          rintro e w6 ⟨rfl, sv', hG⟩
          have HG := Lib.hid (HGA.out.2.1 sv' w6 hG)
          clear hG
          go_wp2
          go_roundw
          case rel => exact ⟨i + 1, sv', by omega, by go_num, by rw [HGA.out.2.2]; exact HG.out⟩
          case measure => first | (simp [intOf]; done) | (simp [intOf]; omega)
      | false =>
        rw [hmb, if_neg (by decide), List.append_nil] at hsu
        have hG2 := hG.congr (mk' := mkF l (i + 1)) (pc' := pcF l (i + 1)) (fun j hj => by
            unfold mkF
            by_cases e : j = i
            · rw [e, hmb, Bool.and_false, Bool.and_false]
            · by_cases e2 : j < i
              · rw [decide_eq_true e2, decide_eq_true (by omega)]
              · rw [decide_eq_false e2, decide_eq_false (by omega)])
            (fun t ht => pcF_no h64 hnn hil hmb (by have := HX.out.2.2.2.2.1; have ht : t < T1 := ht; omega))
        rw [← hsu] at hG2
        have hmm : b % 8 ≠ 0 ∧ b ≠ m := by
          unfold mkB at hmb
          rw [hb, hll] at hmb
          simpa using hmb
        rw [hb] at ck
        have HG := Lib.hid hG2
        clear hG hG2 hsu hsl hb hmb ha
        have q5 : ((b : Int).tmod 8 == 0) = false := by rw [Int.tmod_eq_emod_of_nonneg (by omega)]; simp; omega
        have q6 : ¬ (b : Int).tmod 8 = 0 := by rw [Int.tmod_eq_emod_of_nonneg (by omega)]; omega
        have q7 : ((b : Int) == (m : Int)) = false := by simp; omega
        clear hmm
        go_wp2
        go_roundw
        case rel => exact ⟨i + 1, sv, by omega, by go_num, HG.out⟩
        case measure => first | (simp [intOf]; done) | (simp [intOf]; omega)
    · obtain rfl : i = n := by omega
      have q3 : ¬ (i : Int) < (i : Int) := by omega
      have hbo : BoolsAt wr (some ⟨r + 1, 0, none⟩) (mkL l) := .inr ⟨r + 1, 0, rfl, by have := hG.lo; simp only at this; omega, fun j hj => by
        rw [mkL_len] at hj
        rw [Nat.zero_add, mkL_at l (by omega)]
        have := hG.m j (show j < i by omega)
        unfold mkF at this
        rw [decide_eq_true (by omega), Bool.true_and] at this
        exact this⟩
      have hmake := make_any (some ⟨r + 1, 0, none⟩) i (mkL l) wr hbo (by rw [mkL_len]; omega)
      have hmll : (mkL l).length = i := by rw [mkL_len]; omega
      have hnew := fun (a : Option Addr) (m c : Nat) (w : World) (h : RowAt w (.slice a m c) (mkL l)) => rnew_any a m c (mkL l) w h (by rw [hmll]; omega)
      rw [hmll] at hmake hnew
      obtain ⟨SA, SC, hse, hsn, -, -, -, -⟩ := nums_of_own hG.own
      have hsl : (smN l i).length ≤ i := smN_le l i
      have hsi : smN l i = smL l := by unfold smL; rw [show l.length + 1 = i by omega]
      have htS := fun (w : World) (h : NumsAt .i64 w SA (smN l i)) => tight_row SA (smN l i).length SC (smN l i) w 20 (by omega) h rfl (by omega) (fun x hx => by
        rw [hsi] at hx
        have := smL_in h64 hnn x hx
        have h20 : (2 : Int) ^ 20 = 1048576 := by decide
        rw [h20]; omega)
      have hpn : NumsAt .i64 wr (some ⟨Q, 0, none⟩) (pcL l) := .inr ⟨Q, 0, rfl, by have := hG.lo; simp only at this; omega, fun j hj => by
        rw [pcL_len] at hj
        have hj2 : j ≤ mfN l.length := by omega
        rw [Nat.zero_add, pcL_at l hj2]
        have := hG.q j (show j < T1 by have := HX.out.2.2.2.2.1; omega)
        unfold pcF at this
        have h2 := (plR_ok h64 hnn (p := min (8 * j) l.length) (by omega)).1
        rw [if_pos (by omega)] at this
        exact this⟩
      have hpl : (pcL l).length = T1 := by rw [pcL_len, HX.out.2.2.2.2.1]; omega
      have htP := fun (w : World) (h : NumsAt .i64 w (some ⟨Q, 0, none⟩) (pcL l)) => tight_row (some ⟨Q, 0, none⟩) T1 T1 (pcL l) w 20 (by omega) h hpl (by omega) (fun x hx => by
        obtain ⟨j, hj, rfl⟩ := List.mem_map.1 hx
        have h2 := (plR_ok h64 hnn (p := min (8 * j) l.length) (by omega)).1
        have h20 : (2 : Int) ^ 20 = 1048576 := by decide
        rw [h20]; omega)
      obtain ⟨SN, hSN⟩ : ∃ SN, (smN l i).length = SN := ⟨_, rfl⟩
      rw [hSN] at hse htS
      subst hse
      have HM := Lib.hid (And.intro hG (And.intro hmake (And.intro hnew (And.intro htS (And.intro htP (And.intro hsn (And.intro hpn hsi)))))))
      have c4 := hG.c4
      clear hG hmake hnew htS htP hsn hpn hbo hmll hsl h64 hnn hll hsi hSN hpl
      go_wp2_with fail
      (with_reducible refine HM.out.2.1.mono ?_)
      rintro e u1 ⟨rfl, hrow, hb1⟩
      have hG1 := HM.out.1.kept hb1
      have HN := Lib.hid (And.intro (HM.out.2.2.1 _ _ _ u1 hrow) (And.intro hG1 hb1))
      clear c4 hrow hb1 hG1
      go_wp2_with fail
      (with_reducible refine HN.out.1.mono ?_)
      rintro e u2 ⟨R, rfl, hrk, hRe, hb2⟩
      have hG2 := HN.out.2.1.kept hb2
      have hw2 := HN.out.2.2.trans (hb2.mono HN.out.2.2.size)
      have HR := Lib.hid (And.intro hrk (And.intro hG2 hw2))
      clear hrk hRe hb2 hG2 hw2
      go_upto_region 13 with fail
      have hbx : MBx (u2.alloc (.cells #[.int .i64 0, .int .i64 0, .slice none 0 0, .int .i64 (R.n : Int), .slice R.a R.m R.c, .int .i64 (R.cn : Int), .int .i64 (R.cW : Int), .int .i64 (R.cL : Int), .slice R.a2 R.m2 R.c2, .int .i64 0, .int .i64 0, .int .i64 0, .slice none 0 0, .int .i64 0, .int .i64 0, .int .i64 0, .slice none 0 0] 37)) u2.heap.size (FQ0 R IP0 IP0) := MBx.new u2 (FQ0 R IP0 IP0)
      have hth := there_alloc u2 #[.int .i64 0, .int .i64 0, .slice none 0 0, .int .i64 (R.n : Int), .slice R.a R.m R.c, .int .i64 (R.cn : Int), .int .i64 (R.cW : Int), .int .i64 (R.cL : Int), .slice R.a2 R.m2 R.c2, .int .i64 0, .int .i64 0, .int .i64 0, .slice none 0 0, .int .i64 0, .int .i64 0, .int .i64 0, .slice none 0 0] 37 17 rfl
      have hbb := al u2 (.cells #[.int .i64 0, .int .i64 0, .slice none 0 0, .int .i64 (R.n : Int), .slice R.a R.m R.c, .int .i64 (R.cn : Int), .int .i64 (R.cW : Int), .int .i64 (R.cL : Int), .slice R.a2 R.m2 R.c2, .int .i64 0, .int .i64 0, .int .i64 0, .slice none 0 0, .int .i64 0, .int .i64 0, .int .i64 0, .slice none 0 0] 37)
      have htx : Typ (u2.alloc (.cells #[.int .i64 0, .int .i64 0, .slice none 0 0, .int .i64 (R.n : Int), .slice R.a R.m R.c, .int .i64 (R.cn : Int), .int .i64 (R.cW : Int), .int .i64 (R.cL : Int), .slice R.a2 R.m2 R.c2, .int .i64 0, .int .i64 0, .int .i64 0, .slice none 0 0, .int .i64 0, .int .i64 0, .int .i64 0, .slice none 0 0] 37)) u2.heap.size 37 := ⟨_, _, heap_alloc_new u2 _⟩
      obtain ⟨u3, hu3⟩ : ∃ u3, u2.alloc (.cells #[.int .i64 0, .int .i64 0, .slice none 0 0, .int .i64 (R.n : Int), .slice R.a R.m R.c, .int .i64 (R.cn : Int), .int .i64 (R.cW : Int), .int .i64 (R.cL : Int), .slice R.a2 R.m2 R.c2, .int .i64 0, .int .i64 0, .int .i64 0, .slice none 0 0, .int .i64 0, .int .i64 0, .int .i64 0, .slice none 0 0] 37) = u3 := ⟨_, rfl⟩
      rw [hu3] at hbx hth hbb htx
      rw [hu3]
      have hX := HR.out.2.1.lo
      dsimp only at hX
      obtain ⟨X, hXe⟩ : ∃ X, u2.heap.size = X := ⟨_, rfl⟩
      simp only [hXe] at hbx hth hX htx
      simp only [hXe]
      have hG3 := HR.out.2.1.kept hbb
      have hrk3 := HR.out.1.kept hbb
      have hb3 := HR.out.2.2.trans (hbb.mono HR.out.2.2.size)
      have hns := HM.out.2.2.2.2.2.1.kept hb3
      have hps := HM.out.2.2.2.2.2.2.1.kept hb3
      have c5 := hG3.c5
      have ht5 := HM.out.2.2.2.1 u3 hns
      have HU := Lib.hid (And.intro hbx (And.intro hth (And.intro hG3 (And.intro hrk3 (And.intro hps (And.intro ht5 (And.intro hb3 (And.intro htx hX))))))))
      clear hu3 hbx hth hbb htx hX hXe hG3 hrk3 hb3 hns hps ht5 HR HN
      go_wp2_with fail
      (with_reducible refine HU.out.2.2.2.2.2.1.mono ?_)
      rintro e u4 ⟨g4, L4, m4, rfl, hrow, hb4⟩
      obtain ⟨W4, hW4⟩ : ∃ W4, wid (mostI (smN l i)).toNat = W4 := ⟨_, rfl⟩
      rw [hW4] at hrow ⊢
      obtain ⟨hbx, hth, hG3, hrk3, hps, -, hb3, htx, hX⟩ := HU.out
      have hXl : X < u3.heap.size := hbx.lt
      have hth4 := there_kp hth hXl (Below.kp hb4) (fun h => h)
      have hbx4 := (hbx.kept hb4).partS ⟨SN, W4, L4, some ⟨g4, 0, none⟩, m4, m4⟩ (there_part hth4 (by omega))
      have hkp : Kp (fun k => k = X) u4 (u4.setCells X 9 [.int .i64 (SN : Int), .int .i64 (W4 : Int), .int .i64 (L4 : Int), .slice (some ⟨g4, 0, none⟩) m4 m4]) := setCells_kp X _ 9 u4
      have hn4 : ∀ b, b = X → NoW u4 b := fun b e => ⟨37, by decide, by rw [e]; exact htx.kept hb4⟩
      have hlo := hG3.lo
      dsimp only at hlo
      have hG4 := hG3.kept hb4
      have hw4 : Below w.heap.size w u4 := hG4.bel
      have hs4 := hb4.size
      have hbe : Below w.heap.size w (u4.setCells X 9 [.int .i64 (SN : Int), .int .i64 (W4 : Int), .int .i64 (L4 : Int), .slice (some ⟨g4, 0, none⟩) m4 m4]) := Below.setCells' (by omega) _ 9 hw4
      have hrow4 := hrow.typs hkp hn4
      have hrk4 := (hrk3.kept hb4).typs hkp hn4
      have hps4 := nums_kp (hps.kept hb4) hkp (fun b o e ek => by
        simp only [Option.some.injEq, Addr.mk.injEq, and_true] at e
        omega)
      have c6 : (u4.setCells X 9 [.int .i64 (SN : Int), .int .i64 (W4 : Int), .int .i64 (L4 : Int), .slice (some ⟨g4, 0, none⟩) m4 m4]).cell? ⟨B6, 0, none⟩ = some (.slice (some ⟨Q, 0, none⟩) T1 T1) := (hkp.cell (p := ⟨B6, 0, none⟩) (show B6 < u4.heap.size by omega) (show ¬ B6 = X by omega)).trans hG4.c6
      have hthr := there_kp hG4.th (show r < u4.heap.size by omega) hkp (show ¬ r = X by omega)
      have htyr := hG4.ty.kp hkp (show ¬ r = X by omega)
      have htx4 := (htx.kept hb4).sets [.int .i64 (SN : Int), .int .i64 (W4 : Int), .int .i64 (L4 : Int), .slice (some ⟨g4, 0, none⟩) m4 m4] 9 X
      have hthx := World.there_setCells hth4 X 9 [.int .i64 (SN : Int), .int .i64 (W4 : Int), .int .i64 (L4 : Int), .slice (some ⟨g4, 0, none⟩) m4 m4]
      have hXr : w.heap.size ≤ r ∧ r < X ∧ Q < X ∧ B6 < X := by omega
      have H4 := Lib.hid (And.intro hbx4 (And.intro hrow4 (And.intro hrk4 (And.intro hps4 (And.intro c6 (And.intro hthr (And.intro htyr (And.intro htx4 (And.intro hthx (And.intro hbe (And.intro hW4 hXr)))))))))))
      have ht4 := there_part hth4 (show 9 + 4 ≤ 17 by omega)
      have HT4 := Lib.hid ht4
      clear hbx hth hG3 hrk3 hps hb3 htx hX hth4 hbx4 hkp hn4 hlo hG4 hw4 hbe hrow4 hrk4 hps4 hthr htyr htx4 hthx hW4 ht4 hrow c6 hXr hb4 hs4 HU hXl c5
      go_upto_region 14 with (refine store32 ⟨SN, W4, L4, some ⟨g4, 0, none⟩, m4, m4⟩ X 9 _ _ (by with_reducible rfl) rfl rfl rfl HT4.out ?_)
      obtain ⟨u5, hu5⟩ : ∃ u5, u4.setCells X 9 [.int .i64 (SN : Int), .int .i64 (W4 : Int), .int .i64 (L4 : Int), .slice (some ⟨g4, 0, none⟩) m4 m4] = u5 := ⟨_, rfl⟩
      rw [hu5] at H4
      rw [hu5]
      clear hu5 HT4
      have c6 := H4.out.2.2.2.2.1
      have htp := HM.out.2.2.2.2.1 u5 H4.out.2.2.2.1
      have HTP := Lib.hid htp
      clear htp
      go_wp2_with fail
      (with_reducible refine HTP.out.mono ?_)
      rintro e u6 ⟨g6, L6, m6, rfl, hrow, hb6⟩
      obtain ⟨W6, hW6⟩ : ∃ W6, wid (mostI (pcL l)).toNat = W6 := ⟨_, rfl⟩
      rw [hW6] at hrow ⊢
      obtain ⟨hbx, hrs, hrk, -, -, hth, hty, htx, hthx, hbe, hW4, hX⟩ := H4.out
      have hs5 : X < u5.heap.size := hbx.lt
      have hs6 := hb6.size
      have hthx6 := there_kp hthx hs5 (Below.kp hb6) (fun h => h)
      have hbx6 := (hbx.kept hb6).partP ⟨T1, W6, L6, some ⟨g6, 0, none⟩, m6, m6⟩ (there_part hthx6 (by omega))
      have hkp : Kp (fun k => k = X) u6 (u6.setCells X 13 [.int .i64 (T1 : Int), .int .i64 (W6 : Int), .int .i64 (L6 : Int), .slice (some ⟨g6, 0, none⟩) m6 m6]) := setCells_kp X _ 13 u6
      have hn6 : ∀ b, b = X → NoW u6 b := fun b e => ⟨37, by decide, by rw [e]; exact htx.kept hb6⟩
      have hrow6 := hrow.typs hkp hn6
      have hrs6 := (hrs.kept hb6).typs hkp hn6
      have hrk6 := (hrk.kept hb6).typs hkp hn6
      have hth6 := there_kp (there_kp hth (show r < u5.heap.size by omega) (Below.kp hb6) (fun h => h)) (show r < u6.heap.size by omega) hkp (show ¬ r = X by omega)
      have hty6 := (hty.kept hb6).kp hkp (show ¬ r = X by omega)
      have hbe6 : Below w.heap.size w (u6.setCells X 13 [.int .i64 (T1 : Int), .int .i64 (W6 : Int), .int .i64 (L6 : Int), .slice (some ⟨g6, 0, none⟩) m6 m6]) := Below.setCells' (by omega) _ 13 (hbe.trans (hb6.mono hbe.size))
      have hsz6 := hkp.size
      have H6 := Lib.hid (And.intro hbx6 (And.intro hrow6 (And.intro hrs6 (And.intro hrk6 (And.intro hth6 (And.intro hty6 (And.intro hbe6 (And.intro hW4 (And.intro hX hs6)))))))))
      have ht6 := there_part hthx6 (show 13 + 4 ≤ 17 by omega)
      have HT6 := Lib.hid ht6
      clear hbx hrs hrk hth hty htx hthx hbe hW4 hX hs5 hs6 hthx6 hbx6 hkp hn6 hrow6 hrs6 hrk6 hth6 hty6 hbe6 hsz6 ht6 hrow hb6 HTP H4 c6
      go_upto_region 15 with (refine store32 ⟨T1, W6, L6, some ⟨g6, 0, none⟩, m6, m6⟩ X 13 _ _ (by with_reducible rfl) rfl rfl rfl HT6.out ?_)
      obtain ⟨u7, hu7⟩ : ∃ u7, u6.setCells X 13 [.int .i64 (T1 : Int), .int .i64 (W6 : Int), .int .i64 (L6 : Int), .slice (some ⟨g6, 0, none⟩) m6 m6] = u7 := ⟨_, rfl⟩
      rw [hu7] at H6
      rw [hu7]
      clear hu7 HT6
      obtain ⟨F7, hF7⟩ : ∃ F7 : FQ, F7 = ({ ({ FQ0 R IP0 IP0 with S := ⟨SN, W4, L4, some ⟨g4, 0, none⟩, m4, m4⟩ } : FQ) with P := ⟨T1, W6, L6, some ⟨g6, 0, none⟩, m6, m6⟩ } : FQ) := ⟨_, rfl⟩
      have hb7 : MBx u7 X F7 := by rw [hF7]; exact H6.out.1
      have HB7 := Lib.hid hb7
      have HT7 := Lib.hid H6.out.2.2.2.2.1
      have HF7 := Lib.hid hF7
      clear hb7 hF7
      go_wp2_with (first
        | (refine load36 HB7.out _ (by with_reducible rfl) rfl rfl ?_)
        | (refine store36 F7 r _ _ (by with_reducible rfl) rfl rfl rfl HT7.out ?_))
      obtain ⟨-, hrow, hrs, hrk, hth, hty, hbe, hW4, hX, -⟩ := H6.out
      have hst := MBx.stored F7 hth
      have hk7 := setCells_kp r [.int .i64 (F7.N : Int), .int .i64 F7.Z, .slice F7.wa F7.wW F7.wc, .int .i64 (F7.R.n : Int), .slice F7.R.a F7.R.m F7.R.c, .int .i64 (F7.R.cn : Int), .int .i64 (F7.R.cW : Int), .int .i64 (F7.R.cL : Int), .slice F7.R.a2 F7.R.m2 F7.R.c2, .int .i64 (F7.S.n : Int), .int .i64 (F7.S.W : Int), .int .i64 (F7.S.L : Int), .slice F7.S.a F7.S.m F7.S.c, .int .i64 (F7.P.n : Int), .int .i64 (F7.P.W : Int), .int .i64 (F7.P.L : Int), .slice F7.P.a F7.P.m F7.P.c] 0 u7
      have hbe8 : Below w.heap.size w (u7.setCells r 0 [.int .i64 (F7.N : Int), .int .i64 F7.Z, .slice F7.wa F7.wW F7.wc, .int .i64 (F7.R.n : Int), .slice F7.R.a F7.R.m F7.R.c, .int .i64 (F7.R.cn : Int), .int .i64 (F7.R.cW : Int), .int .i64 (F7.R.cL : Int), .slice F7.R.a2 F7.R.m2 F7.R.c2, .int .i64 (F7.S.n : Int), .int .i64 (F7.S.W : Int), .int .i64 (F7.S.L : Int), .slice F7.S.a F7.S.m F7.S.c, .int .i64 (F7.P.n : Int), .int .i64 (F7.P.W : Int), .int .i64 (F7.P.L : Int), .slice F7.P.a F7.P.m F7.P.c]) := Below.setCells' (by omega) _ 0 hbe
      have hn7 : ∀ b, b = r → NoW u7 b := fun b e => ⟨37, by decide, by rw [e]; exact hty⟩
      rw [HM.out.2.2.2.2.2.2.2] at hrs hW4
      have hMP : MP (u7.setCells r 0 [.int .i64 (F7.N : Int), .int .i64 F7.Z, .slice F7.wa F7.wW F7.wc, .int .i64 (F7.R.n : Int), .slice F7.R.a F7.R.m F7.R.c, .int .i64 (F7.R.cn : Int), .int .i64 (F7.R.cW : Int), .int .i64 (F7.R.cL : Int), .slice F7.R.a2 F7.R.m2 F7.R.c2, .int .i64 (F7.S.n : Int), .int .i64 (F7.S.W : Int), .int .i64 (F7.S.L : Int), .slice F7.S.a F7.S.m F7.S.c, .int .i64 (F7.P.n : Int), .int .i64 (F7.P.W : Int), .int .i64 (F7.P.L : Int), .slice F7.P.a F7.P.m F7.P.c]) F7 l := by
        generalize u7.setCells r 0 [.int .i64 (F7.N : Int), .int .i64 F7.Z, .slice F7.wa F7.wW F7.wc, .int .i64 (F7.R.n : Int), .slice F7.R.a F7.R.m F7.R.c, .int .i64 (F7.R.cn : Int), .int .i64 (F7.R.cW : Int), .int .i64 (F7.R.cL : Int), .slice F7.R.a2 F7.R.m2 F7.R.c2, .int .i64 (F7.S.n : Int), .int .i64 (F7.S.W : Int), .int .i64 (F7.S.L : Int), .slice F7.S.a F7.S.m F7.S.c, .int .i64 (F7.P.n : Int), .int .i64 (F7.P.W : Int), .int .i64 (F7.P.L : Int), .slice F7.P.a F7.P.m F7.P.c] = u8 at *
        rw [HF7.out]
        exact ⟨hrk.typs hk7 hn7, hrs.typs hk7 hn7, hrow.typs hk7 hn7, hW4.symm⟩
      generalize u7.setCells r 0 [.int .i64 (F7.N : Int), .int .i64 F7.Z, .slice F7.wa F7.wW F7.wc, .int .i64 (F7.R.n : Int), .slice F7.R.a F7.R.m F7.R.c, .int .i64 (F7.R.cn : Int), .int .i64 (F7.R.cW : Int), .int .i64 (F7.R.cL : Int), .slice F7.R.a2 F7.R.m2 F7.R.c2, .int .i64 (F7.S.n : Int), .int .i64 (F7.S.W : Int), .int .i64 (F7.S.L : Int), .slice F7.S.a F7.S.m F7.S.c, .int .i64 (F7.P.n : Int), .int .i64 (F7.P.W : Int), .int .i64 (F7.P.L : Int), .slice F7.P.a F7.P.m F7.P.c] = u8 at *
      refine bodyPost_ret (v := .agg #[.int .i64 (F7.N : Int), .int .i64 F7.Z, .slice F7.wa F7.wW F7.wc, .int .i64 (F7.R.n : Int), .slice F7.R.a F7.R.m F7.R.c, .int .i64 (F7.R.cn : Int), .int .i64 (F7.R.cW : Int), .int .i64 (F7.R.cL : Int), .slice F7.R.a2 F7.R.m2 F7.R.c2, .int .i64 (F7.S.n : Int), .int .i64 (F7.S.W : Int), .int .i64 (F7.S.L : Int), .slice F7.S.a F7.S.m F7.S.c, .int .i64 (F7.P.n : Int), .int .i64 (F7.P.W : Int), .int .i64 (F7.P.L : Int), .slice F7.P.a F7.P.m F7.P.c]) (results_fm (b := r) (F := F7) Tryz.results77 _ ?hp hst) ?hd ?_
      case hp => rfl
      case hd => rfl
      exact ⟨F7, rfl, hMP, hbe8⟩

end Go.Proofs.YtpnjccomngdblaaGreat
