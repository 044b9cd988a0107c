/- The contracts of the document's own answers: Get, Same, Ones. -/
import Derived.Test.YtpbemhcibhnhkaaR
namespace Go.Proofs.Ytpbemhcibhnhkaa
open Go.RowKit
open M

set_option maxHeartbeats 400000 in
theorem rget_in (a0 : Option Addr) (cap n : Nat) (l : List Bool) (i : Nat) (w : World) (h : BoolsAt w a0 l) (hn : l.length = n) (hi : i < n) (_hl : n ≤ 1000000000) :
    Calls Try.prog 15 #[.slice a0 n cap, .int .i64 (i : Int)] w fun e w' => e = .returned (.tuple #[.bool (l.getD i false), .int .i64 0]) ∧ w = w' := by
  rcases h with rfl | ⟨b, off, rfl, h1, h2⟩
  · simp at hn; omega
  have hc := h2 i (by omega)
  generalize l.getD i false = v at *
  clear h2 hn
  go_enter Try.func15, Try.ntmps15
  go_wp2
  go_ret2
  exact ⟨rfl, rfl⟩

set_option maxHeartbeats 400000 in
theorem rget_out (a0 : Option Addr) (cap n : Nat) (i : Int) (w : World) (hi : i < 0 ∨ (n : Int) ≤ i) (_hl : n ≤ 1000000000) :
    Calls Try.prog 15 #[.slice a0 n cap, .int .i64 i] w fun e w' => e = .returned (.tuple #[.bool false, .int .i64 13]) ∧ w = w' := by
  by_cases h0 : i < 0
  · clear hi
    go_enter Try.func15, Try.ntmps15
    go_wp2
    go_ret2
    exact ⟨rfl, rfl⟩
  · have hi : (n : Int) ≤ i := by omega
    go_enter Try.func15, Try.ntmps15
    go_wp2
    go_ret2
    exact ⟨rfl, rfl⟩

/-- How many of the first i bits are 1 that stand from x on up to y. -/
def cntR (l : List Bool) (x y : Int) : Nat → Nat
  | 0 => 0
  | i + 1 => cntR l x y i + if x ≤ (i : Int) ∧ (i : Int) < y ∧ l.getD i false = true then 1 else 0

theorem cntR_le (l : List Bool) (x y : Int) (i : Nat) : cntR l x y i ≤ i := by
  induction i with
  | zero => simp [cntR]
  | succ i ih => simp only [cntR]; split <;> omega

theorem cntR_eq (l : List Bool) (x y : Int) (i : Nat) (hi' : i ≤ l.length) : cntR l x y i = cnt ((l.take (min i (hi l.length x y))).drop (lo l.length x)) := by
  induction i with
  | zero => simp [cntR, cnt]
  | succ i ih =>
    have ih := ih (by omega)
    have ha : lo l.length x ≤ l.length := by unfold lo; omega
    have hb : lo l.length x ≤ hi l.length x y ∧ hi l.length x y ≤ l.length := by unfold hi; omega
    have hiff : (x ≤ (i : Int) ∧ (i : Int) < y) ↔ (lo l.length x ≤ i ∧ i < hi l.length x y) := by unfold hi lo; omega
    simp only [cntR, ih]
    generalize lo l.length x = a at *
    generalize hi l.length x y = b at *
    by_cases h1 : i < b
    · rw [show min (i + 1) b = i + 1 by omega, show min i b = i by omega, take_snoc l i _ (by omega) rfl]
      by_cases h2 : a ≤ i
      · rw [List.drop_append_of_le_length (by simp; omega), cnt_append]
        have hc : x ≤ (i : Int) ∧ (i : Int) < y := hiff.2 ⟨h2, h1⟩
        simp only [hc.1, hc.2, true_and, cnt]
        simp
      · have e1 : (l.take i ++ [l.getD i false]).drop a = [] := List.drop_eq_nil_of_le (by simp; omega)
        have e2 : (l.take i).drop a = [] := List.drop_eq_nil_of_le (by simp; omega)
        rw [e1, e2]
        simp only [cnt, Nat.zero_add]
        have hc : ¬ (x ≤ (i : Int) ∧ (i : Int) < y) := fun h => h2 (hiff.1 h).1
        rw [if_neg (fun h => hc ⟨h.1, h.2.1⟩)]
    · rw [show min (i + 1) b = b by omega, show min i b = b by omega]
      have hc : ¬ (x ≤ (i : Int) ∧ (i : Int) < y) := fun h => h1 (hiff.1 h).2
      rw [if_neg (fun h => hc ⟨h.1, h.2.1⟩)]
      simp

theorem cntR_all (l : List Bool) (x y : Int) : cntR l x y l.length = onesN l x y := by
  have hb : hi l.length x y ≤ l.length := by unfold hi; omega
  rw [cntR_eq l x y l.length (by omega), show min l.length (hi l.length x y) = hi l.length x y by omega, List.drop_take]
  rfl

set_option maxHeartbeats 1000000 in
theorem rones_any (a0 : Option Addr) (cap n : Nat) (l : List Bool) (x y : Int) (w : World) (h : BoolsAt w a0 l) (hn : l.length = n) (hl : n ≤ 1000000000) :
    Calls Try.prog 23 #[.slice a0 n cap, .int .i64 x, .int .i64 y] w fun e w' => e = .returned (.int .i64 (onesN l x y : Nat)) ∧ w = w' := by
  have hend := cntR_all l x y
  rw [hn] at hend
  have HE := Lib.hid hend
  have HB := Lib.hid h
  have HN := Lib.hid hn
  clear hend h hn
  go_enter Try.func23, Try.ntmps23
  go_wp2
  go_loop [7, 8] (fun v7 v8 => ∃ i : Nat, i ≤ n ∧ v8 = .int .i64 (i : Int) ∧ v7 = .int .i64 (cntR l x y i : Nat)) (fun _ v8 => n - (intOf v8).toNat)
  case atStart => exact ⟨0, Nat.zero_le _, rfl, rfl⟩
  case round =>
    obtain ⟨i, hi, rfl, rfl⟩ := hrel
    have hcl := cntR_le l x y i
    by_cases hlt : i < n
    · rcases HB.out with hnil | ⟨b, off, rfl, hbs, hcs⟩
      · have := HN.out; subst hnil; simp at this; omega
      have hcb := hcs i (by rw [HN.out]; exact hlt)
      have hs : cntR l x y (i + 1) = cntR l x y i + if x ≤ (i : Int) ∧ (i : Int) < y ∧ l.getD i false = true then 1 else 0 := rfl
      have HS := Lib.hid hs
      clear hs hcs
      generalize hbv : l.getD i false = bv at *
      generalize cntR l x y i = cv at *
      clear hbv
      by_cases h1 : x ≤ (i : Int)
      · by_cases h2 : (i : Int) < y
        · cases bv
          · go_wp2
            go_round
            case rel => exact ⟨i + 1, by omega, by go_num, by rw [HS.out]; simp⟩
            case measure => simp [intOf]; omega
          · go_wp2
            go_round
            case rel => exact ⟨i + 1, by omega, by go_num, by rw [HS.out]; simp [h1, h2]⟩
            case measure => simp [intOf]; omega
        · go_wp2
          go_round
          case rel => exact ⟨i + 1, by omega, by go_num, by rw [HS.out]; simp [h2]⟩
          case measure => simp [intOf]; omega
      · go_wp2
        go_round
        case rel => exact ⟨i + 1, by omega, by go_num, by rw [HS.out]; simp [h1]⟩
        case measure => simp [intOf]; omega
    · obtain rfl : i = n := by omega
      rw [HE.out]
      go_wp2
      go_ret
      exact ⟨rfl, rfl⟩

set_option maxHeartbeats 1000000 in
theorem rsame_any (a1 a2 : Option Addr) (n1 n2 c1 c2 : Nat) (l1 l2 : List Bool) (w : World) (h1 : BoolsAt w a1 l1) (h2 : BoolsAt w a2 l2) (e1 : l1.length = n1) (e2 : l2.length = n2) (hl : n1 ≤ 1000000000) :
    Calls Try.prog 18 #[.slice a1 n1 c1, .slice a2 n2 c2] w fun e w' => e = .returned (.bool (decide (l1 = l2))) ∧ Below w.heap.size w w' := by
  by_cases hne : n1 = n2
  · subst hne
    have H1 := Lib.hid (And.intro h1 e1)
    have H2 := Lib.hid (And.intro h2 e2)
    clear h1 h2 e1 e2
    go_enter Try.func18, Try.ntmps18
    go_wp2
    go_loopw [5] (fun v wr => ∃ i : Nat, i ≤ n1 ∧ v = .int .i64 (i : Int) ∧ l1.take i = l2.take i ∧ Below w.heap.size w wr) (fun v _ => n1 - (intOf v).toNat)
    case atStart => exact ⟨0, Nat.zero_le _, rfl, rfl, Below.refl _ _⟩
    case round =>
      obtain ⟨i, hi, rfl, htk, hbel⟩ := hrel
      by_cases hlt : i < n1
      · have hl1 := H1.out.2
        have hl2 := H2.out.2
        rcases H1.out.1.kept hbel with hnil | ⟨b1, o1, rfl, hb1, hc1⟩
        · subst hnil; simp at hl1; omega
        rcases H2.out.1.kept hbel with hnil | ⟨b2, o2, rfl, hb2, hc2⟩
        · subst hnil; simp at hl2; omega
        have d1 := hc1 i (by omega)
        have d2 := hc2 i (by omega)
        have q1 : (i : Int) < (n1 : Int) := by omega
        have q3 : (0 : Int) ≤ (i : Int) := by omega
        have ht1 := take_snoc l1 i _ (by omega) rfl
        have ht2 := take_snoc l2 i _ (by omega) rfl
        by_cases he : l1.getD i false = l2.getD i false
        · have htk2 : l1.take (i + 1) = l2.take (i + 1) := by rw [ht1, ht2, htk, he]
          have HT := Lib.hid (And.intro htk2 hbel)
          rw [← he] at d2
          clear htk2 ht1 ht2 htk he hc1 hc2 hl1 hl2 hbel
          generalize l1.getD i false = bv at *
          have hbn : (bv != bv) = false := by simp
          go_wp2
          go_quiet (fail)
          go_wp2
          go_roundw
          case rel => exact ⟨i + 1, by omega, by go_num, HT.out.1, below_drewN HT.out.2 _⟩
          case measure => simp [intOf]; omega
        · have hneq : l1 ≠ l2 := fun e => he (by rw [e])
          have HT := Lib.hid (And.intro hneq hbel)
          clear ht1 ht2 htk hc1 hc2 hl1 hl2 hbel hneq
          generalize l1.getD i false = bv at *
          generalize l2.getD i false = cv at *
          cases bv
          · cases cv
            · exact absurd rfl he
            · clear he
              go_wp2
              go_quiet (fail)
              go_wp2
              go_ret
              exact ⟨ret_bool (by rw [decide_eq_false HT.out.1]), below_drewN HT.out.2 _⟩
          · cases cv
            · clear he
              go_wp2
              go_quiet (fail)
              go_wp2
              go_ret
              exact ⟨ret_bool (by rw [decide_eq_false HT.out.1]), below_drewN HT.out.2 _⟩
            · exact absurd rfl he
      · obtain rfl : i = n1 := by omega
        have heq : l1 = l2 := by
          have := htk
          rw [List.take_of_length_le (by rw [H1.out.2]; omega), List.take_of_length_le (by rw [H2.out.2]; omega)] at this
          exact this
        have HT := Lib.hid (And.intro heq hbel)
        clear heq hbel htk
        go_wp2
        go_ret
        exact ⟨ret_bool (by rw [decide_eq_true HT.out.1]), HT.out.2⟩
  · have hneq : l1 ≠ l2 := fun e => hne (by rw [← e1, ← e2, e])
    have HT := Lib.hid hneq
    clear h1 h2 e1 e2 hneq
    have hb1 : ((n1 : Int) != (n2 : Int)) = true := by simp; omega
    have hb2 : (n1 != n2) = true := by simp; omega
    go_enter Try.func18, Try.ntmps18
    go_wp2
    go_ret
    exact ⟨ret_bool (by rw [decide_eq_false HT.out]), Below.refl _ _⟩

end Go.Proofs.Ytpbemhcibhnhkaa
