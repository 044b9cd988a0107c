/- Lists that rise: the contracts of Rises and of the document's Rises; rising. -/
import Derived.Test.YtjijkiafjlfeiaaOK
set_option maxRecDepth 100000
namespace Go.Proofs.Ytjijkiafjlfeiaa
open Go.RowKit
open M
attribute [local go_sem ↓] Go.wp_at_zero Go.wp_at_succ

/-- Is each number less than the one behind it, up to i? -/
def riseN (l : List Int) (i : Nat) : Bool := (List.range (i - 1)).all fun j => decide (l.getD j 0 < l.getD (j + 1) 0)
theorem riseN_succ (l : List Int) (i : Nat) (h : 0 < i) : riseN l (i + 1) = (riseN l i && decide (l.getD (i - 1) 0 < l.getD i 0)) := by
  unfold riseN
  obtain ⟨k, rfl⟩ : ∃ k, i = k + 1 := ⟨i - 1, by omega⟩
  rw [show k + 1 + 1 - 1 = k + 1 by omega, show k + 1 - 1 = k by omega, List.range_succ, List.all_append]; simp
theorem riseN_bad (l : List Int) (n i : Nat) (h : 0 < i) (hi : i < n) (hb : ¬ l.getD (i - 1) 0 < l.getD i 0) : riseN l n = false := by
  unfold riseN
  rw [List.all_eq_false]
  refine ⟨i - 1, List.mem_range.2 (by omega), ?_⟩
  rw [show i - 1 + 1 = i by omega]
  simpa using hb

theorem rises_any (A : Option Addr) (n c : Nat) (l : List Int) (w : World) (h : NumsAt .i64 w A l) (hl : l.length = n) (hn : n ≤ 1000000) : Calls Try.prog 26 #[.slice A n c] w fun e w' => e = .returned (.bool (riseN l n)) ∧ w' = w := by
  have HX := Lib.hid (And.intro h hl)
  clear h hl
  go_enter Try.func26, Try.ntmps26
  go_wp2
  go_loopw [3, 4, 7] (fun _ _ v7 wr => ∃ i : Nat, i ≤ n ∧ v7 = .int .i64 (i : Int) ∧ wr = w ∧ riseN l i = true) (fun _ _ v7 _ => n - (intOf v7).toNat)
  case atStart => exact ⟨0, Nat.zero_le _, rfl, rfl, rfl⟩
  case round =>
    obtain ⟨i, hin, rfl, rfl, hr⟩ := hrel
    by_cases hlt : i < n
    · obtain ⟨bb, off, hAe, -, hcb⟩ := num_at HX.out.1 (i := i) (by rw [HX.out.2]; exact hlt)
      have q1 : (i : Int) < (n : Int) := by omega
      have q2 : (0 : Int) ≤ (i : Int) := by omega
      by_cases hi0 : i = 0
      · subst hi0
        rw [Nat.add_zero] at hcb
        subst hAe
        clear hr
        generalize l.getD 0 0 = x at *
        go_wp2
        go_roundw
        case rel => exact ⟨1, by omega, by go_num, trivial, rfl⟩
        case measure => simp [intOf]; omega
      · obtain ⟨ip, rfl⟩ : ∃ ip, i = ip + 1 := ⟨i - 1, by omega⟩
        obtain ⟨bb2, off2, hAe2, -, hcp⟩ := num_at HX.out.1 (i := ip) (by rw [HX.out.2]; omega)
        rw [hAe] at hAe2
        simp only [Option.some.injEq, Addr.mk.injEq, and_true] at hAe2
        obtain ⟨rfl, rfl⟩ := hAe2
        have hsu := riseN_succ l (ip + 1) (by omega)
        have hbad := riseN_bad l n (ip + 1) (by omega) hlt
        rw [show ip + 1 - 1 = ip by omega] at hsu hbad
        rw [hr] at hsu
        have HS := Lib.hid (And.intro hsu hbad)
        subst hAe
        clear hsu hbad hr
        generalize l.getD ip 0 = x at *
        generalize l.getD (ip + 1) 0 = y at *
        have q3 : (0 : Int) < (ip : Int) + 1 := by omega
        have q4 : IntKind.i64.wrap ((ip : Int) + 1 - 1) = (ip : Int) := by rw [Int.add_sub_cancel]; exact IntWalk.i64_in _ (by omega)
        have q5 : (ip : Int) < (n : Int) := by omega
        have q6 : (0 : Int) ≤ (ip : Int) := by omega
        by_cases hxy : x < y
        · have q7 : ¬ y ≤ x := by omega
          go_wp2
          go_roundw
          case rel => exact ⟨ip + 1 + 1, by omega, by go_num, trivial, by rw [HS.out.1, decide_eq_true hxy]; rfl⟩
          case measure => simp [intOf]; omega
        · have q7 : y ≤ x := by omega
          go_wp2
          go_ret
          exact ⟨by rw [HS.out.2 hxy]; rfl, rfl⟩
    · obtain rfl : i = n := by omega
      have HF := Lib.hid hr
      clear hr
      have q1 : ¬ (i : Int) < (i : Int) := by omega
      go_wp2
      go_ret
      exact ⟨by rw [HF.out]; rfl, rfl⟩

theorem rrises_any (A : Option Addr) (n c : Nat) (l : List Int) (w : World) (h : NumsAt .i64 w A l) (hl : l.length = n) (hn : n ≤ 1000000) : Calls Try.prog 27 #[.slice A n c] w fun e w' => e = .returned (.bool (riseN l n)) ∧ Below w.heap.size w w' := by
  have HX := Lib.hid (And.intro h hl)
  clear h hl
  go_enter Try.func27, Try.ntmps27
  go_wp2
  go_loopw [3] (fun v3 wr => ∃ i : Nat, 1 ≤ i ∧ (i ≤ n ∨ i = 1) ∧ v3 = .int .i64 (i : Int) ∧ riseN l i = true ∧ Below w.heap.size w wr) (fun v3 _ => n - (intOf v3).toNat)
  case atStart => exact ⟨1, by omega, by omega, rfl, rfl, Below.refl _ _⟩
  case round =>
    obtain ⟨i, hi1, hin, rfl, hr, hbw⟩ := hrel
    by_cases hlt : i < n
    · obtain ⟨ip, rfl⟩ : ∃ ip, i = ip + 1 := ⟨i - 1, by omega⟩
      have hnk := HX.out.1.kept hbw
      obtain ⟨bb, off, hAe, -, hcb⟩ := num_at hnk (i := ip + 1) (by rw [HX.out.2]; exact hlt)
      obtain ⟨bb2, off2, hAe2, -, hcp⟩ := num_at hnk (i := ip) (by rw [HX.out.2]; omega)
      rw [hAe] at hAe2
      simp only [Option.some.injEq, Addr.mk.injEq, and_true] at hAe2
      obtain ⟨rfl, rfl⟩ := hAe2
      have hsu := riseN_succ l (ip + 1) (by omega)
      have hbad := riseN_bad l n (ip + 1) (by omega) hlt
      rw [show ip + 1 - 1 = ip by omega] at hsu hbad
      rw [hr] at hsu
      have hfin : ∀ nq, Below w.heap.size w (wr.drewN nq) := fun nq => hbw.trans ((below_drewN wr nq).mono hbw.size)
      have HS := Lib.hid (And.intro hsu (And.intro hbad hfin))
      subst hAe
      clear hsu hbad hr hnk hbw hfin
      generalize l.getD ip 0 = x at *
      generalize l.getD (ip + 1) 0 = y at *
      have q1 : (ip : Int) + 1 < (n : Int) := by omega
      have q2 : (0 : Int) ≤ (ip : Int) + 1 := by omega
      have q4 : IntKind.i64.wrap ((ip : Int) + 1 - 1) = (ip : Int) := by rw [Int.add_sub_cancel]; exact IntWalk.i64_in _ (by omega)
      have q5 : (ip : Int) < (n : Int) := by omega
      have q6 : (0 : Int) ≤ (ip : Int) := by omega
      have q8 : ((ip : Int) + 1).toNat = ip + 1 := by omega
      by_cases hxy : x < y
      · have q7 : ¬ y ≤ x := by omega
        go_wp2
        go_quiet (fail)
        go_wp2
        go_roundw
        case rel => exact ⟨ip + 1 + 1, by omega, by omega, by go_num, by rw [HS.out.1, decide_eq_true hxy]; rfl, HS.out.2.2 _⟩
        case measure => simp [intOf]; omega
      · have q7 : y ≤ x := by omega
        go_wp2
        go_quiet (fail)
        go_wp2
        go_ret
        exact ⟨by rw [HS.out.2.1 hxy]; rfl, HS.out.2.2 _⟩
    · have hrn : riseN l n = true := by
        by_cases e : n = i
        · rw [e]; exact hr
        · unfold riseN
          rw [show n - 1 = 0 by omega]; rfl
      have HF := Lib.hid (And.intro hrn hbw)
      clear hr hbw hrn
      have q1 : ¬ (i : Int) < (n : Int) := by omega
      go_wp2
      go_ret
      exact ⟨by rw [HF.out.1]; rfl, HF.out.2⟩

/-- The numbers from 0 up to k that are among these. -/
def rsL (P : Nat → Bool) (k : Nat) : List Int := ((List.range k).filter P).map fun i : Nat => (i : Int)
theorem rsL_succ (P : Nat → Bool) (k : Nat) : rsL P (k + 1) = rsL P k ++ if P k = true then [(k : Int)] else [] := by
  unfold rsL
  rw [List.range_succ, List.filter_append, List.map_append, List.filter_cons]
  split <;> simp
theorem rsL_mem {P : Nat → Bool} {k : Nat} {x : Int} : x ∈ rsL P k ↔ ∃ i : Nat, x = (i : Int) ∧ i < k ∧ P i = true := by
  unfold rsL
  rw [List.mem_map]
  constructor
  · rintro ⟨i, hi, rfl⟩
    rw [List.mem_filter, List.mem_range] at hi
    exact ⟨i, rfl, hi.1, hi.2⟩
  · rintro ⟨i, rfl, h1, h2⟩
    exact ⟨i, by rw [List.mem_filter, List.mem_range]; exact ⟨h1, h2⟩, rfl⟩
theorem rsL_len (P : Nat → Bool) (k : Nat) : (rsL P k).length ≤ k := by
  unfold rsL
  rw [List.length_map]
  exact Nat.le_trans (List.length_filter_le _ _) (by rw [List.length_range]; exact Nat.le_refl _)
theorem rsL_rise (P : Nat → Bool) (k : Nat) : (rsL P k).Pairwise (· < ·) := by
  unfold rsL
  rw [List.pairwise_map]
  exact (List.pairwise_lt_range.filter _).imp fun h => by omega
theorem riseN_of {l : List Int} (h : l.Pairwise (· < ·)) : riseN l l.length = true := by
  unfold riseN
  rw [List.all_eq_true]
  intro j hj
  have hj' := List.mem_range.1 hj
  have := List.pairwise_iff_getElem.1 h j (j + 1) (by omega) (by omega) (by omega)
  simp only [List.getD_eq_getElem?_getD, List.getElem?_eq_getElem (show j < l.length by omega), List.getElem?_eq_getElem (show j + 1 < l.length by omega), Option.getD_some]
  exact decide_eq_true this

/-- A row of bits of the call's own. -/
structure DB (w : World) (D n : Nat) (d : Nat → Bool) (u : World) : Prop where
  cell : ∀ i, i < n → u.cell? ⟨D, i, none⟩ = some (.bool (d i))
  frz : ∀ i, i < n → u.frozen? ⟨D, i, none⟩ = false
  lo : w.heap.size ≤ D
  hi : D < u.heap.size
  bel : Below w.heap.size w u
theorem DB.set {w u : World} {D n : Nat} {d : Nat → Bool} (h : DB w D n d u) {i : Nat} (_hi : i < n) (x : Bool) : DB w D n (fun k => if k = i then x else d k) (u.setCell ⟨D, i, none⟩ (.bool x)) := by
  refine ⟨fun k hk => ?_, fun k hk => by simpa using h.frz k hk, h.lo, by simpa using h.hi, h.bel.setCell h.lo _⟩
  rw [cell_set _ _ _ _ _ _ (h.cell k hk)]
  by_cases e : k = i
  · simp [e]
  · simp [e]
theorem DB.kept {w u u' : World} {D n : Nat} {d : Nat → Bool} (h : DB w D n d u) (hb : Below u.heap.size u u') : DB w D n d u' :=
  ⟨fun i hi => by rw [hb.cell (p := ⟨D, i, none⟩) h.hi]; exact h.cell i hi, fun i hi => by rw [hb.frozen (p := ⟨D, i, none⟩) h.hi]; exact h.frz i hi, h.lo, Nat.lt_of_lt_of_le h.hi hb.size, h.bel.trans (hb.mono h.bel.size)⟩

def Z64 : Array Value := Array.replicate 64 (.bool false)
theorem zero43 (w : World) : (zeroValue 43).run Try.prog w = .ok (.agg Z64) w := by kernel_rfl
theorem Z64_at (i : Nat) (h : i < 64) : Z64[i]? = some (.bool false) := by simp [Z64, h]
theorem and63 (x : Int) : bits .and .i64 x 63 = x % 64 := and_mask x 6 (by omega)

/-- Some numbers from 0 to 63, rising. -/
def RisEnd (w : World) (e : Ending) (u : World) : Prop := ∃ (v : Value) (P : Nat → Bool), e = .returned v ∧ OwnI w v (rsL P 64) u

set_option maxHeartbeats 4000000 in
theorem rising_any (A : Option Addr) (n c : Nat) (l : List Int) (w : World) (hA : NumsAt .i64 w A l) (hl : l.length = n) : Calls Try.prog 21 #[.slice A n c] w (RisEnd w) := by
  have HX := Lib.hid (And.intro hA hl)
  clear hA hl
  have hz := zero43
  have hN : DB w w.heap.size 64 (fun _ => false) (w.alloc (.cells Z64 43)) :=
    ⟨fun i hi => by rw [cell_new _ _ _ _ _ rfl, Z64_at i hi], fun i _ => frozen_new _ _ _ _ _ rfl, Nat.le_refl _, by simp, (Below.refl _ _).alloc (Nat.le_refl _) _⟩
  have HN := Lib.hid hN
  clear hN
  go_enter Try.func21, Try.ntmps21
  go_wp2
  obtain ⟨N, hNe⟩ : ∃ N, N = w.heap.size := ⟨_, rfl⟩
  obtain ⟨w0, hw0⟩ : ∃ w0, w0 = w.alloc (.cells Z64 43) := ⟨_, rfl⟩
  rw [← hw0, ← hNe] at HN
  try rw [← hw0]
  rw [← hNe]
  clear hw0 hNe
  go_loopw [4] (fun v4 wr => ∃ (i : Nat) (d : Nat → Bool), i ≤ n ∧ i ≤ 64 ∧ v4 = .int .i64 (i : Int) ∧ DB w N 64 d wr) (fun v4 _ => 64 - (intOf v4).toNat)
  case atStart => exact ⟨0, _, Nat.zero_le _, by omega, rfl, HN.out⟩
  case round =>
    obtain ⟨i, d, hin, hi64, rfl, hDr⟩ := hrel
    clear HN
    by_cases hlt : i < n ∧ i < 64
    · obtain ⟨hl1, hl2⟩ := hlt
      obtain ⟨bb, off, hAe, -, hcb⟩ := num_at (HX.out.1.kept hDr.bel) (i := i) (by rw [HX.out.2]; exact hl1)
      have hand := and63 (l.getD i 0)
      obtain ⟨y, hy, hy2⟩ : ∃ y : Nat, l.getD i 0 % 64 = (y : Int) ∧ y < 64 := ⟨(l.getD i 0 % 64).toNat, by omega, by omega⟩
      rw [hy] at hand
      have c1 := hDr.cell y hy2
      have z1 := hDr.frz y hy2
      have hset := hDr.set hy2 true
      have HS := Lib.hid hset
      subst hAe
      clear hset hDr hy
      generalize l.getD i 0 = x at *
      generalize d y = b at *
      have q1 : (i : Int) < (n : Int) := by omega
      have q2 : (0 : Int) ≤ (i : Int) := by omega
      have q3 : (i : Int) < 64 := by omega
      have q4 : (y : Int) < 64 := by omega
      have q5 : (0 : Int) ≤ (y : Int) := by omega
      go_wp2
      go_roundw
      case rel => exact ⟨i + 1, _, by omega, by omega, by go_num, HS.out⟩
      case measure => simp [intOf]; omega
    · have HD := Lib.hid hDr
      clear hDr
      obtain ⟨w1, rfl⟩ : ∃ w1, w1 = wr := ⟨_, rfl⟩
      rcases (show (¬ (i : Int) < (n : Int)) ∨ ((i : Int) < (n : Int) ∧ ¬ (i : Int) < 64) by omega) with q1 | ⟨q1, q2⟩
      all_goals
        go_wp2
        go_loopw [5, 6] (fun v5 v6 wq => ∃ k : Nat, k ≤ 64 ∧ v6 = .int .i64 (k : Int) ∧ OwnI w1 v5 (rsL d k) wq) (fun _ v6 _ => 64 - (intOf v6).toNat)
        case atStart => exact ⟨0, by omega, rfl, World.ownsRow_nil _ _ _ _, Below.refl _ _⟩
        case round =>
          obtain ⟨k, hk, rfl, hI⟩ := hrel
          by_cases hlt2 : k < 64
          · have c1 := (HD.out.kept hI.2).cell k hlt2
            have hsu := rsL_succ d k
            have hln := rsL_len d k
            have hsz := hI.2.size
            have HI := Lib.hid (And.intro hI (And.intro hsu hln))
            clear hI hsu hln
            have q3 : (k : Int) < 64 := by omega
            have q4 : (0 : Int) ≤ (k : Int) := by omega
            obtain ⟨b, hb⟩ : ∃ b, b = d k := ⟨_, rfl⟩
            rw [← hb] at c1 HI
            clear hb
            rcases b with _ | _
            · go_wp2
              go_roundw
              case rel => exact ⟨k + 1, by omega, by go_num, by rw [HI.out.2.1, if_neg (by decide), List.append_nil]; exact HI.out.1⟩
              case measure => simp [intOf]; omega
            · go_wp2_with (first
                | (at_builtin
                   refine wpList_append_nums rfl (.tmp 30) (.tmp 32) rfl w1.heap.size _ _ _ rfl (HI.out.1.alloc _).1 (some ⟨_, 0, none⟩) 1 1 [(k : Int)] rfl rfl ?c1 (by simp) ?c2 ?c3 ?_))
              case c1 => exact nums_one _ _
              case c2 => have := HI.out.2.2; omega
              case c3 => first | omega | (simp; omega)
              intro v' w5 hown hgrow _
              have hI5 := (HI.out.1.alloc _).app (l' := rsL d k ++ [(k : Int)]) (by simpa using hown) hgrow
              have HX5 := Lib.hid hI5
              clear hown hgrow hI5
              go_wp2
              go_roundw
              case rel => exact ⟨k + 1, by omega, by go_num, by rw [HI.out.2.1, if_pos trivial]; exact HX5.out⟩
              case measure => simp [intOf]; omega
          · obtain rfl : k = 64 := by omega
            have q3 : ¬ ((64 : Nat) : Int) < 64 := by omega
            have HF := Lib.hid hI
            clear hI
            go_wp2
            go_ret
            exact ⟨_, d, rfl, own_mono HF.out.1 HD.out.bel.size, HD.out.bel.trans (HF.out.2.mono HD.out.bel.size)⟩

end Go.Proofs.Ytjijkiafjlfeiaa
