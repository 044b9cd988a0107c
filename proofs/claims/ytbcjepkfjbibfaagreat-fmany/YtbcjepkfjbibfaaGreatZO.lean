/- The contracts of few, symbols, and of the document's Stands, Find, Range, Extract. -/
import Derived.Test.YtbcjepkfjbibfaaGreatZG
import Derived.Test.YtbcjepkfjbibfaaGreatYY
set_option maxRecDepth 100000
namespace Go.Proofs.YtbcjepkfjbibfaaGreat
open Go.RowKit
open M
attribute [local go_sem ↓] Go.wp_at_zero Go.wp_at_succ

theorem few_any (A : Option Addr) (n c m : Nat) (w : World) (hc : n ≤ c) : Calls Tryz.prog 10 #[.slice A n c, .int .i64 (m : Int)] w fun e w' => e = .returned (.slice A (min n m) c) ∧ w' = w := by
  by_cases h : m < n
  · have q1 : (m : Int) < (n : Int) := by omega
    have q2 : (m : Int) ≤ (c : Int) := by omega
    have q3 : (m : Int) ≤ (n : Int) := by omega
    have q4 : (0 : Int) ≤ (m : Int) := by omega
    rw [Nat.min_eq_right (by omega)]
    go_enter Tryz.func10, Tryz.ntmps10
    go_wp2
    go_ret
    exact ⟨rfl, rfl⟩
  · have q1 : ¬ (m : Int) < (n : Int) := by omega
    rw [Nat.min_eq_left (by omega)]
    go_enter Tryz.func10, Tryz.ntmps10
    go_wp2
    go_ret
    exact ⟨rfl, rfl⟩

set_option maxHeartbeats 2000000 in
theorem symbols_any (A : Option Addr) (n c : Nat) (l : List Int) (q : Int) (w : World) (hA : NumsAt .i64 w A l) (hl : l.length = n) :
    Calls Tryz.prog 14 #[.slice A n c, .int .i64 q] w fun e u => ∃ v, e = .returned (.tuple #[v, .int .i64 (kind8 q : Nat)]) ∧ OwnI w v (cutL (kind8 q) l (min n 60)) u := by
  obtain ⟨h1, h2, h3⟩ := kind8_in q
  have hand := and7 q
  obtain ⟨s, hs⟩ : ∃ s, kind8 q = s := ⟨_, rfl⟩
  rw [hs] at h1 h2 h3 ⊢
  obtain ⟨t, ht⟩ : ∃ t, q % 8 = t := ⟨_, rfl⟩
  rw [ht] at hand h3
  have hw : IntKind.i64.wrap (1 + t) = (s : Int) := by rw [← h3]; exact IntWalk.i64_in _ (by omega)
  have HX := Lib.hid (And.intro hA hl)
  obtain ⟨m, hm⟩ : ∃ m, min n 60 = m := ⟨_, rfl⟩
  rw [hm]
  have hm1 : m ≤ n := by omega
  have hm2 : m ≤ 60 := by omega
  have hm3 : m < n → m = 60 := by omega
  have h0 : ((s : Int) == 0) = false := by simp; omega
  have h0' : (s : Int) ≠ 0 := by omega
  clear hA hl hs ht hm h3
  go_enter Tryz.func14, Tryz.ntmps14
  go_wp2
  clear hw hand
  go_loopw [7, 8] (fun v6 v7 wr => ∃ i : Nat, i ≤ m ∧ v7 = .int .i64 (i : Int) ∧ OwnI w v6 (cutL s l i) wr) (fun _ v7 _ => m - (intOf v7).toNat)
  case atStart => exact ⟨0, Nat.zero_le _, rfl, World.ownsRow_nil _ _ _ _, Below.refl _ _⟩
  case round =>
    obtain ⟨i, hin, rfl, hI⟩ := hrel
    by_cases hlt : i < m
    · obtain ⟨bb, off, hAe, hbl, hcb⟩ := num_at (HX.out.1.kept hI.2) (i := i) (by rw [HX.out.2]; omega)
      have hsu := cutL_succ s l i (by rw [HX.out.2]; omega)
      have hml := cutL_len s l i (by rw [HX.out.2]; omega)
      generalize l.getD i 0 = x at *
      have hsz := hI.2.size
      have HM := Lib.hid (And.intro hI (And.intro hsu hml))
      subst hAe
      clear hI hsu hml
      obtain ⟨y, hy⟩ : ∃ y, x.tmod s = y := ⟨_, rfl⟩
      have t1 := Int.tmod_lt_of_pos x (b := (s : Int)) (by omega)
      have t2 := Int.lt_tmod_of_pos x (b := (s : Int)) (by omega)
      rw [hy] at t1 t2
      obtain ⟨z, hz⟩ : ∃ z, z = cutI s x := ⟨_, rfl⟩
      rw [← hz] at HM
      have hyz : (y + (s : Int)).tmod s = z := by rw [hz]; unfold cutI; rw [hy]
      clear hz
      have qw : IntKind.i64.wrap (y + (s : Int)) = y + (s : Int) := IntWalk.i64_in _ (by omega)
      have q1 : (i : Int) < (n : Int) := by omega
      have q2 : (0 : Int) ≤ (i : Int) := by omega
      have q3 : (i : Int) < 60 := by omega
      go_wp2_with (first
        | (at_builtin
           refine wpList_append_nums rfl (.tmp 22) (.tmp 33) rfl w.heap.size _ _ _ rfl (HM.out.1.alloc _).1 (some ⟨_, 0, none⟩) 1 1 [z] rfl rfl ?c1 (by simp) ?c2 ?c3 ?_))
      case c1 => exact nums_one _ _
      case c2 => rw [HM.out.2.2]; omega
      case c3 => first | omega | (simp; omega)
      intro v' w5 hown hgrow _
      have hI5 := (HM.out.1.alloc _).app (l' := cutL s l i ++ [z]) (by simpa using hown) hgrow
      have HX5 := Lib.hid hI5
      clear hown hgrow hI5
      go_wp2
      go_roundw
      case rel => exact ⟨i + 1, by omega, by go_num, by rw [HM.out.2.1]; exact HX5.out⟩
      case measure => simp [intOf]; omega
    · obtain rfl : i = m := by omega
      have HF := Lib.hid hI
      clear hI
      by_cases hn : i < n
      · have q1 : (i : Int) < (n : Int) := by omega
        have q3 : ¬ (i : Int) < 60 := by have := hm3 hn; omega
        go_wp2
        go_ret2
        exact ⟨_, rfl, HF.out⟩
      · have q1 : ¬ (i : Int) < (n : Int) := by omega
        go_wp2
        go_ret2
        exact ⟨_, rfl, HF.out⟩

set_option maxHeartbeats 2000000 in
theorem stands_any (A P : Option Addr) (n np c cp : Nat) (l p : List Int) (q : Nat) (w : World) (hA : NumsAt .i64 w A l) (hP : NumsAt .i64 w P p) (hl : l.length = n) (hp : p.length = np) (hq : q ≤ n) (hn : n ≤ 1000000) (hnp : np ≤ 1000000) :
    Calls Tryz.prog 36 #[.slice A n c, .slice P np cp, .int .i64 (q : Int)] w fun e w' => e = .returned (.bool (stB l p q)) ∧ ∃ m, w' = w.drewN m := by
  obtain ⟨r, hr⟩ : ∃ r, stB l p q = r := ⟨_, rfl⟩
  have hst := st_at (l := l) p q
  rw [hr] at hst ⊢
  rw [hl, hp] at hst
  have HX := Lib.hid (And.intro hA (And.intro hP (And.intro hl (And.intro hp hst))))
  clear hA hP hl hp hr hst
  have q0 : ¬ (q : Int) < 0 := by omega
  have q1 : ¬ (n : Int) < (q : Int) := by omega
  have q2 : IntKind.i64.wrap ((n : Int) - (q : Int)) = (n : Int) - (q : Int) := IntWalk.i64_in _ (by omega)
  by_cases hlong : (n : Int) - (q : Int) < (np : Int)
  · have hrf : r = false := by
      rw [← Bool.not_eq_true]
      intro e
      have := (HX.out.2.2.2.2.1 e).1
      omega
    subst hrf
    go_enter Tryz.func36, Tryz.ntmps36
    go_wp2
    go_ret
    exact ⟨rfl, 0, rfl⟩
  · go_enter Tryz.func36, Tryz.ntmps36
    go_wp2
    clear q2
    go_loopw [7] (fun v wr => ∃ i : Nat, i ≤ np ∧ v = .int .i64 (i : Int) ∧ (∀ j, j < i → l.getD (q + j) 0 = p.getD j 0) ∧ ∃ m, wr = w.drewN m) (fun v _ => np - (intOf v).toNat)
    case atStart => exact ⟨0, Nat.zero_le _, rfl, fun j hj => by omega, 0, rfl⟩
    case round =>
      obtain ⟨i, hin, rfl, heq, m, hm⟩ := hrel
      have hbel : Below w.heap.size w wr := by rw [hm]; exact below_drN w m
      by_cases hlt : i < np
      · obtain ⟨bb, off, hAe, -, c1⟩ := num_at (HX.out.1.kept hbel) (i := q + i) (by rw [HX.out.2.2.1]; omega)
        obtain ⟨b2, o2, hPe, -, c2⟩ := num_at (HX.out.2.1.kept hbel) (i := i) (by rw [HX.out.2.2.2.1]; exact hlt)
        obtain ⟨x, hx⟩ : ∃ x, l.getD (q + i) 0 = x := ⟨_, rfl⟩
        obtain ⟨y, hy⟩ : ∃ y, p.getD i 0 = y := ⟨_, rfl⟩
        rw [hx] at c1
        rw [hy] at c2
        obtain ⟨k, hk⟩ : ∃ k, q + i = k := ⟨_, rfl⟩
        rw [hk] at c1
        have HE := Lib.hid (And.intro heq (And.intro hx (And.intro hy hm)))
        subst hAe
        subst hPe
        clear heq hx hy hm hbel
        have q3 : (i : Int) < (np : Int) := by omega
        have q4 : (0 : Int) ≤ (i : Int) := by omega
        have q5 : IntKind.i64.wrap ((q : Int) + (i : Int)) = (k : Int) := by rw [← hk, Int.natCast_add]; exact IntWalk.i64_in _ (by omega)
        have q6 : (k : Int) < (n : Int) := by omega
        have q7 : (0 : Int) ≤ (k : Int) := by omega
        by_cases e : x = y
        · subst e
          have qn : (x != x) = false := by simp
          go_wp2
          go_quiet (fail)
          go_wp2
          go_roundw
          case rel =>
            obtain ⟨heq, hx, hy, rfl⟩ := HE.out
            refine ⟨i + 1, by omega, by go_num, fun j hj => ?_, m + nq, by rw [World.drewN_drewN]⟩
            by_cases ej : j = i
            · rw [ej, hx, hy]
            · exact heq j (by omega)
          case measure => simp [intOf]; omega
        · have qn : (x != y) = true := by simpa using e
          have hrf : r = false := by
            rw [← Bool.not_eq_true]
            intro h
            have := (HX.out.2.2.2.2.1 h).2 i hlt
            rw [HE.out.2.1, HE.out.2.2.1] at this
            exact e this
          subst hrf
          go_wp2
          go_quiet (fail)
          go_wp2
          go_ret
          obtain ⟨-, -, -, rfl⟩ := HE.out
          exact ⟨rfl, _, by rw [World.drewN_drewN]⟩
      · obtain rfl : i = np := by omega
        have hrt : r = true := HX.out.2.2.2.2.2 ⟨by omega, heq⟩
        subst hrt
        have HM := Lib.hid hm
        have q3 : ¬ (i : Int) < (i : Int) := by omega
        clear heq hm hbel
        go_wp2
        go_ret
        exact ⟨rfl, m, HM.out⟩

end Go.Proofs.YtbcjepkfjbibfaaGreat
