/- The contracts of symbols and of the document's Distinct. -/
import Derived.Test.YtnedjbeemijmlaaWA
set_option maxRecDepth 100000
namespace Go.Proofs.Ytnedjbeemijmlaa
open Go.RowKit
open M
attribute [local go_sem ↓] Go.wp_at_zero Go.wp_at_succ

/-- What symbols tells: a size from 1 to 32, and some symbols of that size, 80 at most, in a list of its own. -/
def SymsEnd (w : World) (e : Ending) (w' : World) : Prop :=
  ∃ (s : Nat) (v : Value) (m : List Int), e = .returned (.tuple #[v, .int .i64 (s : Int)]) ∧ 1 ≤ s ∧ s ≤ 32 ∧ m.length ≤ 80 ∧ (∀ x ∈ m, 0 ≤ x ∧ x < (s : Int)) ∧ OwnI w v m w'

theorem nums_one (w : World) (y : Int) : NumsAt .i64 (w.alloc (.cells #[.int .i64 y] 3)) (some ⟨w.heap.size, 0, none⟩) [y] := by
  refine .inr ⟨w.heap.size, 0, rfl, by simp, fun j hj => ?_⟩
  match j, hj with
  | 0, _ => simp

set_option maxHeartbeats 2000000 in
theorem symbols_any (a : Option Addr) (n cap : Nat) (l : List Int) (size : Int) (w : World) (h : NumsAt .i64 w a l) (hl : l.length = n) :
    Calls Try.prog 22 #[.slice a n cap, .int .i64 size] w (SymsEnd w) := by
  have hand : bits .and .i64 size 31 = size % 32 := and_mask size 5 (by omega)
  obtain ⟨s, hs, hs1, hs2⟩ : ∃ s : Nat, 1 + size % 32 = (s : Int) ∧ 1 ≤ s ∧ s ≤ 32 := ⟨(1 + size % 32).toNat, by omega, by omega, by omega⟩
  obtain ⟨t, ht⟩ : ∃ t, size % 32 = t := ⟨_, rfl⟩
  rw [ht] at hand hs
  clear ht
  have hw : IntKind.i64.wrap (1 + t) = 1 + t := IntWalk.i64_in _ (by omega)
  have HH := Lib.hid (And.intro h hl)
  clear h hl
  go_enter Try.func22, Try.ntmps22
  go_wp2
  have h0 : ((s : Int) == 0) = false := by simp; omega
  clear hs hw hand
  go_loopw [7, 8] (fun v7 v8 wr => ∃ (i : Nat) (p : List Int), i ≤ n ∧ i ≤ 80 ∧ v8 = .int .i64 (i : Int) ∧ p.length = i ∧ (∀ x ∈ p, 0 ≤ x ∧ x < (s : Int)) ∧ OwnI w v7 p wr) (fun _ v8 _ => 80 - (intOf v8).toNat)
  case atStart => exact ⟨0, [], Nat.zero_le _, Nat.zero_le _, rfl, rfl, by simp, World.ownsRow_nil _ _ _ _, Below.refl _ _⟩
  case round =>
    obtain ⟨i, p, hin, hi80, rfl, hpl, hsm, hI⟩ := hrel
    by_cases hlt : i < n
    · by_cases h80 : i < 80
      · obtain ⟨bb, off, rfl, hbl, hcb⟩ := num_at (HH.out.1.kept hI.2) (i := i) (by rw [HH.out.2]; exact hlt)
        generalize l.getD i 0 = x at *
        obtain ⟨y, hy⟩ : ∃ y, x.tmod s = y := ⟨_, rfl⟩
        have t1 := Int.tmod_lt_of_pos x (b := (s : Int)) (by omega)
        have t2 := Int.lt_tmod_of_pos x (b := (s : Int)) (by omega)
        rw [hy] at t1 t2
        have hsz := hI.2.size
        have q1 : (i : Int) < (n : Int) := by omega
        have q2 : (0 : Int) ≤ (i : Int) := by omega
        have q3 : (i : Int) < 80 := by omega
        by_cases hneg : y < 0
        · have HB := Lib.hid (And.intro hI (And.intro hpl hsm))
          clear hI hpl hsm
          go_wp2_with (first
            | (at_builtin
               refine wpList_append_nums rfl (.tmp 33) (.tmp 35) rfl w.heap.size _ _ _ rfl (HB.out.1.alloc _).1 (some ⟨_, 0, none⟩) 1 1 [-y] rfl rfl ?c1 (by simp) ?c2 ?c3 ?_))
          case c1 => exact nums_one _ _
          case c2 => rw [HB.out.2.1]; omega
          case c3 => first | omega | (simp; omega)
          intro v' w5 hown hgrow _
          have hI5 := (HB.out.1.alloc _).app (l' := p ++ [-y]) (by simpa using hown) hgrow
          have HX5 := Lib.hid hI5
          clear hown hgrow hI5
          go_wp2
          go_roundw
          case rel =>
            refine ⟨i + 1, p ++ [-y], by omega, by omega, by go_num, by rw [List.length_append, HB.out.2.1]; rfl, ?_, HX5.out⟩
            intro x hx
            rcases List.mem_append.1 hx with h | h
            · exact HB.out.2.2 x h
            · simp only [List.mem_singleton] at h; subst h; constructor <;> omega
          case measure => simp [intOf]; omega
        · have HB := Lib.hid (And.intro hI (And.intro hpl hsm))
          clear hI hpl hsm
          go_wp2_with (first
            | (at_builtin
               refine wpList_append_nums rfl (.tmp 33) (.tmp 35) rfl w.heap.size _ _ _ rfl (HB.out.1.alloc _).1 (some ⟨_, 0, none⟩) 1 1 [y] rfl rfl ?c1 (by simp) ?c2 ?c3 ?_))
          case c1 => exact nums_one _ _
          case c2 => rw [HB.out.2.1]; omega
          case c3 => first | omega | (simp; omega)
          intro v' w5 hown hgrow _
          have hI5 := (HB.out.1.alloc _).app (l' := p ++ [y]) (by simpa using hown) hgrow
          have HX5 := Lib.hid hI5
          clear hown hgrow hI5
          go_wp2
          go_roundw
          case rel =>
            refine ⟨i + 1, p ++ [y], by omega, by omega, by go_num, by rw [List.length_append, HB.out.2.1]; rfl, ?_, HX5.out⟩
            intro x hx
            rcases List.mem_append.1 hx with h | h
            · exact HB.out.2.2 x h
            · simp only [List.mem_singleton] at h; subst h; constructor <;> omega
          case measure => simp [intOf]; omega
      · have HY := Lib.hid (And.intro hpl (And.intro hsm hI))
        clear hpl hsm hI
        go_wp2
        go_ret2
        exact ⟨s, _, p, rfl, hs1, hs2, by rw [HY.out.1]; omega, HY.out.2.1, HY.out.2.2⟩
    · have HY := Lib.hid (And.intro hpl (And.intro hsm hI))
      clear hpl hsm hI
      go_wp2
      go_ret2
      exact ⟨s, _, p, rfl, hs1, hs2, by rw [HY.out.1]; omega, HY.out.2.1, HY.out.2.2⟩

/-- Whether x stands in l from f on up to t, among the first k places. -/
def isTo (l : List Int) (f t : Int) (x : Int) (k : Nat) : Bool := (List.range k).any fun j => decide (f ≤ (j : Int)) && decide ((j : Int) < t) && decide (l.getD j 0 = x)
theorem isTo_succ (l : List Int) (f t : Int) (x : Int) (k : Nat) : isTo l f t x (k + 1) = (isTo l f t x k || (decide (f ≤ (k : Int)) && decide ((k : Int) < t) && decide (l.getD k 0 = x))) := by
  unfold isTo; rw [List.range_succ, List.any_append]; simp
/-- Which of the numbers below c stand there. -/
def disTo (l : List Int) (f t : Int) (c : Nat) : List Int := ((List.range c).filter fun (x : Nat) => isTo l f t (x : Int) l.length).map Int.ofNat
theorem disTo_succ (l : List Int) (f t : Int) (c : Nat) : disTo l f t (c + 1) = disTo l f t c ++ if isTo l f t (c : Int) l.length = true then [(c : Int)] else [] := by
  unfold disTo; rw [List.range_succ, List.filter_append, List.map_append]
  congr 1
  by_cases h : isTo l f t (c : Int) l.length = true
  · rw [if_pos h]; simp [h]
  · rw [if_neg h]; simp [h]
theorem disTo_len (l : List Int) (f t : Int) (c : Nat) : (disTo l f t c).length ≤ c := by
  unfold disTo; rw [List.length_map]
  exact Nat.le_trans (List.length_filter_le _ _) (by simp)

set_option maxHeartbeats 4000000 in
theorem wdistinct_any (a : Option Addr) (n cap : Nat) (l : List Int) (f t : Int) (w : World) (h : NumsAt .i64 w a l) (hl : l.length = n) (hn : n ≤ 1000000000) (M : Nat) (hM : mostI l = (M : Int)) (hM2 : M ≤ 1000000) :
    Calls Try.prog 26 #[.slice a n cap, .int .i64 f, .int .i64 t] w fun e w' => ∃ v, e = .returned v ∧ OwnI w v (disTo l f t (M + 1)) w' := by
  have HH := Lib.hid (And.intro h hl)
  have HM := Lib.hid (fun u (hb : Below w.heap.size w u) => wmost_any a n cap l u (h.kept hb) hl hn)
  clear h hl
  have HD := Lib.hid (fun k => disTo_len l f t k)
  go_enter Try.func26, Try.ntmps26
  go_wp2
  go_loopw [7, 8] (fun v7 v8 wr => ∃ c : Nat, c ≤ M + 1 ∧ v8 = .int .i64 (c : Int) ∧ OwnI w v7 (disTo l f t c) wr) (fun _ v8 _ => M + 1 - (intOf v8).toNat)
  case atStart => exact ⟨0, Nat.zero_le _, rfl, by simpa [disTo] using World.ownsRow_nil _ _ _ _, Below.refl _ _⟩
  case round =>
    obtain ⟨c, hc, rfl, hI⟩ := hrel
    have HI := Lib.hid hI
    clear hI
    go_wp2_with fail
    refine (HM.out _ HI.out.2).mono ?_
    rintro e u ⟨rfl, rfl⟩
    rw [hM]
    by_cases hcm : c ≤ M
    · have q1 : (c : Int) ≤ (M : Int) := by omega
      go_wp2
      go_loopw [9, 10] (fun v9 v10 wq => ∃ k : Nat, k ≤ n ∧ v10 = .int .i64 (k : Int) ∧ v9 = .bool (isTo l f t c k) ∧ wq = wr) (fun _ v10 _ => n - (intOf v10).toNat)
      case atStart => exact ⟨0, Nat.zero_le _, rfl, by simp [isTo], rfl⟩
      case round =>
        obtain ⟨k, hk, rfl, rfl, rfl⟩ := hrel
        by_cases hkn : k < n
        · obtain ⟨bb, off, rfl, hbl, hcb⟩ := num_at (HH.out.1.kept HI.out.2) (i := k) (by rw [HH.out.2]; exact hkn)
          have hs := isTo_succ l f t c k
          generalize l.getD k 0 = y at *
          have HS := Lib.hid hs
          clear hs
          generalize isTo l f t (c : Int) k = d at *
          have q2 : (k : Int) < (n : Int) := by omega
          have q3 : (0 : Int) ≤ (k : Int) := by omega
          cases d
          · by_cases h1 : f ≤ (k : Int)
            · by_cases h2 : (k : Int) < t
              · by_cases h3 : y = (c : Int)
                · subst h3
                  go_wp2
                  go_roundw
                  case rel => exact ⟨k + 1, by omega, by go_num, by rw [HS.out]; simp [h1, h2], trivial⟩
                  case measure => simp [intOf]; omega
                · have h4 : (y == (c : Int)) = false := by simpa using h3
                  go_wp2
                  go_roundw
                  case rel => exact ⟨k + 1, by omega, by go_num, by rw [HS.out]; simp [h1, h2, h3], trivial⟩
                  case measure => simp [intOf]; omega
              · go_wp2
                go_roundw
                case rel => exact ⟨k + 1, by omega, by go_num, by rw [HS.out]; simp [h1, h2], trivial⟩
                case measure => simp [intOf]; omega
            · go_wp2
              go_roundw
              case rel => exact ⟨k + 1, by omega, by go_num, by rw [HS.out]; simp [h1], trivial⟩
              case measure => simp [intOf]; omega
          · go_wp2
            go_roundw
            case rel => exact ⟨k + 1, by omega, by go_num, by rw [HS.out]; simp, trivial⟩
            case measure => simp [intOf]; omega
        · obtain rfl : k = n := by omega
          have hs := disTo_succ l f t c
          rw [HH.out.2] at hs
          have hln := HD.out c
          have hsz := HI.out.2.size
          cases hd : isTo l f t (c : Int) k
          · rw [hd, if_neg (by simp), List.append_nil] at hs
            have HS := Lib.hid hs
            clear hs hd
            go_wp2
            go_roundw
            case rel => exact ⟨c + 1, by omega, by go_num, by rw [HS.out]; exact HI.out⟩
            case measure => simp [intOf]; omega
          · rw [hd, if_pos rfl] at hs
            have HS := Lib.hid hs
            clear hs hd
            go_wp2_with (first
              | (at_builtin
                 refine wpList_append_nums rfl (.tmp 43) (.tmp 45) rfl w.heap.size _ _ _ rfl (HI.out.alloc _).1 (some ⟨_, 0, none⟩) 1 1 [(c : Int)] rfl rfl ?c1 (by simp) ?c2 ?c3 ?_))
            case c1 => exact nums_one _ _
            case c2 => omega
            case c3 => first | omega | (simp; omega)
            intro v' w5 hown hgrow _
            have hI5 := (HI.out.alloc _).app (l' := disTo l f t (c + 1)) (by rw [HS.out]; simpa using hown) hgrow
            have HX5 := Lib.hid hI5
            clear hown hgrow hI5
            go_wp2
            go_roundw
            case rel => exact ⟨c + 1, by omega, by go_num, HX5.out⟩
            case measure => simp [intOf]; omega
    · obtain rfl : c = M + 1 := by omega
      have q1 : ¬ (((M + 1 : Nat) : Int) ≤ (M : Int)) := by omega
      go_wp2
      go_ret
      exact ⟨_, rfl, HI.out⟩

end Go.Proofs.Ytnedjbeemijmlaa
