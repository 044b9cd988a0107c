/- The contract of symbols; what the laws that take symbols hold. -/
import Derived.Test.YtdidoecigkbffaaGreatPD
set_option maxRecDepth 100000
namespace Go.Proofs.YtdidoecigkbffaaGreat
open Go.RowKit
open S J M
attribute [local go_sem ↓] Go.wp_at_zero Go.wp_at_succ

/-- What symbols tells: a size from 1 to 32, and some symbols of that size, 80 at most, in a list of its own. -/
def SymsEnd (w : World) (e : Ending) (w' : World) : Prop :=
  ∃ (s : Nat) (v : Value) (m : List Int), e = .returned (.tuple #[v, .int .i64 (s : Int)]) ∧ 1 ≤ s ∧ s ≤ 32 ∧ m.length ≤ 80 ∧ (∀ x ∈ m, 0 ≤ x ∧ x < (s : Int)) ∧ OwnI w v m w'

set_option maxHeartbeats 2000000 in
theorem symbols_any (a : Option Addr) (n cap : Nat) (l : List Int) (size : Int) (w : World) (h : NumsAt .i64 w a l) (hl : l.length = n) :
    Calls Tryz.prog 5 #[.slice a n cap, .int .i64 size] w (SymsEnd w) := by
  have hand : bits .and .i64 size 31 = size % 32 := and_mask size 5 (by omega)
  obtain ⟨s, hs, hs1, hs2⟩ : ∃ s : Nat, 1 + size % 32 = (s : Int) ∧ 1 ≤ s ∧ s ≤ 32 := ⟨(1 + size % 32).toNat, by omega, by omega, by omega⟩
  obtain ⟨t, ht⟩ : ∃ t, size % 32 = t := ⟨_, rfl⟩
  rw [ht] at hand hs
  clear ht
  have hw : IntKind.i64.wrap (1 + t) = 1 + t := IntWalk.i64_in _ (by omega)
  have HH := Lib.hid (And.intro h hl)
  clear h hl
  go_enter Tryz.func5, Tryz.ntmps5
  go_wp2
  have h0 : ((s : Int) == 0) = false := by simp; omega
  clear hs hw hand
  go_loopw [7, 8] (fun v7 v8 wr => ∃ (i : Nat) (p : List Int), i ≤ n ∧ i ≤ 80 ∧ v8 = .int .i64 (i : Int) ∧ p.length = i ∧ (∀ x ∈ p, 0 ≤ x ∧ x < (s : Int)) ∧ OwnI w v7 p wr) (fun _ v8 _ => 80 - (intOf v8).toNat)
  case atStart => exact ⟨0, [], Nat.zero_le _, Nat.zero_le _, rfl, rfl, by simp, World.ownsRow_nil _ _ _ _, Below.refl _ _⟩
  case round =>
    obtain ⟨i, p, hin, hi80, rfl, hpl, hsm, hI⟩ := hrel
    by_cases hlt : i < n
    · by_cases h80 : i < 80
      · obtain ⟨bb, off, rfl, hbl, hcb⟩ := num_at (HH.out.1.kept hI.2) (i := i) (by rw [HH.out.2]; exact hlt)
        generalize l.getD i 0 = x at *
        obtain ⟨y, hy⟩ : ∃ y, x.tmod s = y := ⟨_, rfl⟩
        have t1 := Int.tmod_lt_of_pos x (b := (s : Int)) (by omega)
        have t2 := Int.lt_tmod_of_pos x (b := (s : Int)) (by omega)
        rw [hy] at t1 t2
        have hsz := hI.2.size
        have q1 : (i : Int) < (n : Int) := by omega
        have q2 : (0 : Int) ≤ (i : Int) := by omega
        have q3 : (i : Int) < 80 := by omega
        by_cases hneg : y < 0
        · have HB := Lib.hid (And.intro hI (And.intro hpl hsm))
          clear hI hpl hsm
          go_wp2_with (first
            | (at_builtin
               refine wpList_append_nums rfl (.tmp 33) (.tmp 35) rfl w.heap.size _ _ _ rfl (HB.out.1.alloc _).1 (some ⟨_, 0, none⟩) 1 1 [-y] rfl rfl ?c1 (by simp) ?c2 ?c3 ?_))
          case c1 => exact nums_one _ _
          case c2 => rw [HB.out.2.1]; omega
          case c3 => first | omega | (simp; omega)
          intro v' w5 hown hgrow _
          have hI5 := (HB.out.1.alloc _).app (l' := p ++ [-y]) (by simpa using hown) hgrow
          have HX5 := Lib.hid hI5
          clear hown hgrow hI5
          go_wp2
          go_roundw
          case rel =>
            refine ⟨i + 1, p ++ [-y], by omega, by omega, by go_num, by rw [List.length_append, HB.out.2.1]; rfl, ?_, HX5.out⟩
            intro x hx
            rcases List.mem_append.1 hx with h | h
            · exact HB.out.2.2 x h
            · simp only [List.mem_singleton] at h; subst h; constructor <;> omega
          case measure => simp [intOf]; omega
        · have HB := Lib.hid (And.intro hI (And.intro hpl hsm))
          clear hI hpl hsm
          go_wp2_with (first
            | (at_builtin
               refine wpList_append_nums rfl (.tmp 33) (.tmp 35) rfl w.heap.size _ _ _ rfl (HB.out.1.alloc _).1 (some ⟨_, 0, none⟩) 1 1 [y] rfl rfl ?c1 (by simp) ?c2 ?c3 ?_))
          case c1 => exact nums_one _ _
          case c2 => rw [HB.out.2.1]; omega
          case c3 => first | omega | (simp; omega)
          intro v' w5 hown hgrow _
          have hI5 := (HB.out.1.alloc _).app (l' := p ++ [y]) (by simpa using hown) hgrow
          have HX5 := Lib.hid hI5
          clear hown hgrow hI5
          go_wp2
          go_roundw
          case rel =>
            refine ⟨i + 1, p ++ [y], by omega, by omega, by go_num, by rw [List.length_append, HB.out.2.1]; rfl, ?_, HX5.out⟩
            intro x hx
            rcases List.mem_append.1 hx with h | h
            · exact HB.out.2.2 x h
            · simp only [List.mem_singleton] at h; subst h; constructor <;> omega
          case measure => simp [intOf]; omega
      · have HY := Lib.hid (And.intro hpl (And.intro hsm hI))
        clear hpl hsm hI
        go_wp2
        go_ret2
        exact ⟨s, _, p, rfl, hs1, hs2, by rw [HY.out.1]; omega, HY.out.2.1, HY.out.2.2⟩
    · have HY := Lib.hid (And.intro hpl (And.intro hsm hI))
      clear hpl hsm hI
      go_wp2
      go_ret2
      exact ⟨s, _, p, rfl, hs1, hs2, by rw [HY.out.1]; omega, HY.out.2.1, HY.out.2.2⟩


end Go.Proofs.YtdidoecigkbffaaGreat
