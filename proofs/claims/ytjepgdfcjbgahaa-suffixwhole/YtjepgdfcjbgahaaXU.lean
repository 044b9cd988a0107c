/- awake answers true; the contracts of few and alike. -/
import Derived.Test.YtjepgdfcjbgahaaXT
import Derived.Test.YtjepgdfcjbgahaaXQ
set_option maxRecDepth 100000
namespace Go.Proofs.Ytjepgdfcjbgahaa
open Go.RowKit
open M
attribute [local go_sem ↓] Go.wp_at_zero Go.wp_at_succ

theorem few_any (A : Option Addr) (n c : Nat) (w : World) (hc : n ≤ c) : Calls Try.prog 10 #[.slice A n c] w fun e w' => e = .returned (.slice A (min n 40) c) ∧ w' = w := by
  by_cases h : 40 < n
  · have q1 : (40 : Int) < (n : Int) := by omega
    have q2 : (40 : Int) ≤ (c : Int) := by omega
    have q3 : (40 : Int) ≤ (n : Int) := by omega
    rw [Nat.min_eq_right (by omega)]
    go_enter Try.func10, Try.ntmps10
    go_wp2
    go_ret
    exact ⟨rfl, rfl⟩
  · have q1 : ¬ (40 : Int) < (n : Int) := by omega
    rw [Nat.min_eq_left (by omega)]
    go_enter Try.func10, Try.ntmps10
    go_wp2
    go_ret
    exact ⟨rfl, rfl⟩

/-- Numbers made alike by their rests. -/
def cutI (s x : Int) : Int := (x.tmod s + s).tmod s
theorem cutI_in (s x : Int) (hs : 1 ≤ s) : 0 ≤ cutI s x ∧ cutI s x < s := by
  unfold cutI
  have t2 := Int.lt_tmod_of_pos x (b := s) (by omega)
  rw [Int.tmod_eq_emod_of_nonneg (by omega)]
  exact ⟨Int.emod_nonneg _ (by omega), Int.emod_lt_of_pos _ (by omega)⟩
def cutL (s : Int) (xs : List Int) (k : Nat) : List Int := (xs.take k).map (cutI s)
theorem cutL_succ (s : Int) (xs : List Int) (k : Nat) (h : k < xs.length) : cutL s xs (k + 1) = cutL s xs k ++ [cutI s (xs.getD k 0)] := by
  unfold cutL
  rw [takeI_snoc xs k h, List.map_append]; rfl
theorem cutL_len (s : Int) (xs : List Int) (k : Nat) (h : k ≤ xs.length) : (cutL s xs k).length = k := by simp [cutL]; omega
theorem cutL_in (s : Int) (xs : List Int) (k : Nat) (hs : 1 ≤ s) : ∀ x ∈ cutL s xs k, 0 ≤ x ∧ x < s := by
  intro x hx
  unfold cutL at hx
  obtain ⟨y, -, rfl⟩ := List.mem_map.1 hx
  exact cutI_in s y hs
theorem and3 (x : Int) : bits .and .i64 x 3 = x % 4 := and_mask x 2 (by omega)
/-- Of how many kinds numbers are. -/
def kindN (x : Int) : Nat := (1 + x % 4).toNat
theorem kindN_in (x : Int) : 1 ≤ kindN x ∧ kindN x ≤ 4 ∧ (kindN x : Int) = 1 + x % 4 := by unfold kindN; omega

set_option maxHeartbeats 2000000 in
theorem alike_any (A : Option Addr) (n c : Nat) (l : List Int) (q : Int) (w : World) (hA : NumsAt .i64 w A l) (hl : l.length = n) :
    Calls Try.prog 11 #[.slice A n c, .int .i64 q] w fun e u => ∃ v, e = .returned v ∧ OwnI w v (cutL (kindN q) l (min n 40)) u := by
  obtain ⟨h1, h2, h3⟩ := kindN_in q
  have hand := and3 q
  obtain ⟨s, hs⟩ : ∃ s, kindN q = s := ⟨_, rfl⟩
  rw [hs] at h1 h2 h3 ⊢
  obtain ⟨t, ht⟩ : ∃ t, q % 4 = t := ⟨_, rfl⟩
  rw [ht] at hand h3
  have hw : IntKind.i64.wrap (1 + t) = (s : Int) := by rw [← h3]; exact IntWalk.i64_in _ (by omega)
  have HX := Lib.hid (And.intro hA hl)
  obtain ⟨m, hm⟩ : ∃ m, min n 40 = m := ⟨_, rfl⟩
  rw [hm]
  have hm1 : m ≤ n := by omega
  have hm2 : m ≤ 40 := by omega
  have hm3 : m < n → m = 40 := by omega
  have h0 : ((s : Int) == 0) = false := by simp; omega
  have h0' : (s : Int) ≠ 0 := by omega
  clear hA hl hs ht hm h3
  go_enter Try.func11, Try.ntmps11
  go_wp2
  clear hw hand
  go_loopw [6, 7] (fun v6 v7 wr => ∃ i : Nat, i ≤ m ∧ v7 = .int .i64 (i : Int) ∧ OwnI w v6 (cutL s l i) wr) (fun _ v7 _ => m - (intOf v7).toNat)
  case atStart => exact ⟨0, Nat.zero_le _, rfl, World.ownsRow_nil _ _ _ _, Below.refl _ _⟩
  case round =>
    obtain ⟨i, hin, rfl, hI⟩ := hrel
    by_cases hlt : i < m
    · obtain ⟨bb, off, hAe, hbl, hcb⟩ := num_at (HX.out.1.kept hI.2) (i := i) (by rw [HX.out.2]; omega)
      have hsu := cutL_succ s l i (by rw [HX.out.2]; omega)
      have hml := cutL_len s l i (by rw [HX.out.2]; omega)
      generalize l.getD i 0 = x at *
      have hsz := hI.2.size
      have HM := Lib.hid (And.intro hI (And.intro hsu hml))
      subst hAe
      clear hI hsu hml
      obtain ⟨y, hy⟩ : ∃ y, x.tmod s = y := ⟨_, rfl⟩
      have t1 := Int.tmod_lt_of_pos x (b := (s : Int)) (by omega)
      have t2 := Int.lt_tmod_of_pos x (b := (s : Int)) (by omega)
      rw [hy] at t1 t2
      obtain ⟨z, hz⟩ : ∃ z, z = cutI s x := ⟨_, rfl⟩
      rw [← hz] at HM
      have hyz : (y + (s : Int)).tmod s = z := by rw [hz]; unfold cutI; rw [hy]
      clear hz
      have qw : IntKind.i64.wrap (y + (s : Int)) = y + (s : Int) := IntWalk.i64_in _ (by omega)
      have q1 : (i : Int) < (n : Int) := by omega
      have q2 : (0 : Int) ≤ (i : Int) := by omega
      have q3 : (i : Int) < 40 := by omega
      go_wp2_with (first
        | (at_builtin
           refine wpList_append_nums rfl (.tmp 21) (.tmp 32) rfl w.heap.size _ _ _ rfl (HM.out.1.alloc _).1 (some ⟨_, 0, none⟩) 1 1 [z] rfl rfl ?c1 (by simp) ?c2 ?c3 ?_))
      case c1 => exact nums_one _ _
      case c2 => rw [HM.out.2.2]; omega
      case c3 => first | omega | (simp; omega)
      intro v' w5 hown hgrow _
      have hI5 := (HM.out.1.alloc _).app (l' := cutL s l i ++ [z]) (by simpa using hown) hgrow
      have HX5 := Lib.hid hI5
      clear hown hgrow hI5
      go_wp2
      go_roundw
      case rel => exact ⟨i + 1, by omega, by go_num, by rw [HM.out.2.1]; exact HX5.out⟩
      case measure => simp [intOf]; omega
    · obtain rfl : i = m := by omega
      have HF := Lib.hid hI
      clear hI
      by_cases hn : i < n
      · have q1 : (i : Int) < (n : Int) := by omega
        have q3 : ¬ (i : Int) < 40 := by have := hm3 hn; omega
        go_wp2
        go_ret
        exact ⟨_, rfl, HF.out⟩
      · have q1 : ¬ (i : Int) < (n : Int) := by omega
        go_wp2
        go_ret
        exact ⟨_, rfl, HF.out⟩

/-! ## The chapter's examples -/
def X6 : List Int := [2, 1, 3, 1, 3, 1]
theorem x6_64 : I64s X6 := by intro x hx; simp [X6] at hx; omega
theorem x6_ord : sufA X6 = [5, 3, 1, 0, 4, 2] := by decide +kernel
theorem x6_com : comL X6 (sufA X6) = [0, 1, 3, 0, 0, 2] := by decide +kernel
theorem x6_tab : ∀ i, i < 6 → agI X6 (sufA X6) [1, 3] i = ([-1, 0, 0, 1, 1, 1] : List Int).getD i 0 := by decide +kernel
theorem x6_find (f t : Nat) (h1 : f ≤ t) (h2 : t ≤ 6) (h3 : 0 < f → agI X6 (sufA X6) [1, 3] (f - 1) < 0) (h4 : f < 6 → ¬ agI X6 (sufA X6) [1, 3] f < 0) (h5 : f < t → agI X6 (sufA X6) [1, 3] (t - 1) ≤ 0) (h6 : t < 6 → ¬ agI X6 (sufA X6) [1, 3] t ≤ 0) : f = 1 ∧ t = 3 := by
  have t0 := x6_tab 0 (by omega)
  have t1 := x6_tab 1 (by omega)
  have t2 := x6_tab 2 (by omega)
  have t3 := x6_tab 3 (by omega)
  have t4 := x6_tab 4 (by omega)
  have t5 := x6_tab 5 (by omega)
  generalize agI X6 (sufA X6) [1, 3] = g at *
  simp only [List.getD_eq_getElem?_getD] at t0 t1 t2 t3 t4 t5
  simp at t0 t1 t2 t3 t4 t5
  have hf : f = 1 := by
    rcases (show f = 0 ∨ f = 1 ∨ f = 2 ∨ f = 3 ∨ f = 4 ∨ f = 5 ∨ f = 6 by omega) with rfl | rfl | rfl | rfl | rfl | rfl | rfl
    · have := h4 (by omega); omega
    · rfl
    · have := h3 (by omega); simp at this; omega
    · have := h3 (by omega); simp at this; omega
    · have := h3 (by omega); simp at this; omega
    · have := h3 (by omega); simp at this; omega
    · have := h3 (by omega); simp at this; omega
  subst hf
  refine ⟨rfl, ?_⟩
  rcases (show t = 1 ∨ t = 2 ∨ t = 3 ∨ t = 4 ∨ t = 5 ∨ t = 6 by omega) with rfl | rfl | rfl | rfl | rfl | rfl
  · have := h6 (by omega); omega
  · have := h6 (by omega); omega
  · rfl
  · have := h5 (by omega); simp at this; omega
  · have := h5 (by omega); simp at this; omega
  · have := h5 (by omega); simp at this; omega

set_option maxHeartbeats 4000000 in
theorem awake_any (w : World) : Calls Try.prog 9 #[] w fun e w' => e = .returned (.bool true) ∧ Below w.heap.size w w' := by
  obtain ⟨b, hb⟩ : ∃ b, b = w.heap.size := ⟨_, rfl⟩
  obtain ⟨w1, hw1⟩ : ∃ w1, w1 = w.alloc (.cells ((X6.map (Value.int .i64)).toArray) 3) := ⟨_, rfl⟩
  have h1 : NumsAt .i64 w1 (some ⟨b, 0, none⟩) X6 := by rw [hw1, hb]; exact nums_block w X6
  have hb1 : Below w.heap.size w w1 := by rw [hw1]; exact al w _
  have ha := array_any (some ⟨b, 0, none⟩) 6 6 X6 w1 h1 rfl (by omega) x6_64
  have HX := Lib.hid (And.intro h1 (And.intro hb1 ha))
  clear h1 hb1 ha
  have hw1' : w1 = w.alloc (.cells #[.int .i64 2, .int .i64 1, .int .i64 3, .int .i64 1, .int .i64 3, .int .i64 1] 3) := hw1
  clear hw1
  go_enter Try.func9, Try.ntmps9
  go_upto_region 2 with fail
  rw [← hw1', ← hb]
  clear hw1' hb
  go_wp2_with fail
  (with_reducible refine HX.out.2.2.mono ?_)
  rintro e u1 ⟨A, ca, rfl, hA, hca, hb2⟩
  have hX1 := HX.out.1.kept hb2
  have hbw := HX.out.2.1.trans (hb2.mono HX.out.2.1.size)
  have hc := common_any (some ⟨b, 0, none⟩) A 6 6 6 ca X6 (sufA X6) u1 hX1 hA rfl (by rw [sufA_len]; rfl) (by omega) (by omega) x6_64
  have H1 := Lib.hid (And.intro hX1 (And.intro hA (And.intro hbw hc)))
  clear hX1 hA hbw hc hb2
  go_wp2_with fail
  (with_reducible refine H1.out.2.2.2.mono ?_)
  rintro e u2 ⟨hb3, ⟨-, D, rfl, hD⟩ | ⟨hno, -⟩⟩
  rotate_left
  · exact absurd rfl hno
  have H2 := Lib.hid (And.intro (H1.out.1.kept hb3) (And.intro (H1.out.2.1.kept hb3) (And.intro (H1.out.2.2.1.trans (hb3.mono H1.out.2.2.1.size)) hD)))
  clear hb3 hD
  have hb4 := al u2 (.cells #[.int .i64 1, .int .i64 3] 3)
  have hp : NumsAt .i64 (u2.alloc (.cells #[.int .i64 1, .int .i64 3] 3)) (some ⟨u2.heap.size, 0, none⟩) [1, 3] := nums_block u2 [1, 3]
  have hf := find_any (some ⟨b, 0, none⟩) A (some ⟨u2.heap.size, 0, none⟩) 6 6 6 ca 2 2 X6 (sufA X6) [1, 3] (u2.alloc (.cells #[.int .i64 1, .int .i64 3] 3)) (H2.out.1.kept hb4) (H2.out.2.1.kept hb4) hp rfl (by rw [sufA_len]; rfl) rfl (by omega) (by omega) (by omega) (by omega) (fun h => by cases h)
  have H3 := Lib.hid (And.intro hf (And.intro (H2.out.2.1.kept hb4) (And.intro (H2.out.2.2.1.trans (hb4.mono H2.out.2.2.1.size)) (H2.out.2.2.2.kept hb4))))
  clear hb4 hp hf
  go_wp2_with fail
  (with_reducible refine H3.out.1.mono ?_)
  rintro e u3 ⟨f, t, rfl, h1, h2, h3, h4, h5, h6, hb5⟩
  rw [sufA_len] at h2 h4 h6
  obtain ⟨rfl, rfl⟩ := x6_find f t h1 h2 h3 h4 h5 h6
  have hA3 := H3.out.2.1.kept hb5
  have hC3 := H3.out.2.2.2.kept hb5
  have hbw := H3.out.2.2.1.trans (hb5.mono H3.out.2.2.1.size)
  have hb6 := al u3 (.cells #[.int .i64 5, .int .i64 3, .int .i64 1, .int .i64 0, .int .i64 4, .int .i64 2] 3)
  have hs1 := rsame_any A (some ⟨u3.heap.size, 0, none⟩) 6 6 ca 6 (sufA X6) [5, 3, 1, 0, 4, 2] (u3.alloc (.cells #[.int .i64 5, .int .i64 3, .int .i64 1, .int .i64 0, .int .i64 4, .int .i64 2] 3)) (hA3.kept hb6) (nums_block u3 [5, 3, 1, 0, 4, 2]) (by rw [sufA_len]; rfl) rfl (by omega)
  rw [decide_eq_true x6_ord] at hs1
  have H4 := Lib.hid (And.intro hs1 (And.intro (hbw.trans (hb6.mono hbw.size)) (hC3.kept hb6)))
  clear hA3 hC3 hbw hb6 hs1 h1 h2 h3 h4 h5 h6 hb5
  go_wp2_with fail
  (with_reducible refine H4.out.1.mono ?_)
  rintro e u4 ⟨rfl, hb7⟩
  have hC4 := H4.out.2.2.kept hb7
  have hbw := H4.out.2.1.trans (hb7.mono H4.out.2.1.size)
  have hb8 := al u4 (.cells #[.int .i64 0, .int .i64 1, .int .i64 3, .int .i64 0, .int .i64 0, .int .i64 2] 3)
  have hs2 := rsame_any (some ⟨D, 0, none⟩) (some ⟨u4.heap.size, 0, none⟩) 6 6 6 6 (comL X6 (sufA X6)) [0, 1, 3, 0, 0, 2] (u4.alloc (.cells #[.int .i64 0, .int .i64 1, .int .i64 3, .int .i64 0, .int .i64 0, .int .i64 2] 3)) (hC4.kept hb8) (nums_block u4 [0, 1, 3, 0, 0, 2]) (by rw [comL_len, sufA_len]; rfl) rfl (by omega)
  rw [decide_eq_true x6_com] at hs2
  have H5 := Lib.hid (And.intro hs2 (hbw.trans (hb8.mono hbw.size)))
  clear hC4 hbw hb8 hs2 hb7
  go_wp2_with fail
  (with_reducible refine H5.out.1.mono ?_)
  rintro e u5 ⟨rfl, hb9⟩
  have H6 := Lib.hid (H5.out.2.trans (hb9.mono H5.out.2.size))
  clear hb9
  go_wp2
  go_ret
  exact ⟨rfl, H6.out⟩

end Go.Proofs.Ytjepgdfcjbgahaa
