/- The contracts of at, slices.Max, different, turned, thirds. -/
import Derived.Test.YtdepncdknofocaaXA
set_option maxRecDepth 100000
namespace Go.Proofs.Ytdepncdknofocaa
open Go.RowKit
open M
attribute [local go_sem ↓] Go.wp_at_zero Go.wp_at_succ

theorem at_any (A : Option Addr) (n c p : Nat) (l : List Int) (w : World) (hA : NumsAt .i64 w A l) (hl : l.length = n) :
    Calls Try.prog 42 #[.slice A n c, .int .i64 (p : Int)] w fun e w' => e = .returned (.int .i64 (l.getD p (-1))) ∧ w' = w := by
  by_cases hlt : p < n
  · obtain ⟨bb, off, hAe, -, c1⟩ := num_at hA (i := p) (by omega)
    rw [getD_in (b := -1) (by omega)]
    generalize l.getD p 0 = x at *
    subst hAe
    clear hA hl
    have q1 : (p : Int) < (n : Int) := by omega
    have q2 : (0 : Int) ≤ (p : Int) := by omega
    have q3 : ¬ (n : Int) ≤ (p : Int) := by omega
    have q4 : ¬ (p : Int) ≥ (n : Int) := by omega
    go_enter Try.func42, Try.ntmps42
    go_wp2
    go_ret
    exact ⟨rfl, rfl⟩
  · rw [getD_out (by omega)]
    clear hA hl
    have q3 : (n : Int) ≤ (p : Int) := by omega
    have q4 : (p : Int) ≥ (n : Int) := by omega
    go_enter Try.func42, Try.ntmps42
    go_wp2
    go_ret
    exact ⟨rfl, rfl⟩

/-- slices.Max. -/
theorem smax_any (A : Option Addr) (n c : Nat) (l : List Int) (w : World) (hA : NumsAt .i64 w A l) (hl : l.length = n) (h0 : 0 < n) (hn : n ≤ 1000000) :
    Calls Try.prog 39 #[.slice A n c] w fun e w' => (∃ M, e = .returned (.int .i64 M) ∧ M ∈ l ∧ ∀ x ∈ l, x ≤ M) ∧ w' = w := by
  obtain ⟨bb, off, hAe, hbl, c0⟩ := num_at hA (i := 0) (by omega)
  have hcell : ∀ i, i < n → w.cell? ⟨bb, off + i, none⟩ = some (.int .i64 (l.getD i 0)) := fun i hi => by
    obtain ⟨b2, o2, e2, -, c2⟩ := num_at hA (i := i) (by omega)
    rw [hAe] at e2
    simp only [Option.some.injEq, Addr.mk.injEq, and_true] at e2
    obtain ⟨rfl, rfl⟩ := e2
    exact c2
  have hm0 := memI l 0 (by omega)
  subst hAe
  obtain ⟨x0, hx0⟩ : ∃ x0, l.getD 0 0 = x0 := ⟨_, rfl⟩
  rw [hx0] at c0 hm0
  rw [Nat.add_zero] at c0
  have HX := Lib.hid (And.intro hcell (And.intro hl (And.intro hm0 hx0)))
  clear hA hl hcell hm0 hx0
  have q0 : ¬ (n : Int) < 1 := by omega
  have q00 : (0 : Int) < (n : Int) := by omega
  go_enter Try.func39, Try.ntmps39
  go_wp2
  go_loopw [3, 4] (fun v3 v4 wr => ∃ (i : Nat) (M : Int), 1 ≤ i ∧ i ≤ n ∧ v4 = .int .i64 (i : Int) ∧ v3 = .int .i64 M ∧ wr = w ∧ M ∈ l ∧ ∀ j, j < i → l.getD j 0 ≤ M) (fun _ v4 _ => n - (intOf v4).toNat)
  case atStart =>
    refine ⟨1, x0, Nat.le_refl _, by omega, rfl, rfl, rfl, HX.out.2.2.1, fun j hj => ?_⟩
    have e : j = 0 := by omega
    rw [e, HX.out.2.2.2]
    exact Int.le_refl _
  case round =>
    obtain ⟨i, M, h1, hin, rfl, rfl, rfl, hmem, hle⟩ := hrel
    by_cases hlt : i < n
    · have ci := HX.out.1 i hlt
      have hmi := memI l i (by rw [HX.out.2.1]; exact hlt)
      obtain ⟨x, hx⟩ : ∃ x, l.getD i 0 = x := ⟨_, rfl⟩
      rw [hx] at ci hmi
      have HH := Lib.hid (And.intro hmem (And.intro hle (And.intro hmi hx)))
      clear hmem hle hmi hx
      have q1 : (i : Int) < (n : Int) := by omega
      have q2 : (0 : Int) ≤ (i : Int) := by omega
      obtain ⟨M2, hM2⟩ : ∃ M2, (if M < x then x else M) = M2 := ⟨_, rfl⟩
      go_wp2
      all_goals
        go_roundw
        case rel =>
          refine ⟨i + 1, M2, by omega, by omega, by go_num, rfl, trivial, ?_, fun j hj => ?_⟩
          · rw [← hM2]
            split
            · exact HH.out.2.2.1
            · exact HH.out.1
          · by_cases e : j = i
            · rw [e, HH.out.2.2.2]; split at hM2 <;> omega
            · have := HH.out.2.1 j (by omega); split at hM2 <;> omega
        case measure => simp [intOf]; omega
    · obtain rfl : i = n := by omega
      have q1 : ¬ (i : Int) < (i : Int) := by omega
      have HH := Lib.hid (And.intro hmem hle)
      clear hmem hle
      go_wp2
      go_ret
      refine ⟨⟨M, rfl, HH.out.1, fun x hx => ?_⟩, rfl⟩
      obtain ⟨j, hj, e⟩ := List.getElem_of_mem hx
      have := HH.out.2 j (by rw [← HX.out.2.1]; exact hj)
      rwa [List.getD_eq_getElem?_getD, List.getElem?_eq_getElem hj, Option.getD_some, e] at this

/-- different. -/
theorem diff_any (A : Option Addr) (n c : Nat) (l : List Int) (w : World) (hA : NumsAt .i64 w A l) (hl : l.length = n) (hn : n ≤ 1000000) (hr : Rk l) :
    Calls Try.prog 29 #[.slice A n c] w fun e w' => (∃ r, e = .returned (.bool r) ∧ (r = true ↔ Df l)) ∧ w' = w := by
  by_cases h0 : n = 0
  · subst h0
    have hd : Df l := .inl hl
    have HD := Lib.hid hd
    clear hA hl hr hd
    go_enter Try.func29, Try.ntmps29
    go_wp2
    go_ret
    exact ⟨⟨true, rfl, fun _ => HD.out, fun _ => rfl⟩, rfl⟩
  · have hm := smax_any A n c l w hA hl (by omega) hn
    have HX := Lib.hid (And.intro hl (And.intro hr hm))
    clear hA hl hr hm
    have q1 : ((n : Int) == 0) = false := by simp; omega
    have q2 : ¬ (n : Int) = 0 := by omega
    have q3 : (n == 0) = false := by simp; omega
    have q4 : IntKind.i64.wrap ((n : Int) - 1) = (n : Int) - 1 := IntWalk.i64_in _ (by omega)
    go_enter Try.func29, Try.ntmps29
    go_wp2_with fail
    (with_reducible refine HX.out.2.2.mono ?_)
    rintro e u ⟨⟨M, rfl, hM1, hM2⟩, rfl⟩
    have HM := Lib.hid (And.intro hM1 hM2)
    clear hM1 hM2
    obtain ⟨b, hb⟩ : ∃ b, (M == (n : Int) - 1) = b := ⟨_, rfl⟩
    go_wp2
    go_ret
    refine ⟨⟨_, rfl, ?_⟩, rfl⟩
    obtain ⟨hl, hr, -⟩ := HX.out
    subst hb
    rw [beq_iff_eq]
    constructor
    · intro e
      exact .inr (by rw [hl, ← e]; exact HM.out.1)
    · rintro (e | e)
      · omega
      · have h1 := HM.out.2 _ e
        have h2 := (hr.nn M HM.out.1).2
        rw [hl] at h1 h2
        omega

/-- turned, of a row that has each place once. -/
theorem turned_any (A : Option Addr) (n c : Nat) (p : List Int) (w : World) (hA : NumsAt .i64 w A p) (hl : p.length = n) (hn : n ≤ 1000000) (hall : allB p = true) :
    Calls Try.prog 31 #[.slice A n c] w fun e u => ∃ D L, L.length = n ∧ e = .returned (.slice (some ⟨D, 0, none⟩) n n) ∧ NumsAt .i64 u (some ⟨D, 0, none⟩) L ∧ (∀ i, i < n → ∃ q : Nat, p.getD i 0 = (q : Int) ∧ q < n ∧ L.getD q 0 = (i : Int)) ∧ Below w.heap.size w u ∧ w.heap.size ≤ D := by
  have hi := inverse_any A n c p w hA hl hn
  have HI := Lib.hid (And.intro hi hall)
  clear hA hl hi hall
  go_enter Try.func31, Try.ntmps31
  go_wp2_with fail
  (with_reducible refine HI.out.1.mono ?_)
  rintro e u ⟨hb, ⟨-, D, L, hL, rfl, h1, hlo, h2⟩ | ⟨hno, -⟩⟩
  · have HF := Lib.hid (And.intro hb (And.intro hL (And.intro h1 (And.intro h2 hlo))))
    clear hb hL h1 h2 hlo
    go_wp2
    go_ret
    obtain ⟨hb, hL, h1, h2, hlo⟩ := HF.out
    exact ⟨D, L, hL, rfl, h1, h2, hb, hlo⟩
  · rw [HI.out.2] at hno; cases hno

/-! ## Thirds -/
def thS (n r : Nat) : Nat := (n + 3 - r) % 3
def thC (n r : Nat) : Nat := (n + 2 - thS n r) / 3
def thN (n r k : Nat) : List Int := (List.range k).map fun k => ((thS n r + 3 * k : Nat) : Int)
def thL (n r : Nat) : List Int := thN n r (thC n r)
theorem thN_len (n r k : Nat) : (thN n r k).length = k := by simp [thN]
theorem thL_len (n r : Nat) : (thL n r).length = thC n r := thN_len _ _ _
theorem thN_succ (n r k : Nat) : thN n r (k + 1) = thN n r k ++ [((thS n r + 3 * k : Nat) : Int)] := by
  unfold thN
  rw [List.range_succ, List.map_append]; rfl
theorem thL_at (n r k : Nat) (h : k < thC n r) : (thL n r).getD k 0 = ((thS n r + 3 * k : Nat) : Int) := by simp [thL, thN, List.getD_eq_getElem?_getD, h]
theorem thC_iff (n r k : Nat) : k < thC n r ↔ thS n r + 3 * k < n := by
  unfold thC
  have : thS n r < 3 := Nat.mod_lt _ (by omega)
  omega

theorem thirds_any (n r : Nat) (w : World) (hn : n ≤ 1000000) (hr : r ≤ 2) :
    Calls Try.prog 53 #[.int .i64 (n : Int), .int .i64 (r : Int)] w fun e u => ∃ v, e = .returned v ∧ OwnI w v (thL n r) u := by
  have h1 : IntKind.i64.wrap ((n : Int) - (r : Int)) = (n : Int) - (r : Int) := IntWalk.i64_in _ (by omega)
  have h2 : IntKind.i64.wrap ((n : Int) - (r : Int) + 3) = (n : Int) - (r : Int) + 3 := IntWalk.i64_in _ (by omega)
  have h3 : ((n : Int) - (r : Int) + 3).tmod 3 = ((thS n r : Nat) : Int) := by
    rw [Int.tmod_eq_emod_of_nonneg (by omega)]
    unfold thS
    omega
  have hs : thS n r < 3 := Nat.mod_lt _ (by omega)
  have hci := thC_iff n r
  have hsu := thN_succ n r
  obtain ⟨s, hse⟩ : ∃ s, thS n r = s := ⟨_, rfl⟩
  rw [hse] at h3 hs hsu hci
  have HX := Lib.hid (And.intro hci hsu)
  clear hci hsu hse
  go_enter Try.func53, Try.ntmps53
  go_wp2
  go_loopw [5, 6] (fun v5 v6 wr => ∃ k : Nat, k ≤ thC n r ∧ v6 = .int .i64 ((s + 3 * k : Nat) : Int) ∧ OwnI w v5 (thN n r k) wr) (fun _ v6 _ => n + 3 - (intOf v6).toNat)
  case atStart => exact ⟨0, Nat.zero_le _, by simp, World.ownsRow_nil _ _ _ _, Below.refl _ _⟩
  case round =>
    obtain ⟨k, hk, rfl, hI⟩ := hrel
    obtain ⟨x, hx⟩ : ∃ x : Nat, s + 3 * k = x := ⟨_, rfl⟩
    have hcik := HX.out.1 k
    have hln := thN_len n r k
    have hsk := HX.out.2 k
    rw [hx] at hcik hsk ⊢
    have HI := Lib.hid (And.intro hI (And.intro hln (And.intro hsk hx)))
    have hsz := hI.2.size
    clear hI hln hsk hx
    by_cases hlt : k < thC n r
    · have hxn : x < n := hcik.1 hlt
      have q1 : (x : Int) < (n : Int) := by omega
      go_wp2_with (first
        | (at_builtin
           refine wpList_append_nums rfl (.tmp 17) (.tmp 19) rfl w.heap.size _ _ _ rfl (HI.out.1.alloc _).1 (some ⟨_, 0, none⟩) 1 1 [(x : Int)] rfl rfl ?c1 (by simp) ?c2 ?c3 ?_))
      case c1 => exact nums_one _ _
      case c2 => have := HX.out.1 k; rw [HI.out.2.1]; omega
      case c3 => first | omega | (simp; omega)
      intro v' w5 hown hgrow _
      have hI5 := (HI.out.1.alloc _).app (l' := thN n r (k + 1)) (by rw [HI.out.2.2.1]; simpa using hown) hgrow
      have HX5 := Lib.hid hI5
      clear hown hgrow hI5
      go_wp2
      go_roundw
      case rel => exact ⟨k + 1, by omega, by have := HI.out.2.2.2; go_num, HX5.out⟩
      case measure => simp [intOf]; omega
    · obtain rfl : k = thC n r := by omega
      have q1 : ¬ (x : Int) < (n : Int) := by omega
      go_wp2
      go_ret
      exact ⟨_, rfl, HI.out.1⟩

end Go.Proofs.Ytdepncdknofocaa
