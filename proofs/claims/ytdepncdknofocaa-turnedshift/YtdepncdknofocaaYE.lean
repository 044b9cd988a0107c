/- The contracts of ended, of places and its closure. -/
import Derived.Test.YtdepncdknofocaaYC
set_option maxRecDepth 100000
namespace Go.Proofs.Ytdepncdknofocaa
open Go.RowKit
open M
attribute [local go_sem ↓] Go.wp_at_zero Go.wp_at_succ

/-! ## ended -/
/-- What is counted of -1 among the first i. -/
def EndI (b : List Int) (i c : Nat) : Prop :=
  (c = 0 ∧ ∀ j, j < i → 0 ≤ b.getD j 0) ∨ (c = 1 ∧ ∃ k, k < i ∧ b.getD k 0 = -1 ∧ ∀ j, j < i → j ≠ k → 0 ≤ b.getD j 0) ∨ (2 ≤ c ∧ c ≤ i ∧ ∃ k k', k < k' ∧ k' < i ∧ b.getD k 0 = -1 ∧ b.getD k' 0 = -1)
theorem EndI.start (b : List Int) : EndI b 0 0 := .inl ⟨rfl, fun j hj => by omega⟩
theorem EndI.le {b : List Int} {i c : Nat} (h : EndI b i c) : c ≤ i := by
  rcases h with ⟨h, -⟩ | ⟨h, k, hk, -⟩ | ⟨-, h, -⟩ <;> omega
theorem EndI.same {b : List Int} {i c : Nat} (h : EndI b i c) (hx : 0 ≤ b.getD i 0) : EndI b (i + 1) c := by
  rcases h with ⟨h, h1⟩ | ⟨h, k, hk, h1, h2⟩ | ⟨h, h0, k, k', h1, h2, h3, h4⟩
  · refine .inl ⟨h, fun j hj => ?_⟩
    by_cases e : j = i
    · rw [e]; exact hx
    · exact h1 j (by omega)
  · refine .inr (.inl ⟨h, k, by omega, h1, fun j hj hne => ?_⟩)
    by_cases e : j = i
    · rw [e]; exact hx
    · exact h2 j (by omega) hne
  · exact .inr (.inr ⟨h, by omega, k, k', h1, by omega, h3, h4⟩)
theorem EndI.more {b : List Int} {i c : Nat} (h : EndI b i c) (hx : b.getD i 0 = -1) : EndI b (i + 1) (c + 1) := by
  rcases h with ⟨h, h1⟩ | ⟨h, k, hk, h1, h2⟩ | ⟨h, h0, k, k', h1, h2, h3, h4⟩
  · exact .inr (.inl ⟨by omega, i, by omega, hx, fun j hj hne => h1 j (by omega)⟩)
  · exact .inr (.inr ⟨by omega, by omega, k, i, hk, by omega, h1, hx⟩)
  · exact .inr (.inr ⟨by omega, by omega, k, k', h1, by omega, h3, h4⟩)
theorem EndI.iff {b : List Int} {c : Nat} (h : EndI b b.length c) : (c = 1 ↔ Ended b) := by
  constructor
  · intro e
    rcases h with ⟨h, h1⟩ | ⟨h, k, hk, h1, h2⟩ | ⟨h, h0, k, k', h1, h2, h3, h4⟩
    · omega
    · exact ⟨k, hk, h1, h2⟩
    · omega
  · rintro ⟨q, hq, e, hne⟩
    rcases h with ⟨h, h1⟩ | ⟨h, k, hk, h1, h2⟩ | ⟨h, h0, k, k', h1, h2, h3, h4⟩
    · have := h1 q hq; omega
    · exact h
    · by_cases e1 : k = q
      · have := hne k' h2 (by omega); omega
      · have := hne k (by omega) e1; omega
theorem ended_low {b : List Int} {i : Nat} (hi : i < b.length) (h : b.getD i 0 < -1) : ¬ Ended b := by
  rintro ⟨q, hq, e, hne⟩
  by_cases e1 : i = q
  · rw [e1] at h; omega
  · have := hne i hi e1; omega

set_option maxHeartbeats 2000000 in
theorem ended_any (A : Option Addr) (n c : Nat) (b : List Int) (w : World) (hA : NumsAt .i64 w A b) (hl : b.length = n) (hn : n ≤ 1000000) (r : Bool) (hr : r = true ↔ Ended b) :
    Calls Try.prog 26 #[.slice A n c] w fun e w' => e = .returned (.bool r) ∧ w' = w := by
  have HX := Lib.hid (And.intro hA hl)
  have HR := Lib.hid hr
  clear hA hl hr
  go_enter Try.func26, Try.ntmps26
  go_wp2
  go_loopw [3, 5, 8] (fun v3 _ v8 wr => ∃ i c : Nat, i ≤ n ∧ v8 = .int .i64 (i : Int) ∧ v3 = .int .i64 (c : Int) ∧ wr = w ∧ EndI b i c) (fun _ _ v8 _ => n - (intOf v8).toNat)
  case atStart => exact ⟨0, 0, Nat.zero_le _, rfl, rfl, rfl, EndI.start b⟩
  case round =>
    obtain ⟨i, c, hin, rfl, rfl, rfl, hE⟩ := hrel
    have hci := hE.le
    by_cases hlt : i < n
    · obtain ⟨bb, off, hAe, -, ck⟩ := num_at HX.out.1 (i := i) (by rw [HX.out.2]; exact hlt)
      obtain ⟨x, hx⟩ : ∃ x, b.getD i 0 = x := ⟨_, rfl⟩
      rw [hx] at ck
      have HG := Lib.hid (And.intro hE hx)
      subst hAe
      clear hE hx
      have q1 : (i : Int) < (n : Int) := by omega
      have q2 : (0 : Int) ≤ (i : Int) := by omega
      by_cases h1 : x < -1
      · have hno := ended_low (b := b) (i := i) (by rw [HX.out.2]; exact hlt) (by rw [HG.out.2]; exact h1)
        have hrf : r = false := by rw [← Bool.not_eq_true, HR.out]; exact hno
        clear hno
        subst hrf
        go_wp2
        go_ret
        exact ⟨rfl, by first | rfl | trivial⟩
      · by_cases h2 : x = -1
        · have he := HG.out.1.more (by rw [HG.out.2]; exact h2)
          have HE := Lib.hid he
          subst h2
          clear he
          have q3 : IntKind.i64.wrap ((c : Int) + 1) = ((c + 1 : Nat) : Int) := by rw [Int.natCast_add]; exact IntWalk.i64_in _ (by omega)
          go_wp2
          go_roundw
          case rel => exact ⟨i + 1, c + 1, by omega, by go_num, by first | rfl | trivial | go_num, by first | rfl | trivial, HE.out⟩
          case measure => simp [intOf]; omega
        · have he := HG.out.1.same (by rw [HG.out.2]; omega)
          have HE := Lib.hid he
          have q3 : (x == -1) = false := by simpa using h2
          clear he
          go_wp2
          go_roundw
          case rel => exact ⟨i + 1, c, by omega, by go_num, by first | rfl | trivial, by first | rfl | trivial, HE.out⟩
          case measure => simp [intOf]; omega
    · obtain rfl : i = n := by omega
      rw [← HX.out.2] at hE
      have hif := hE.iff
      have HF := Lib.hid hif
      have q1 : ¬ (i : Int) < (i : Int) := by omega
      clear hE hif
      by_cases e : c = 1
      · have hrt : r = true := HR.out.2 (HF.out.1 e)
        subst e
        subst hrt
        go_wp2
        go_ret
        exact ⟨rfl, by first | rfl | trivial⟩
      · have q2 : ((c : Int) == 1) = false := by simp; omega
        have hrf : r = false := by rw [← Bool.not_eq_true, HR.out, ← HF.out]; exact e
        subst hrf
        go_wp2
        go_ret
        exact ⟨rfl, by first | rfl | trivial⟩

/-! ## places, and its closure -/
/-- Counts in a row of the call's own, the row in a box. -/
structure Cn (w : World) (B N m : Nat) (c : Nat → Int) (u : World) : Prop where
  box : u.cell? ⟨B, 0, none⟩ = some (.slice (some ⟨N, 0, none⟩) m m)
  row : DI w N m c u
  lo : w.heap.size ≤ B
  hi : B < u.heap.size
  ne : B ≠ N
theorem Cn.kept {w u u' : World} {B N m : Nat} {c : Nat → Int} (h : Cn w B N m c u) (hb : Below u.heap.size u u') : Cn w B N m c u' :=
  ⟨by rw [hb.cell (p := ⟨B, 0, none⟩) h.hi]; exact h.box, h.row.kept hb, h.lo, Nat.lt_of_lt_of_le h.hi hb.size, h.ne⟩
theorem Cn.set {w u : World} {B N m : Nat} {c : Nat → Int} (h : Cn w B N m c u) {i : Nat} (hi : i < m) (x : Int) : Cn w B N m (fun k => if k = i then x else c k) (u.setCell ⟨N, i, none⟩ (.int .i64 x)) :=
  ⟨by rw [World.cell?_setCell_other _ _ _ _ (ne_addr h.ne.symm)]; exact h.box, h.row.set hi x, h.lo, by simpa using h.hi, h.ne⟩
theorem Cn.congr {w u : World} {B N m : Nat} {c c' : Nat → Int} (h : Cn w B N m c u) (hc : ∀ i, i < m → c i = c' i) : Cn w B N m c' u := { h with row := h.row.congr hc }
theorem Cn.new {w u : World} {N m : Nat} {c : Nat → Int} (h : DI w N m c u) : Cn w u.heap.size N m c (u.alloc (.cells #[.slice (some ⟨N, 0, none⟩) m m] 22)) :=
  ⟨by rw [cell_new _ _ _ _ _ rfl]; rfl, h.kept (al _ _), h.bel.size, by simp, fun e => by have := h.hi; omega⟩
theorem DI.ofw {w w1 u : World} {D n : Nat} {d : Nat → Int} (h : DI w1 D n d u) (hb : Below w.heap.size w w1) : DI w D n d u :=
  ⟨h.cell, h.frz, Nat.le_trans hb.size h.lo, h.hi, hb.trans (h.bel.mono hb.size)⟩
theorem Cn.of {w w1 u : World} {B N m : Nat} {c : Nat → Int} (h : Cn w1 B N m c u) (hb : Below w.heap.size w w1) : Cn w B N m c u :=
  ⟨h.box, h.row.ofw hb, Nat.le_trans hb.size h.lo, h.hi, h.ne⟩

theorem tplace_any (B N m d : Nat) (c : Nat → Int) (w u : World) (h : Cn w B N m c u) (hd : d < m) (hc : 0 ≤ c d ∧ c d ≤ 1000000) :
    Calls Try.prog 48 #[.int .i64 (d : Int), .pointer (some ⟨B, 0, none⟩)] u fun e u' => e = .returned (.int .i64 (c d)) ∧ u' = u.setCell ⟨N, d, none⟩ (.int .i64 (c d + 1)) := by
  have c0 := h.box
  have c1 := h.row.cell d hd
  have z1 := h.row.frz d hd
  generalize c d = x at *
  obtain ⟨h1, h2⟩ := hc
  have q1 : (0 : Int) ≤ (d : Int) := by omega
  have q2 : (d : Int) < (m : Int) := by omega
  have q3 : IntKind.i64.wrap (x + 1) = x + 1 := IntWalk.i64_in _ (by omega)
  clear h
  go_enter Try.func48, Try.ntmps48
  go_wp2
  go_ret
  exact ⟨rfl, rfl⟩

end Go.Proofs.Ytdepncdknofocaa
