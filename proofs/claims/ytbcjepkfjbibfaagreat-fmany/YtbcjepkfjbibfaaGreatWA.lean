/- The contracts of the document's Rank, Below, Select, Most and May. -/
import Derived.Test.YtbcjepkfjbibfaaGreatBc
set_option maxRecDepth 100000
namespace Go.Proofs.YtbcjepkfjbibfaaGreat
open Go.RowKit
open M
attribute [local go_sem ↓] Go.wp_at_zero Go.wp_at_succ

theorem rkN_ge (b : Bool) (l : List Bool) (k : Nat) (h : l.length ≤ k) : rkN b l k = rkN b l l.length := by
  unfold rkN; rw [List.take_of_length_le h, List.take_length]

theorem selN_at (b : Bool) (l : List Bool) (k : Int) (i : Nat) (hi : i < l.length) (hb : l.getD i false = b) (hk : (rkN b l i : Int) = k) : selN b l k = (i : Int) := by
  have h1 := rkN_succ b l i hi
  rw [if_pos hb] at h1
  have h2 := rkN_mono b l (i + 1) l.length (by omega)
  unfold selN
  rw [if_pos (by omega), firstN_eq l.length _ i (by omega)]
  · intro j hj
    have := rkN_mono b l (j + 1) i (by omega)
    simp; omega
  · intro _
    simp; omega

theorem num_at {k : IntKind} {w : World} {a : Option Addr} {xs : List Int} (h : NumsAt k w a xs) {i : Nat} (hi : i < xs.length) : ∃ b off, a = some ⟨b, off, none⟩ ∧ b < w.heap.size ∧ w.cell? ⟨b, off + i, none⟩ = some (.int k (xs.getD i 0)) := by
  rcases h with rfl | ⟨b, off, h1, h2, h3⟩
  · simp at hi
  · exact ⟨b, off, h1, h2, h3 i hi⟩

/-- Of each of l whether it is c; whether it is less than c. -/
def eqs (l : List Int) (c : Int) : List Bool := l.map fun x => decide (x = c)
def lts (l : List Int) (c : Int) : List Bool := l.map fun x => decide (x < c)
theorem eqs_len (l : List Int) (c : Int) : (eqs l c).length = l.length := by simp [eqs]
theorem lts_len (l : List Int) (c : Int) : (lts l c).length = l.length := by simp [lts]
theorem eqs_at (l : List Int) (c : Int) (i : Nat) (h : i < l.length) : (eqs l c).getD i false = decide (l.getD i 0 = c) := by simp [eqs, List.getD_eq_getElem?_getD, h]
theorem lts_at (l : List Int) (c : Int) (i : Nat) (h : i < l.length) : (lts l c).getD i false = decide (l.getD i 0 < c) := by simp [lts, List.getD_eq_getElem?_getD, h]

set_option maxHeartbeats 1000000 in
theorem wmost_any (a : Option Addr) (n cap : Nat) (l : List Int) (w : World) (h : NumsAt .i64 w a l) (hl : l.length = n) (hn : n ≤ 1000000000) :
    Calls Tryz.prog 27 #[.slice a n cap] w fun e w' => e = .returned (.int .i64 (mostI l)) ∧ w = w' := by
  have HH := Lib.hid (And.intro h hl)
  clear h hl
  go_enter Tryz.func27, Tryz.ntmps27
  go_wp2
  go_loop [3, 4] (fun v3 v4 => ∃ k : Nat, k ≤ n ∧ v4 = .int .i64 (k : Int) ∧ v3 = .int .i64 (mostI (l.take k))) (fun _ v4 => n - (intOf v4).toNat)
  case atStart => exact ⟨0, Nat.zero_le _, rfl, by simp [mostI]⟩
  case round =>
    obtain ⟨k, hk, rfl, rfl⟩ := hrel
    by_cases hlt : k < n
    · obtain ⟨bb, off, rfl, hbl, hcb⟩ := num_at HH.out.1 (i := k) (by rw [HH.out.2]; exact hlt)
      have hs : mostI (l.take (k + 1)) = max (mostI (l.take k)) (l.getD k 0) := by
        rw [← mostI_snoc, List.take_add_one]
        congr 1
        rw [List.getD_eq_getElem?_getD]
        have : k < l.length := by rw [HH.out.2]; exact hlt
        simp [this]
      generalize l.getD k 0 = y at *
      have HS := Lib.hid hs
      clear hs
      generalize mostI (l.take k) = r at *
      have q1 : (k : Int) < (n : Int) := by omega
      by_cases hy : r < y
      all_goals
        go_wp2
        go_round
        case rel => exact ⟨k + 1, by omega, by go_num, by rw [HS.out]; simp only [Value.int.injEq, true_and]; omega⟩
        case measure => simp [intOf]; omega
    · obtain rfl : k = n := by omega
      have e : l.take k = l := by rw [List.take_of_length_le (by rw [HH.out.2]; omega)]
      have HE := Lib.hid e
      clear e
      go_wp2
      go_ret
      exact ⟨ret_int (by rw [HE.out]), rfl⟩

/-- Which lists may be. -/
def mayB (l : List Int) (size : Int) : Bool := decide (1 ≤ size) && decide (size ≤ 65536) && l.all fun x => decide (0 ≤ x) && decide (x < size)

set_option maxHeartbeats 1000000 in
theorem wmay_any (a : Option Addr) (n cap : Nat) (l : List Int) (size : Int) (w : World) (h : NumsAt .i64 w a l) (hl : l.length = n) (hn : n ≤ 1000000000) :
    Calls Tryz.prog 12 #[.slice a n cap, .int .i64 size] w fun e w' => e = .returned (.bool (mayB l size)) ∧ w = w' := by
  have HH := Lib.hid (And.intro h hl)
  clear h hl
  by_cases hs1 : size < 1
  · have HE : Hid (mayB l size = false) := Lib.hid (by unfold mayB; rw [decide_eq_false (by omega : ¬ 1 ≤ size)]; rfl)
    go_enter Tryz.func12, Tryz.ntmps12
    go_wp2
    go_ret
    exact ⟨ret_bool HE.out.symm, rfl⟩
  by_cases hs2 : 65536 < size
  · have HE : Hid (mayB l size = false) := Lib.hid (by unfold mayB; rw [decide_eq_false (by omega : ¬ size ≤ 65536)]; simp)
    go_enter Tryz.func12, Tryz.ntmps12
    go_wp2
    go_ret
    exact ⟨ret_bool HE.out.symm, rfl⟩
  have HM : Hid (mayB l size = l.all fun x => decide (0 ≤ x) && decide (x < size)) := Lib.hid (by
    unfold mayB; rw [decide_eq_true (by omega : 1 ≤ size), decide_eq_true (by omega : size ≤ 65536)]; simp)
  go_enter Tryz.func12, Tryz.ntmps12
  go_wp2
  go_loop [5] (fun v5 => ∃ k : Nat, k ≤ n ∧ v5 = .int .i64 (k : Int) ∧ ((l.take k).all fun x => decide (0 ≤ x) && decide (x < size)) = true) (fun v5 => n - (intOf v5).toNat)
  case atStart => exact ⟨0, Nat.zero_le _, rfl, by simp⟩
  case round =>
    obtain ⟨k, hk, rfl, hall⟩ := hrel
    by_cases hlt : k < n
    · have hlk : k < l.length := by rw [HH.out.2]; exact hlt
      obtain ⟨bb, off, rfl, hbl, hcb⟩ := num_at HH.out.1 (i := k) hlk
      have hs : l.take (k + 1) = l.take k ++ [l.getD k 0] := by
        rw [List.take_add_one]; simp [List.getD_eq_getElem?_getD, hlk]
      have hmem : l.getD k 0 ∈ l := by simp [List.getD_eq_getElem?_getD, hlk]
      generalize l.getD k 0 = y at *
      have q1 : (k : Int) < (n : Int) := by omega
      by_cases hy : 0 ≤ y
      · by_cases hy2 : y < size
        · have HS : Hid (((l.take (k + 1)).all fun x => decide (0 ≤ x) && decide (x < size)) = true) := Lib.hid (by rw [hs, List.all_append, hall]; simp [hy, hy2])
          clear hs hmem hall
          go_wp2
          go_round
          case rel => exact ⟨k + 1, by omega, by go_num, HS.out⟩
          case measure => simp [intOf]; omega
        · have HS : Hid (mayB l size = false) := Lib.hid (by
            rw [HM.out, List.all_eq_false]; exact ⟨y, hmem, by simp [hy2]⟩)
          clear hs hmem hall
          go_wp2
          go_ret
          exact ⟨ret_bool HS.out.symm, rfl⟩
      · have HS : Hid (mayB l size = false) := Lib.hid (by
          rw [HM.out, List.all_eq_false]; exact ⟨y, hmem, by simp [hy]⟩)
        clear hs hmem hall
        go_wp2
        go_ret
        exact ⟨ret_bool HS.out.symm, rfl⟩
    · obtain rfl : k = n := by omega
      have e : l.take k = l := by rw [List.take_of_length_le (by rw [HH.out.2]; omega)]
      have HE : Hid (mayB l size = true) := Lib.hid (by rw [HM.out, ← e]; exact hall)
      clear e hall
      go_wp2
      go_ret
      exact ⟨ret_bool HE.out.symm, rfl⟩

end Go.Proofs.YtbcjepkfjbibfaaGreat
