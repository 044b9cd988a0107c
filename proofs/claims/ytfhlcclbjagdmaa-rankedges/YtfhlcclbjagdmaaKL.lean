/- The contracts of the document's Rank, Select, Next, Prev. -/
import Derived.Test.YtfhlcclbjagdmaaKK
namespace Go.Proofs.Ytfhlcclbjagdmaa
open Go.RowKit
open M
attribute [local go_sem ↓] Go.wp_at_zero Go.wp_at_succ

theorem rkN_ge (b : Bool) (l : List Bool) (k : Nat) (h : l.length ≤ k) : rkN b l k = rkN b l l.length := by
  unfold rkN; rw [List.take_of_length_le h, List.take_length]

theorem selN_at (b : Bool) (l : List Bool) (k : Int) (i : Nat) (hi : i < l.length) (hb : l.getD i false = b) (hk : (rkN b l i : Int) = k) : selN b l k = (i : Int) := by
  have h1 := rkN_succ b l i hi
  rw [if_pos hb] at h1
  have h2 := rkN_mono b l (i + 1) l.length (by omega)
  unfold selN
  rw [if_pos (by omega), firstN_eq l.length _ i (by omega)]
  · intro j hj
    have := rkN_mono b l (j + 1) i (by omega)
    simp; omega
  · intro _
    simp; omega

theorem bool_at {w : World} {a : Option Addr} {l : List Bool} (h : BoolsAt w a l) {i : Nat} (hi : i < l.length) : ∃ b off, a = some ⟨b, off, none⟩ ∧ b < w.heap.size ∧ w.cell? ⟨b, off + i, none⟩ = some (.bool (l.getD i false)) := by
  rcases h with rfl | ⟨b, off, h1, h2, h3⟩
  · simp at hi
  · exact ⟨b, off, h1, h2, h3 i hi⟩

set_option maxHeartbeats 1000000 in
theorem rrank_any (b : Bool) (a : Option Addr) (n c : Nat) (l : List Bool) (i : Int) (w : World) (h : BoolsAt w a l) (hl : l.length = n) (hn : n ≤ 1000000000) :
    Calls Try.prog 15 #[.slice a n c, .bool b, .int .i64 i] w fun e w' => e = .returned (.int .i64 (rkN b l (lo n i) : Nat)) ∧ w = w' := by
  have HH := Lib.hid (And.intro h hl)
  clear h hl
  go_enter Try.func15, Try.ntmps15
  go_wp2
  go_loop [7, 8] (fun v7 v8 => ∃ k : Nat, k ≤ lo n i ∧ v8 = .int .i64 (k : Int) ∧ v7 = .int .i64 (rkN b l k : Nat)) (fun _ v8 => n - (intOf v8).toNat)
  case atStart => exact ⟨0, Nat.zero_le _, rfl, by simp [rkN]⟩
  case round =>
    obtain ⟨k, hk, rfl, rfl⟩ := hrel
    have hlo : lo n i ≤ n := lo_le n i
    by_cases hlt : k < n
    · by_cases hki : (k : Int) < i
      · obtain ⟨bb, off, rfl, hbl, hcb⟩ := bool_at HH.out.1 (i := k) (by rw [HH.out.2]; exact hlt)
        have hs := rkN_succ b l k (by rw [HH.out.2]; exact hlt)
        have hle := rkN_le' b l k
        have hkl : k + 1 ≤ lo n i := by unfold lo; omega
        generalize l.getD k false = y at *
        have HS := Lib.hid hs
        clear hs
        generalize hr : rkN b l k = r at *
        clear hr
        have q1 : (k : Int) < (n : Int) := by omega
        cases y <;> cases b
        all_goals
          go_wp2
          go_round
          case rel => exact ⟨k + 1, hkl, by go_num, by rw [HS.out]; first | rfl | go_num⟩
          case measure => simp [intOf]; omega
      · have e : lo n i = k := by unfold lo at *; omega
        have HE := Lib.hid e
        clear e
        go_wp2
        go_ret
        exact ⟨ret_int (by rw [HE.out]), rfl⟩
    · have e : lo n i = k := by omega
      have HE := Lib.hid e
      clear e
      go_wp2
      go_ret
      exact ⟨ret_int (by rw [HE.out]), rfl⟩

set_option maxHeartbeats 1000000 in
theorem rselect_any (b : Bool) (a : Option Addr) (n c : Nat) (l : List Bool) (k : Int) (w : World) (h : BoolsAt w a l) (hl : l.length = n) (hn : n ≤ 1000000000) (hk : 0 ≤ k) (hk2 : k ≤ 9223372036854775807) :
    Calls Try.prog 21 #[.slice a n c, .bool b, .int .i64 k] w fun e w' => e = .returned (.int .i64 (selN b l k)) ∧ w = w' := by
  have HH := Lib.hid (And.intro h hl)
  clear h hl
  go_enter Try.func21, Try.ntmps21
  go_wp2
  go_loop [2, 7] (fun v2 v7 => ∃ (i : Nat) (z : Int), i ≤ n ∧ v7 = .int .i64 (i : Int) ∧ v2 = .int .i64 z ∧ 0 ≤ z ∧ z = k - (rkN b l i : Nat)) (fun _ v7 => n - (intOf v7).toNat)
  case atStart => exact ⟨0, k, Nat.zero_le _, rfl, rfl, hk, by simp [rkN]⟩
  case round =>
    obtain ⟨i, z, hi, rfl, rfl, hz0, hz⟩ := hrel
    have hz9 : z ≤ 9223372036854775807 := by omega
    by_cases hlt : i < n
    · obtain ⟨bb, off, rfl, hbl, hcb⟩ := bool_at HH.out.1 (i := i) (by rw [HH.out.2]; exact hlt)
      have hs := rkN_succ b l i (by rw [HH.out.2]; exact hlt)
      have hsel := fun (hb : l.getD i false = b) (e : z = 0) => selN_at b l k i (by rw [HH.out.2]; exact hlt) hb (by omega)
      have q1 : (i : Int) < (n : Int) := by omega
      generalize l.getD i false = y at *
      by_cases hyb : y = b
      · rw [if_pos hyb] at hs
        have hsel := hsel hyb
        subst hyb
        by_cases hz1 : z = 0
        · have HS := Lib.hid (hsel hz1)
          subst hz1
          clear hs hz hsel
          cases y
          all_goals
            go_wp2
            go_ret
            exact ⟨by first | exact ret_int HS.out.symm | rfl, rfl⟩
        · have hz2 : (z == 0) = false := by simpa using hz1
          have HS := Lib.hid (And.intro hs hz)
          clear hs hz hsel
          cases y
          all_goals
            go_wp2
            go_round
            case rel => exact ⟨i + 1, z - 1, by omega, by go_num, rfl, by omega, by rw [HS.out.1, HS.out.2]; omega⟩
            case measure => simp [intOf]; omega
      · rw [if_neg hyb] at hs
        have HS := Lib.hid (And.intro hs hz)
        clear hs hz hsel
        cases y <;> cases b
        · exact absurd rfl hyb
        · go_wp2
          go_round
          case rel => exact ⟨i + 1, z, by omega, by go_num, rfl, by omega, by rw [HS.out.1, HS.out.2]; omega⟩
          case measure => simp [intOf]; omega
        · go_wp2
          go_round
          case rel => exact ⟨i + 1, z, by omega, by go_num, rfl, by omega, by rw [HS.out.1, HS.out.2]; omega⟩
          case measure => simp [intOf]; omega
        · exact absurd rfl hyb
    · obtain rfl : i = n := by omega
      have HS := Lib.hid (selN_none b l k (.inr (by rw [HH.out.2]; omega)))
      clear hz
      go_wp2
      go_ret
      exact ⟨ret_int HS.out.symm, rfl⟩

set_option maxHeartbeats 1000000 in
theorem rnext_any (a : Option Addr) (n c : Nat) (l : List Bool) (i : Int) (w : World) (h : BoolsAt w a l) (hl : l.length = n) (hn : n ≤ 1000000000) (hi2 : i ≤ 9223372036854775807) :
    Calls Try.prog 25 #[.slice a n c, .int .i64 i] w fun e w' => e = .returned (.int .i64 (nextN l i)) ∧ w = w' := by
  have h0 : rkN true l (max i 0).toNat = rk1 l i := by
    unfold rk1
    by_cases hc : (max i 0).toNat ≤ l.length
    · rw [show lo l.length i = (max i 0).toNat by unfold lo; omega]
    · rw [show lo l.length i = l.length by unfold lo; omega, rkN_ge _ _ _ (by omega)]
  have HH := Lib.hid (And.intro h (And.intro hl h0))
  clear h hl h0
  by_cases hneg : i < 0
  all_goals
    go_enter Try.func25, Try.ntmps25
    go_wp2
    go_loop [5] (fun v5 => ∃ k : Nat, (k : Int) ≤ 9223372036854775807 ∧ v5 = .int .i64 (k : Int) ∧ rkN true l k = rk1 l i) (fun v5 => n - (intOf v5).toNat)
    case atStart => exact ⟨(max i 0).toNat, by omega, by first | (rw [show (max i 0).toNat = 0 by omega]; rfl) | (simp only [Value.int.injEq, true_and]; omega), HH.out.2.2⟩
    case round =>
      obtain ⟨k, hk9, rfl, hk⟩ := hrel
      by_cases hlt : k < n
      · obtain ⟨bb, off, rfl, hbl, hcb⟩ := bool_at HH.out.1 (i := k) (by rw [HH.out.2.1]; exact hlt)
        have hs := rkN_succ true l k (by rw [HH.out.2.1]; exact hlt)
        have hsel := fun (hb : l.getD k false = true) => selN_at true l (rk1 l i : Nat) k (by rw [HH.out.2.1]; exact hlt) hb (by rw [hk])
        have q1 : (k : Int) < (n : Int) := by omega
        generalize l.getD k false = y at *
        cases y
        · have HS := Lib.hid (And.intro hs hk)
          clear hs hk hsel
          go_wp2
          go_round
          case rel => exact ⟨k + 1, by omega, by go_num, by rw [HS.out.1, HS.out.2]; rfl⟩
          case measure => simp [intOf]; omega
        · have HS := Lib.hid (hsel rfl)
          clear hs hk hsel
          go_wp2
          go_ret
          exact ⟨ret_int (by unfold nextN; rw [HS.out]), rfl⟩
      · have HS := Lib.hid (selN_none true l (rk1 l i : Nat) (.inr (by rw [← hk, rkN_ge _ _ k (by rw [HH.out.2.1]; omega)]; omega)))
        clear hk
        go_wp2
        go_ret
        exact ⟨ret_int (by unfold nextN; rw [HS.out]), rfl⟩

set_option maxHeartbeats 1000000 in
theorem rprev_any (a : Option Addr) (n c : Nat) (l : List Bool) (i : Int) (w : World) (h : BoolsAt w a l) (hl : l.length = n) (hn : n ≤ 1000000000) (hi2 : -9223372036854775808 ≤ i) :
    Calls Try.prog 27 #[.slice a n c, .int .i64 i] w fun e w' => e = .returned (.int .i64 (prevN l i)) ∧ w = w' := by
  have hp : prevN l i = selN true l ((rk1 l (min i ((n : Int) - 1) + 1) : Int) - 1) := by unfold prevN; rw [hl]
  have HH := Lib.hid (And.intro h (And.intro hl hp))
  clear h hl hp
  by_cases hge : (n : Int) ≤ i
  all_goals
    go_enter Try.func27, Try.ntmps27
    go_wp2
    go_loop [5] (fun v5 => ∃ k : Int, -9223372036854775808 ≤ k ∧ k ≤ (n : Int) - 1 ∧ v5 = .int .i64 k ∧ rk1 l (k + 1) = rk1 l (min i ((n : Int) - 1) + 1)) (fun v5 => (intOf v5 + 1).toNat)
    case atStart => exact ⟨min i ((n : Int) - 1), by omega, by omega, by simp only [Value.int.injEq, true_and]; omega, rfl⟩
    case round =>
      obtain ⟨k, hk8, hkn, rfl, hk⟩ := hrel
      by_cases hlt : 0 ≤ k
      · obtain ⟨j, rfl⟩ := Int.eq_ofNat_of_zero_le hlt
        have hj : j < l.length := by rw [HH.out.2.1]; omega
        obtain ⟨bb, off, rfl, hbl, hcb⟩ := bool_at HH.out.1 (i := j) hj
        have hs := rkN_succ true l j hj
        have e1 := rk1_at l (j + 1) (by omega)
        have e0 := rk1_at l j (by omega)
        rw [show (((j + 1 : Nat) : Int)) = (j : Int) + 1 by omega] at e1
        have hsel := fun (hb : l.getD j false = true) => selN_at true l ((rk1 l ((j : Int) + 1) : Int) - 1) j hj hb (by rw [e1, hs, if_pos hb]; omega)
        have hnx : l.getD j false = false → rk1 l ((j : Int) - 1 + 1) = rk1 l (min i ((n : Int) - 1) + 1) := fun hb => by
          rw [show (j : Int) - 1 + 1 = (j : Int) by omega, e0, ← hk, e1, hs, hb]; simp
        have q1 : (j : Int) < (n : Int) := by omega
        have q2 : (0 : Int) ≤ (j : Int) := by omega
        rw [hk] at hsel
        generalize l.getD j false = y at *
        cases y
        · have HS := Lib.hid (hnx rfl)
          clear hs hk hsel e1 e0 hnx hj
          go_wp2
          go_round
          case rel => exact ⟨(j : Int) - 1, by omega, by omega, rfl, HS.out⟩
          case measure => simp [intOf]
        · have HS := Lib.hid (hsel rfl)
          clear hs hk hsel e1 e0 hnx hj
          go_wp2
          go_ret
          exact ⟨ret_int (by rw [HH.out.2.2, HS.out]), rfl⟩
      · have e : rk1 l (k + 1) = 0 := by unfold rk1; rw [show lo l.length (k + 1) = 0 by unfold lo; omega]; simp [rkN]
        have HS := Lib.hid (selN_none true l ((rk1 l (min i ((n : Int) - 1) + 1) : Int) - 1) (.inl (by rw [← hk, e]; omega)))
        clear hk e
        go_wp2
        go_ret
        exact ⟨ret_int (by rw [HH.out.2.2, HS.out]), rfl⟩

end Go.Proofs.Ytfhlcclbjagdmaa
