/- The contracts of the document's May and Row. -/
import Derived.Test.YtilfjdmgeflagaaIK
namespace Go.Proofs.Ytilfjdmgeflagaa
open Go.RowKit
open M

set_option maxHeartbeats 1000000 in
theorem may_arg (a0 : Option Addr) (n cap : Nat) (y : Int) (w : World) (h : ¬ (0 ≤ y ∧ y ≤ 62)) :
    Calls Try.prog 12 #[.slice a0 n cap, .int .i64 y] w fun e w' => e = .returned (.bool false) ∧ w = w' := by
  by_cases h0 : y < 0
  · clear h
    go_enter Try.func12, Try.ntmps12
    go_wp2
    go_ret
    exact ⟨rfl, rfl⟩
  · have h1 : 62 < y := by omega
    clear h
    go_enter Try.func12, Try.ntmps12
    go_wp2
    go_ret
    exact ⟨rfl, rfl⟩

theorem fit_iff (x : Int) (W : Nat) : (0 ≤ x ∧ x < 2 ^ W) ↔ (0 ≤ x ∧ wid x.toNat ≤ W) := by
  have e : ((2 : Int) ^ W) = ((2 ^ W : Nat) : Int) := by simp
  rw [wid_le, e]
  omega

set_option maxHeartbeats 1000000 in
theorem may_any (a0 : Option Addr) (n cap : Nat) (xs : List Int) (W : Nat) (w : World) (hx : NumsAt .i64 w a0 xs) (hn : xs.length = n) (hn' : n ≤ 1000000000) (h64 : I64s xs) (hW : W ≤ 62) (d : Bool) (hd : Fits xs W ↔ d = true) :
    Calls Try.prog 12 #[.slice a0 n cap, .int .i64 (W : Int)] w fun e w' => e = .returned (.bool d) ∧ w = w' := by
  have HX := Lib.hid (And.intro hx (And.intro hn (And.intro h64 hd)))
  clear hx hn h64 hd
  go_enter Try.func12, Try.ntmps12
  go_wp2
  go_loop [5] (fun v => ∃ i : Nat, i ≤ n ∧ v = .int .i64 (i : Int) ∧ Fits (xs.take i) W) (fun v => n - (intOf v).toNat)
  case atStart => exact ⟨0, Nat.zero_le _, rfl, by simp [Fits]⟩
  case round =>
    obtain ⟨i, hi, rfl, hft⟩ := hrel
    obtain ⟨hx, hn, h64, hd⟩ := HX.out
    by_cases hlt : i < n
    · rcases hx with hnil | ⟨b, off, rfl, hbs, hcs⟩
      · subst hnil; simp at hn; omega
      have hcb := hcs i (by omega)
      have q1 : (i : Int) < (n : Int) := by omega
      have q2 : (0 : Int) ≤ (i : Int) := by omega
      have hmem := memI xs i (by omega)
      have hr := h64 _ hmem
      have hfi := fit_iff (xs.getD i 0) W
      have hwd := rwidth_any (xs.getD i 0) w hr.2
      have h63 := wid_63 _ hr.2
      by_cases h0 : xs.getD i 0 < 0
      · have hdf : d = false := by
          cases d
          · rfl
          · have := (hd.2 rfl) _ hmem; omega
        subst hdf
        clear hft hcs hn h64 hd hfi hwd hmem
        generalize xs.getD i 0 = x at *
        go_wp2
        go_ret
        exact ⟨rfl, rfl⟩
      · by_cases h2 : wid (xs.getD i 0).toNat ≤ W
        · have hft2 : Fits (xs.take (i + 1)) W := by
            rw [takeI_snoc xs i (by omega)]
            intro x hx
            rcases List.mem_append.1 hx with h | h
            · exact hft x h
            · simp only [List.mem_singleton] at h; subst h; exact hfi.2 ⟨by omega, h2⟩
          have HF := Lib.hid (And.intro hft2 hwd)
          clear hft hft2 hcs hn h64 hd hfi hwd hmem
          generalize hWx : wid (xs.getD i 0).toNat = Wx at *
          clear hWx
          generalize xs.getD i 0 = x at *
          go_wp2_with fail
          refine HF.out.2.mono ?_
          rintro e w' ⟨rfl, rfl⟩
          go_wp2
          go_round
          case rel => exact ⟨i + 1, by omega, by go_num, HF.out.1⟩
          case measure => simp [intOf]; omega
        · have hdf : d = false := by
            cases d
            · rfl
            · have := hfi.1 ((hd.2 rfl) _ hmem); omega
          subst hdf
          have HF := Lib.hid hwd
          clear hft hcs hn h64 hd hfi hwd hmem
          generalize hWx : wid (xs.getD i 0).toNat = Wx at *
          clear hWx
          generalize xs.getD i 0 = x at *
          go_wp2_with fail
          refine HF.out.mono ?_
          rintro e w' ⟨rfl, rfl⟩
          go_wp2
          go_ret
          exact ⟨rfl, rfl⟩
    · have hti : xs.take i = xs := by rw [List.take_of_length_le (by omega)]
      rw [hti] at hft
      obtain rfl : d = true := hd.1 hft
      clear hft hti hn h64 hd hx
      go_wp2
      go_ret
      exact ⟨rfl, rfl⟩

theorem mul_le_of (i n W : Nat) (h : i ≤ n) : i * W ≤ n * W := Nat.mul_le_mul_right _ h

set_option maxHeartbeats 1000000 in
theorem rrow_any (a0 : Option Addr) (n cap : Nat) (xs : List Int) (W : Nat) (w : World) (hx : NumsAt .i64 w a0 xs) (hn : xs.length = n) (hn' : n ≤ 100) (hW : W ≤ 62) (hfit : Fits xs W) :
    Calls Try.prog 23 #[.slice a0 n cap, .int .i64 (W : Int)] w fun e w' => ∃ a c, e = .returned (.slice a (n * W) c) ∧ BoolsAt w' a (rowB xs W) ∧ Below w.heap.size w w' := by
  have HX := Lib.hid (And.intro hx (And.intro hn hfit))
  have hNW : n * W ≤ 6200 := Nat.mul_le_mul hn' hW
  clear hx hn hfit
  go_enter Try.func23, Try.ntmps23
  go_wp2
  go_loopw [5, 6] (fun v5 v6 wr => ∃ i : Nat, i ≤ n ∧ v6 = .int .i64 (i : Int) ∧ wr.ownsRow w.heap.size 4 1 v5 (i * W) ((rowB (xs.take i) W).map Value.bool) ∧ Below w.heap.size w wr) (fun _ v6 _ => n - (intOf v6).toNat)
  case atStart => exact ⟨0, Nat.zero_le _, rfl, by rw [Nat.zero_mul]; exact World.ownsRow_nil _ _ _ _, Below.refl _ _⟩
  case round =>
    obtain ⟨i, hi, rfl, ho, hb⟩ := hrel
    obtain ⟨hx, hn, hfit⟩ := HX.out
    have hiW := mul_le_of i n W hi
    by_cases hlt : i < n
    · rcases hx.kept hb with hnil | ⟨b, off, rfl, hbs, hcs⟩
      · subst hnil; simp at hn; omega
      have hcb := hcs i (by omega)
      have q1 : (i : Int) < (n : Int) := by omega
      have q2 : (0 : Int) ≤ (i : Int) := by omega
      have hf := hfit _ (memI xs i (by omega))
      have htk := takeI_snoc xs i (by omega)
      have hrow := rowB_snoc (xs.take i) (xs.getD i 0) W
      rw [← htk] at hrow
      have e2 : ((2 : Int) ^ W) = ((2 ^ W : Nat) : Int) := by simp
      have hpw : (2 : Nat) ^ W ≤ 2 ^ 62 := Nat.pow_le_pow_right (by decide) hW
      rw [e2] at hf
      obtain ⟨X, hX⟩ := Int.eq_ofNat_of_zero_le hf.1
      rw [hX] at hf hrow hcb
      rw [Int.toNat_natCast] at hrow
      have hXlt : X < 2 ^ W := by omega
      have hput := rput_ok none 0 0 [] X W wr ⟨rfl, by omega, by unfold maxLen; omega, .inl rfl, fun _ => ⟨rfl, rfl⟩⟩ (by omega) (by omega) hXlt
      have hXs : X < 4611686018427387904 := by omega
      have hsz := hb.size
      have HB := Lib.hid (And.intro hput (And.intro ho (And.intro hb hrow)))
      clear hput ho hb hrow hcs hn hfit hx hf htk e2 hpw hX hXlt
      go_wp2_with fail
      refine HB.out.1.mono ?_
      rintro e w4 ⟨v4, rfl, ho4, hb4⟩
      rw [Nat.zero_add, List.nil_append] at ho4
      have hl4 : (bitsOf X W).length = W := bitsOf_length _ _
      have ho4' : w4.ownsRow wr.heap.size 4 1 v4 (bitsOf X W).length ((bitsOf X W).map Value.bool) := by rw [hl4]; exact ho4
      obtain ⟨a4, c4, rfl, hsl⟩ := slice_of_own ho4'
      rw [hl4] at hsl ⊢
      have ho5 := own_kept HB.out.2.1 hb4
      have hb5 := HB.out.2.2.1.trans (hb4.mono hsz)
      have hsz5 := hb5.size
      have HC := Lib.hid (And.intro ho5 (And.intro hsl (And.intro hb5 HB.out.2.2.2)))
      clear ho4 ho4' ho5 hsl hb5 hb4 HB hl4
      go_wp2_with (first
        | (at_builtin
           refine wpList_append_bools rfl (.tmp 25) (.tmp 26) rfl w.heap.size u5 (i * W) _ rfl HC.out.1 a4 W c4 (bitsOf X W) rfl HC.out.2.1 ?c1 ?c2 ?_))
      case c1 => omega
      case c2 => omega
      intro v' w5 hown hgrow hat
      have hk5 : Kp (fun k => u5.ownBlock = some k) w4 w5 := (Kp.refl _ _).grown hgrow (fun k hk _ => hk)
      have hb6 : Below w.heap.size w w5 := HC.out.2.2.1.trans (hk5.toBelow hsz5 (fun k hk e => by have := (HC.out.1.lt k e).1; omega))
      have ho6 : w5.ownsRow w.heap.size 4 1 v' ((i + 1) * W) ((rowB (xs.take (i + 1)) W).map Value.bool) := by
        rw [HC.out.2.2.2, List.map_append, Nat.add_mul, Nat.one_mul]; simpa using hown
      have HD := Lib.hid (And.intro ho6 hb6)
      clear hown hgrow hat hk5 hb6 ho6 HC
      go_wp2
      go_roundw
      case rel => exact ⟨i + 1, by omega, by go_num, HD.out⟩
      case measure => simp [intOf]; omega
    · obtain rfl : i = n := by omega
      have hti : xs.take i = xs := by rw [← hn]; simp
      rw [hti] at ho
      have hl : (rowB xs W).length = i * W := by rw [rowB_length, hn]
      rw [← hl] at ho
      obtain ⟨a, c, rfl, hsl⟩ := slice_of_own ho
      rw [hl] at hsl ⊢
      have HD := Lib.hid (And.intro hsl.2.2.2.1 hb)
      clear ho hsl hb hti hl hn hfit hx
      go_wp2
      go_ret
      exact ⟨a, c, rfl, HD.out⟩

end Go.Proofs.Ytilfjdmgeflagaa
