/- The contract of the document's Read; both joined. -/
import Derived.Test.YtilfjdmgeflagaaIL
namespace Go.Proofs.Ytilfjdmgeflagaa
open Go.RowKit
open M

set_option maxHeartbeats 1000000 in
theorem rread2_arg (n y : Int) (s : ByteArray) (w : World) (h : ¬ (0 ≤ n ∧ n ≤ 16777216 ∧ 0 ≤ y ∧ y ≤ 62)) :
    Calls Try.prog 25 #[.int .i64 n, .int .i64 y, .string s] w fun e w' => e = .returned (.tuple #[.slice none 0 0, .int .i64 10]) ∧ Below w.heap.size w w' := by
  by_cases h0 : n < 0
  · clear h
    go_enter Try.func25, Try.ntmps25
    go_wp2
    go_ret2
    exact ⟨rfl, Below.refl _ _⟩
  · by_cases h1 : 16777216 < n
    · clear h
      go_enter Try.func25, Try.ntmps25
      go_wp2
      go_ret2
      exact ⟨rfl, Below.refl _ _⟩
    · by_cases h2 : y < 0
      · clear h
        go_enter Try.func25, Try.ntmps25
        go_wp2
        go_ret2
        exact ⟨rfl, Below.refl _ _⟩
      · have h3 : 62 < y := by omega
        clear h
        go_enter Try.func25, Try.ntmps25
        go_wp2
        go_ret2
        exact ⟨rfl, Below.refl _ _⟩

set_option maxHeartbeats 1000000 in
theorem rread2_err (n W N : Nat) (s : ByteArray) (w : World) (hn : n ≤ 16777216) (hW : W ≤ 62) (hN : n * W = N)
    (hc : ∀ u, Calls Try.prog 39 #[.int .i64 (N : Int), .string s] u fun e w' => e = .returned (.tuple #[.slice none 0 0, .int .i64 10]) ∧ Below u.heap.size u w') :
    Calls Try.prog 25 #[.int .i64 (n : Int), .int .i64 (W : Int), .string s] w fun e w' => e = .returned (.tuple #[.slice none 0 0, .int .i64 10]) ∧ Below w.heap.size w w' := by
  have hNb : N ≤ 16777216 * 62 := by rw [← hN]; exact Nat.mul_le_mul hn hW
  have q1 : (n : Int) * (W : Int) = (N : Int) := by rw [← hN]; simp
  have HC := Lib.hid hc
  clear hc hN
  go_enter Try.func25, Try.ntmps25
  go_wp2_with fail
  refine (HC.out _).mono ?_
  rintro e w3 ⟨rfl, hb⟩
  have HF := Lib.hid hb
  clear hb HC
  go_wp2
  go_ret2
  exact ⟨rfl, HF.out⟩

set_option maxHeartbeats 1000000 in
theorem rread2_ok (n W N : Nat) (s : ByteArray) (w : World) (hn : n ≤ 5000) (hW : W ≤ 62) (hN : n * W = N) (hs : s.size ≤ 60) (h : s.size = p8 N) (hc : Clean s N) :
    Calls Try.prog 25 #[.int .i64 (n : Int), .int .i64 (W : Int), .string s] w fun e w' => ∃ a cap, e = .returned (.tuple #[.slice a n cap, .int .i64 0]) ∧ NumsAt .i64 w' a (numsOf (sBits s N) n W) ∧ Below w.heap.size w w' := by
  obtain ⟨i0, hi0, hz0, hz1, hz2⟩ := info_parts info3
  have hN480 : N ≤ 480 := by unfold p8 at h; omega
  have q1 : (n : Int) * (W : Int) = (N : Int) := by rw [← hN]; simp
  have hrd : Calls Try.prog 39 #[.int .i64 (N : Int), .string s] w fun e w' => ∃ a c, e = .returned (.tuple #[.slice a N c, .int .i64 0]) ∧ BoolsAt w' a (sBits s N) ∧ Below w.heap.size w w' := by
    refine (rread_loop N s w hs h).mono ?_
    rintro e w' ⟨h1, h2⟩
    rcases h1 with ⟨-, a, c, rfl, h3⟩ | ⟨h3, -⟩
    · exact ⟨a, c, rfl, h3, h2⟩
    · exact absurd hc h3
  obtain ⟨xs, hxs⟩ : ∃ xs, numsOf (sBits s N) n W = xs := ⟨_, rfl⟩
  have hxl : xs.length = n := by rw [← hxs, numsOf_length]
  have hat : ∀ i, i < n → xs.getD i 0 = (num (((sBits s N).drop (i * W)).take W) : Int) := fun i hi => by rw [← hxs]; exact numsOf_at _ _ _ _ hi
  have hfit : Fits xs W := by rw [← hxs]; exact numsOf_fits _ _ _
  rw [hxs]
  have hpw : ((2 : Int) ^ W) ≤ 4611686018427387904 := by
    have h2 : (2 : Nat) ^ W ≤ 2 ^ 62 := Nat.pow_le_pow_right (by decide) hW
    have e : ((2 : Int) ^ W) = ((2 ^ W : Nat) : Int) := by simp
    rw [e]; omega
  have hmul : ∀ i, i < n → i * W + W ≤ N := fun i hi => by rw [← hN]; exact mul_lt i n W hi
  have HC := Lib.hid (And.intro hrd (And.intro hxl (And.intro hat (And.intro hfit (And.intro hpw hmul)))))
  clear hrd hxl hat hfit hpw hmul hxs hc h hN
  go_enter Try.func25, Try.ntmps25
  go_wp2_with fail
  refine HC.out.1.mono ?_
  rintro e w3 ⟨a8, c8, rfl, hbl, hb⟩
  have hS : OwnI w3 (.slice none 0 0) (xs.take 0) w3 := ⟨World.ownsRow_nil _ _ _ _, Below.refl _ _⟩
  have HS := Lib.hid (And.intro hS (And.intro hbl hb))
  clear hb hbl hS
  go_wp2
  go_loopw [10, 11] (fun v10 v11 wr => ∃ i : Nat, i ≤ n ∧ v11 = .int .i64 (i : Int) ∧ OwnI w3 v10 (xs.take i) wr) (fun _ v11 _ => n - (intOf v11).toNat)
  case atStart => exact ⟨0, Nat.zero_le _, rfl, HS.out.1⟩
  case round =>
    obtain ⟨i, hi, rfl, hs⟩ := hrel
    have hbl := HS.out.2.1.kept hs.2
    obtain ⟨-, hxl, hat, hfit, hpw, hmul⟩ := HC.out
    by_cases hlt : i < n
    · have hm := hmul i hlt
      have hnum := rnum_in a8 c8 N (sBits s N) (i * W) W wr hbl (sBits_length _ _) (by omega) hm (by omega)
      rw [← hat i hlt] at hnum
      have hx := hfit _ (memI xs i (by omega))
      have htk := takeI_snoc xs i (by omega)
      have hlen : (xs.take i).length = i := by simp; omega
      have hx1 := hx.1
      have hx2 : xs.getD i 0 < 4611686018427387904 := by omega
      have q3 : ((i * W : Nat) : Int) = (i : Int) * (W : Int) := by simp
      rw [q3] at hnum
      have q4 : (i : Int) * (W : Int) ≤ 480 := by rw [← q3]; omega
      have q5 : 0 ≤ (i : Int) * (W : Int) := by rw [← q3]; omega
      have hsz := hs.2.size
      generalize hpe : xs.take i = p at *
      clear hpe
      have HB := Lib.hid (And.intro hnum (And.intro hbl (And.intro hs (And.intro htk hlen))))
      clear hnum hbl hs htk hlen hx hm hxl hat hfit hpw hmul q3
      generalize xs.getD i 0 = z at *
      go_wp2_with fail
      refine HB.out.1.mono ?_
      rintro e w4 ⟨rfl, rfl⟩
      go_wp2_with (first
        | (at_builtin
           refine wpList_append_nums rfl (.tmp 53) (.tmp 56) rfl w3.heap.size u10 _ _ rfl (HB.out.2.2.1.alloc _).1 (some ⟨wr.heap.size, 0, none⟩) 1 1 [z] rfl rfl ?c1 (by simp) ?c2 ?c3 ?_))
      case c1 =>
        refine .inr ⟨wr.heap.size, 0, rfl, by simp, fun j hj => ?_⟩
        match j, hj with
        | 0, _ => simp
      case c2 => rw [HB.out.2.2.2.2]; omega
      case c3 => simp; omega
      intro v' w5 hown hgrow _
      have hI5 := (HB.out.2.2.1.alloc _).app (l' := xs.take (i + 1)) (by rw [HB.out.2.2.2.1]; simpa using hown) hgrow
      have HX := Lib.hid hI5
      clear hown hgrow hI5 HB
      go_wp2
      go_roundw
      case rel => exact ⟨i + 1, by omega, by go_num, HX.out⟩
      case measure => simp [intOf]; omega
    · obtain rfl : i = n := by omega
      have hti : xs.take i = xs := by rw [← hxl]; simp
      rw [hti] at hs
      have r := hs.1
      rw [hxl] at r
      obtain ⟨b, d, rfl, hnn, -⟩ := nums_of_own r
      have hfin := HS.out.2.2.trans (hs.2.mono HS.out.2.2.size)
      have HX := Lib.hid (And.intro hnn hfin)
      clear hs r hnn hbl hat hfit hpw hmul hti hxl HS hfin
      go_wp2
      go_ret2
      exact ⟨b, d, rfl, HX.out⟩

/-- What both Reads answer: the numbers xs and the code E. -/
structure RB (n y : Int) (s : ByteArray) (xs : List Int) (E : Int) : Prop where
  own : ∀ w, Calls Try.prog 24 #[.int .i64 n, .int .i64 y, .string s] w fun e w' => ∃ (nn WW L : Nat) (a : Option Addr) (m c : Nat), e = .returned (.tuple #[.agg #[.int .i64 (nn : Int), .int .i64 (WW : Int), .int .i64 (L : Int), .slice a m c], .int .i64 E]) ∧ IRow w' nn WW L a m c xs ∧ Below w.heap.size w w'
  doc : ∀ w, Calls Try.prog 25 #[.int .i64 n, .int .i64 y, .string s] w fun e w' => ∃ (a : Option Addr) (m c : Nat), e = .returned (.tuple #[.slice a m c, .int .i64 E]) ∧ NumsAt .i64 w' a xs ∧ xs.length = m ∧ Below w.heap.size w w'
  few : xs.length ≤ 5000

theorem irow_none (w : World) : IRow w 0 0 0 none 0 0 [] := ⟨Row_nil w, rfl, rfl, fun x hx => by simp at hx, by omega, by omega⟩

theorem rb_none {n y : Int} {s : ByteArray} (h1 : ∀ w, Calls Try.prog 24 #[.int .i64 n, .int .i64 y, .string s] w fun e w' => e = .returned (.tuple #[noInts, .int .i64 10]) ∧ Below w.heap.size w w')
    (h2 : ∀ w, Calls Try.prog 25 #[.int .i64 n, .int .i64 y, .string s] w fun e w' => e = .returned (.tuple #[.slice none 0 0, .int .i64 10]) ∧ Below w.heap.size w w') : RB n y s [] 10 :=
  ⟨fun w => (h1 w).mono fun _ w' h => ⟨0, 0, 0, none, 0, 0, h.1, irow_none w', h.2⟩, fun w => (h2 w).mono fun _ _ h => ⟨none, 0, 0, h.1, .inl rfl, rfl, h.2⟩, by simp⟩

theorem rb_any (n y : Int) (s : ByteArray) (hs : s.size ≤ 60) (hcap : y = 0 → n ≤ 5000 ∨ 16777216 < n) : ∃ xs E, RB n y s xs E := by
  by_cases h : 0 ≤ n ∧ n ≤ 16777216 ∧ 0 ≤ y ∧ y ≤ 62
  · obtain ⟨n, rfl⟩ := Int.eq_ofNat_of_zero_le h.1
    obtain ⟨W, rfl⟩ := Int.eq_ofNat_of_zero_le h.2.2.1
    obtain ⟨N, hN⟩ : ∃ N, n * W = N := ⟨_, rfl⟩
    have hNb : N ≤ 16777216 * 62 := by rw [← hN]; exact Nat.mul_le_mul (by omega) (by omega)
    by_cases h8 : s.size = p8 N
    · by_cases hc : Clean s N
      · have hN480 : N ≤ 480 := by unfold p8 at h8; omega
        have hn5 : n ≤ 5000 := by
          rcases Nat.eq_zero_or_pos W with e | e
          · have := hcap (by omega); omega
          · have := Nat.le_mul_of_pos_right n e; omega
        refine ⟨numsOf (sBits s N) n W, 0, ?_, ?_, by rw [numsOf_length]; exact hn5⟩
        · intro w
          refine (iread_ok n W N s w (by omega) (by omega) hN (by omega) h8 hc).mono ?_
          rintro e w' ⟨g, m, rfl, hr, hb⟩
          exact ⟨n, W, N, _, m, m, rfl, ⟨by rw [numsOf_row _ _ _ (by rw [sBits_length, hN])]; exact hr, numsOf_length _ _ _, hN, numsOf_fits _ _ _, by omega, by omega⟩, hb⟩
        · intro w
          refine (rread2_ok n W N s w hn5 (by omega) hN hs h8 hc).mono ?_
          rintro e w' ⟨a, c, rfl, hx, hb⟩
          exact ⟨a, n, c, rfl, hx, numsOf_length _ _ _, hb⟩
      · have h0 : 0 < N % 8 ∧ sB s (s.size - 1) / 2 ^ (N % 8) ≠ 0 := by
          unfold Clean at hc
          refine ⟨by omega, fun e => hc (.inr e)⟩
        refine ⟨[], 10, rb_none (fun w => iread_err n W N s w (by omega) (by omega) hN (fun u => read_trail N s u hs h8 h0.1 h0.2)) (fun w => rread2_err n W N s w (by omega) (by omega) hN (fun u => ?_))⟩
        refine (rread_loop N s u hs h8).mono ?_
        rintro e w' ⟨h1, h2⟩
        rcases h1 with ⟨h3, -⟩ | ⟨-, rfl⟩
        · exact absurd h3 hc
        · exact ⟨rfl, h2⟩
    · refine ⟨[], 10, rb_none (fun w => iread_err n W N s w (by omega) (by omega) hN (fun u => read_bad (N : Int) s u (by omega) hs (.inr (by rw [Int.toNat_natCast]; exact h8)))) (fun w => rread2_err n W N s w (by omega) (by omega) hN (fun u => ?_))⟩
      refine (rread_bad (N : Int) s u hs (.inr (by rw [Int.toNat_natCast]; exact h8))).mono ?_
      rintro e w' ⟨rfl, rfl⟩
      exact ⟨rfl, Below.refl _ _⟩
  · exact ⟨[], 10, rb_none (fun w => iread_arg n y s w h) (fun w => rread2_arg n y s w h)⟩

end Go.Proofs.Ytilfjdmgeflagaa
