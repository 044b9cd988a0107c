/- The walk of BitsReads. -/
import Derived.Test.YtpbemhcibhnhkaaX
namespace Go.Proofs.Ytpbemhcibhnhkaa
open Go.RowKit
open M

/-- Read and the document's Read come to the same bits and the same code. -/
def ReadBoth (n : Int) (t : ByteArray) (l : List Bool) (E : Int) : Prop :=
  l.length ≤ 480 ∧
  (∀ w : World, Calls Try.prog 26 #[.int .i64 n, .string t] w fun e w' => (∃ a k c, e = .returned (.tuple #[.agg #[.int .i64 (l.length : Int), .slice a k c], .int .i64 E]) ∧ RowAt w' (.slice a k c) l) ∧ Below w.heap.size w w') ∧
  (∀ w : World, Calls Try.prog 27 #[.int .i64 n, .string t] w fun e w' => (∃ a c, e = .returned (.tuple #[.slice a l.length c, .int .i64 E]) ∧ BoolsAt w' a l) ∧ Below w.heap.size w w')

theorem read_both_bad (n : Int) (t : ByteArray) (hn : n ≤ 9223372036854775807) (ht : t.size ≤ 60) (h : n < 0 ∨ t.size ≠ p8 n.toNat) : ReadBoth n t [] 10 := by
  refine ⟨by simp, fun w => ?_, fun w => ?_⟩
  · refine (read_bad n t w hn ht h).mono ?_
    rintro e w' ⟨rfl, hb⟩
    exact ⟨⟨none, 0, 0, rfl, Row_nil _⟩, hb⟩
  · refine (rread_bad n t w ht h).mono ?_
    rintro e w' ⟨rfl, rfl⟩
    exact ⟨⟨none, 0, rfl, .inl rfl⟩, Below.refl _ _⟩

theorem read_both_trail (m : Nat) (t : ByteArray) (ht : t.size ≤ 60) (h : t.size = p8 m) (hc : ¬ Clean t m) : ReadBoth (m : Int) t [] 10 := by
  have h8 : 0 < m % 8 := by
    rcases Nat.eq_zero_or_pos (m % 8) with h0 | h0
    · exact absurd (.inl h0) hc
    · exact h0
  have hd : sB t (t.size - 1) / 2 ^ (m % 8) ≠ 0 := fun h0 => hc (.inr h0)
  refine ⟨by simp, fun w => ?_, fun w => ?_⟩
  · refine (read_trail m t w ht h h8 hd).mono ?_
    rintro e w' ⟨rfl, hb⟩
    exact ⟨⟨none, 0, 0, rfl, Row_nil _⟩, hb⟩
  · refine (rread_loop m t w ht h).mono ?_
    rintro e w' ⟨hres, hb⟩
    rcases hres with ⟨hcl, -⟩ | ⟨-, rfl⟩
    · exact absurd hcl hc
    · exact ⟨⟨none, 0, rfl, .inl rfl⟩, hb⟩

theorem read_both_ok (m : Nat) (t : ByteArray) (ht : t.size ≤ 60) (h : t.size = p8 m) (hc : Clean t m) : ReadBoth (m : Int) t (sBits t m) 0 := by
  have hm : m ≤ 480 := by unfold p8 at h; omega
  refine ⟨by rw [sBits_length]; exact hm, fun w => ?_, fun w => ?_⟩
  · refine (read_ok m t w (by omega) h hc).mono ?_
    rintro e w' ⟨rfl, hr, hb⟩
    exact ⟨⟨_, _, _, by rw [sBits_length], hr⟩, hb⟩
  · refine (rread_loop m t w ht h).mono ?_
    rintro e w' ⟨hres, hb⟩
    rcases hres with ⟨-, a, c, rfl, hl⟩ | ⟨hnc, -⟩
    · exact ⟨⟨a, c, by rw [sBits_length], hl⟩, hb⟩
    · exact absurd hc hnc

theorem read_both (n : Int) (t : ByteArray) (hn : n ≤ 9223372036854775807) (ht : t.size ≤ 60) : ∃ l E, ReadBoth n t l E := by
  by_cases h : n < 0 ∨ t.size ≠ p8 n.toNat
  · exact ⟨_, _, read_both_bad n t hn ht h⟩
  · have h0 : 0 ≤ n := by omega
    have h1 : t.size = p8 n.toNat := by omega
    obtain ⟨m, rfl⟩ := Int.eq_ofNat_of_zero_le h0
    rw [Int.toNat_natCast] at h1
    by_cases hc : Clean t m
    · exact ⟨_, _, read_both_ok m t ht h1 hc⟩
    · exact ⟨_, _, read_both_trail m t ht h1 hc⟩

theorem list_is (a : Option Addr) (k c m : Nat) (l : List Bool) (w : World) (h : RowAt w (.slice a k c) l) (hn : l.length = m) (hl : m ≤ 1000) :
    Calls Try.prog 19 #[.agg #[.int .i64 (m : Int), .slice a k c]] w fun e w' => (∃ a cap, e = .returned (.slice a m cap) ∧ BoolsAt w' a l) ∧ Below w.heap.size w w' := by
  subst hn
  refine (list_any _ _ _ l w h (by omega)).mono ?_
  rintro e w' ⟨v, rfl, ⟨a, cap, rfl, hb⟩, hbel⟩
  exact ⟨⟨a, cap, rfl, hb⟩, hbel⟩

set_option maxHeartbeats 4000000 in
theorem reads_cf (s t : ByteArray) (n nn : Int) (w : World) (hc1 : 60 < s.size) (hc2 : s.extract 0 60 = t) (_ht : t.size ≤ 60) (hsl : s.size ≤ 9223372036854775807) (hq : n = nn)
    (l : List Bool) (E : Int) (hc : ReadBoth nn t l E) :
    Calls Try.prog 4 #[.int .i64 n, .string s, .bool false] w fun e w' => e = .returned (.bool true) ∧ Below w.heap.size w w' := by
  subst hq
  have HC := Lib.hid hc
  clear hc
  go_enter Try.func4, Try.ntmps4
  go_wp2_with fail
  refine (awake_any _).mono ?_
  rintro e w1 ⟨rfl, hb1⟩
  have HW := Lib.hid hb1
  clear hb1
  go_wp2_with fail
  refine (HC.out.2.1 w1).mono ?_
  rintro e w2 ⟨⟨a, k, c, rfl, hr2⟩, hb2⟩
  have hll := HC.out.1
  have hal : Below w2.heap.size w2 (w2.alloc (.cells #[.int .i64 (l.length : Int), .slice a k c] 28)) := (Below.refl _ _).alloc (Nat.le_refl _) _
  have hB3 : Below w.heap.size w (w2.alloc (.cells #[.int .i64 (l.length : Int), .slice a k c] 28)) := (HW.out.trans (hb2.mono HW.out.size)).trans (hal.mono (Nat.le_trans HW.out.size hb2.size))
  have hx3 := Bx.new w2 l.length (.slice a k c)
  have HB := Lib.hid (And.intro hB3 (And.intro hx3 (hr2.kept hal)))
  clear hB3 hx3 hb2 HW hr2 hal
  go_wp2_with fail
  generalize (w2.alloc (.cells #[.int .i64 (l.length : Int), .slice a k c] 28)) = w3 at *
  refine (HC.out.2.2 w3).mono ?_
  rintro e w' ⟨⟨la, lc, rfl, hlb⟩, hbr⟩
  have hbx := HB.out.2.1.kept hbr
  have H4 := Lib.hid (And.intro (HB.out.1.trans (hbr.mono HB.out.1.size)) (And.intro (HB.out.2.2.kept hbr) hlb))
  obtain ⟨d1, d2⟩ := hbx
  clear hbr HB hlb
  go_wp2_with fail
  refine (list_is a k c l.length l _ H4.out.2.1 rfl (by omega)).mono ?_
  rintro e w4 ⟨⟨a', cap, rfl, hbo⟩, hb4⟩
  clear d1 d2
  have H5 := Lib.hid (And.intro hbo (And.intro (H4.out.1.trans (hb4.mono H4.out.1.size)) (H4.out.2.2.kept hb4)))
  clear hbo hb4 H4
  go_wp2_with fail
  refine (rsame_any a' la l.length l.length cap lc l l w4 H5.out.1 H5.out.2.2 rfl rfl (by omega)).mono ?_
  rintro e w5 ⟨rfl, hb5⟩
  rw [decide_eq_true rfl]
  have H6 := Lib.hid (H5.out.2.1.trans (hb5.mono H5.out.2.1.size))
  clear hb5 H5
  go_wp2
  go_ret
  exact ⟨rfl, H6.out⟩

set_option maxHeartbeats 4000000 in
theorem reads_cp (s t : ByteArray) (n nn : Int) (w : World) (hc1 : 60 < s.size) (hc2 : s.extract 0 60 = t) (ht : t.size ≤ 60) (hsl : s.size ≤ 9223372036854775807) (hq : n.tmod (8 * (t.size : Int) + 1) = nn) (hq0 : 0 ≤ nn)
    (l : List Bool) (E : Int) (hc : ReadBoth nn t l E) :
    Calls Try.prog 4 #[.int .i64 n, .string s, .bool true] w fun e w' => e = .returned (.bool true) ∧ Below w.heap.size w w' := by
  have HC := Lib.hid hc
  clear hc
  go_enter Try.func4, Try.ntmps4
  go_wp2_with fail
  refine (awake_any _).mono ?_
  rintro e w1 ⟨rfl, hb1⟩
  have HW := Lib.hid hb1
  clear hb1
  go_wp2_with fail
  refine (HC.out.2.1 w1).mono ?_
  rintro e w2 ⟨⟨a, k, c, rfl, hr2⟩, hb2⟩
  have hll := HC.out.1
  have hal : Below w2.heap.size w2 (w2.alloc (.cells #[.int .i64 (l.length : Int), .slice a k c] 28)) := (Below.refl _ _).alloc (Nat.le_refl _) _
  have hB3 : Below w.heap.size w (w2.alloc (.cells #[.int .i64 (l.length : Int), .slice a k c] 28)) := (HW.out.trans (hb2.mono HW.out.size)).trans (hal.mono (Nat.le_trans HW.out.size hb2.size))
  have hx3 := Bx.new w2 l.length (.slice a k c)
  have HB := Lib.hid (And.intro hB3 (And.intro hx3 (hr2.kept hal)))
  clear hB3 hx3 hb2 HW hr2 hal
  go_wp2_with fail
  generalize (w2.alloc (.cells #[.int .i64 (l.length : Int), .slice a k c] 28)) = w3 at *
  refine (HC.out.2.2 w3).mono ?_
  rintro e w' ⟨⟨la, lc, rfl, hlb⟩, hbr⟩
  have hbx := HB.out.2.1.kept hbr
  have H4 := Lib.hid (And.intro (HB.out.1.trans (hbr.mono HB.out.1.size)) (And.intro (HB.out.2.2.kept hbr) hlb))
  obtain ⟨d1, d2⟩ := hbx
  clear hbr HB hlb
  go_wp2_with fail
  refine (list_is a k c l.length l _ H4.out.2.1 rfl (by omega)).mono ?_
  rintro e w4 ⟨⟨a', cap, rfl, hbo⟩, hb4⟩
  clear d1 d2
  have H5 := Lib.hid (And.intro hbo (And.intro (H4.out.1.trans (hb4.mono H4.out.1.size)) (H4.out.2.2.kept hb4)))
  clear hbo hb4 H4
  go_wp2_with fail
  refine (rsame_any a' la l.length l.length cap lc l l w4 H5.out.1 H5.out.2.2 rfl rfl (by omega)).mono ?_
  rintro e w5 ⟨rfl, hb5⟩
  rw [decide_eq_true rfl]
  have H6 := Lib.hid (H5.out.2.1.trans (hb5.mono H5.out.2.1.size))
  clear hb5 H5
  go_wp2
  go_ret
  exact ⟨rfl, H6.out⟩

set_option maxHeartbeats 4000000 in
theorem reads_cn (s t : ByteArray) (n nn : Int) (w : World) (hc1 : 60 < s.size) (hc2 : s.extract 0 60 = t) (ht : t.size ≤ 60) (hsl : s.size ≤ 9223372036854775807) (hq : n.tmod (8 * (t.size : Int) + 1) = -nn) (hq0 : 0 < nn) (hq1 : nn ≤ 480)
    (l : List Bool) (E : Int) (hc : ReadBoth nn t l E) :
    Calls Try.prog 4 #[.int .i64 n, .string s, .bool true] w fun e w' => e = .returned (.bool true) ∧ Below w.heap.size w w' := by
  have HC := Lib.hid hc
  clear hc
  go_enter Try.func4, Try.ntmps4
  go_wp2_with fail
  refine (awake_any _).mono ?_
  rintro e w1 ⟨rfl, hb1⟩
  have HW := Lib.hid hb1
  clear hb1
  go_wp2_with fail
  refine (HC.out.2.1 w1).mono ?_
  rintro e w2 ⟨⟨a, k, c, rfl, hr2⟩, hb2⟩
  have hll := HC.out.1
  have hal : Below w2.heap.size w2 (w2.alloc (.cells #[.int .i64 (l.length : Int), .slice a k c] 28)) := (Below.refl _ _).alloc (Nat.le_refl _) _
  have hB3 : Below w.heap.size w (w2.alloc (.cells #[.int .i64 (l.length : Int), .slice a k c] 28)) := (HW.out.trans (hb2.mono HW.out.size)).trans (hal.mono (Nat.le_trans HW.out.size hb2.size))
  have hx3 := Bx.new w2 l.length (.slice a k c)
  have HB := Lib.hid (And.intro hB3 (And.intro hx3 (hr2.kept hal)))
  clear hB3 hx3 hb2 HW hr2 hal
  go_wp2_with fail
  generalize (w2.alloc (.cells #[.int .i64 (l.length : Int), .slice a k c] 28)) = w3 at *
  refine (HC.out.2.2 w3).mono ?_
  rintro e w' ⟨⟨la, lc, rfl, hlb⟩, hbr⟩
  have hbx := HB.out.2.1.kept hbr
  have H4 := Lib.hid (And.intro (HB.out.1.trans (hbr.mono HB.out.1.size)) (And.intro (HB.out.2.2.kept hbr) hlb))
  obtain ⟨d1, d2⟩ := hbx
  clear hbr HB hlb
  go_wp2_with fail
  refine (list_is a k c l.length l _ H4.out.2.1 rfl (by omega)).mono ?_
  rintro e w4 ⟨⟨a', cap, rfl, hbo⟩, hb4⟩
  clear d1 d2
  have H5 := Lib.hid (And.intro hbo (And.intro (H4.out.1.trans (hb4.mono H4.out.1.size)) (H4.out.2.2.kept hb4)))
  clear hbo hb4 H4
  go_wp2_with fail
  refine (rsame_any a' la l.length l.length cap lc l l w4 H5.out.1 H5.out.2.2 rfl rfl (by omega)).mono ?_
  rintro e w5 ⟨rfl, hb5⟩
  rw [decide_eq_true rfl]
  have H6 := Lib.hid (H5.out.2.1.trans (hb5.mono H5.out.2.1.size))
  clear hb5 H5
  go_wp2
  go_ret
  exact ⟨rfl, H6.out⟩

set_option maxHeartbeats 4000000 in
theorem reads_sf (t : ByteArray) (n nn : Int) (w : World)  (ht : t.size ≤ 60) (hq : n = nn)
    (l : List Bool) (E : Int) (hc : ReadBoth nn t l E) :
    Calls Try.prog 4 #[.int .i64 n, .string t, .bool false] w fun e w' => e = .returned (.bool true) ∧ Below w.heap.size w w' := by
  subst hq
  have HC := Lib.hid hc
  clear hc
  go_enter Try.func4, Try.ntmps4
  go_wp2_with fail
  refine (awake_any _).mono ?_
  rintro e w1 ⟨rfl, hb1⟩
  have HW := Lib.hid hb1
  clear hb1
  go_wp2_with fail
  refine (HC.out.2.1 w1).mono ?_
  rintro e w2 ⟨⟨a, k, c, rfl, hr2⟩, hb2⟩
  have hll := HC.out.1
  have hal : Below w2.heap.size w2 (w2.alloc (.cells #[.int .i64 (l.length : Int), .slice a k c] 28)) := (Below.refl _ _).alloc (Nat.le_refl _) _
  have hB3 : Below w.heap.size w (w2.alloc (.cells #[.int .i64 (l.length : Int), .slice a k c] 28)) := (HW.out.trans (hb2.mono HW.out.size)).trans (hal.mono (Nat.le_trans HW.out.size hb2.size))
  have hx3 := Bx.new w2 l.length (.slice a k c)
  have HB := Lib.hid (And.intro hB3 (And.intro hx3 (hr2.kept hal)))
  clear hB3 hx3 hb2 HW hr2 hal
  go_wp2_with fail
  generalize (w2.alloc (.cells #[.int .i64 (l.length : Int), .slice a k c] 28)) = w3 at *
  refine (HC.out.2.2 w3).mono ?_
  rintro e w' ⟨⟨la, lc, rfl, hlb⟩, hbr⟩
  have hbx := HB.out.2.1.kept hbr
  have H4 := Lib.hid (And.intro (HB.out.1.trans (hbr.mono HB.out.1.size)) (And.intro (HB.out.2.2.kept hbr) hlb))
  obtain ⟨d1, d2⟩ := hbx
  clear hbr HB hlb
  go_wp2_with fail
  refine (list_is a k c l.length l _ H4.out.2.1 rfl (by omega)).mono ?_
  rintro e w4 ⟨⟨a', cap, rfl, hbo⟩, hb4⟩
  clear d1 d2
  have H5 := Lib.hid (And.intro hbo (And.intro (H4.out.1.trans (hb4.mono H4.out.1.size)) (H4.out.2.2.kept hb4)))
  clear hbo hb4 H4
  go_wp2_with fail
  refine (rsame_any a' la l.length l.length cap lc l l w4 H5.out.1 H5.out.2.2 rfl rfl (by omega)).mono ?_
  rintro e w5 ⟨rfl, hb5⟩
  rw [decide_eq_true rfl]
  have H6 := Lib.hid (H5.out.2.1.trans (hb5.mono H5.out.2.1.size))
  clear hb5 H5
  go_wp2
  go_ret
  exact ⟨rfl, H6.out⟩

set_option maxHeartbeats 4000000 in
theorem reads_sp (t : ByteArray) (n nn : Int) (w : World)  (ht : t.size ≤ 60) (hq : n.tmod (8 * (t.size : Int) + 1) = nn) (hq0 : 0 ≤ nn)
    (l : List Bool) (E : Int) (hc : ReadBoth nn t l E) :
    Calls Try.prog 4 #[.int .i64 n, .string t, .bool true] w fun e w' => e = .returned (.bool true) ∧ Below w.heap.size w w' := by
  have HC := Lib.hid hc
  clear hc
  go_enter Try.func4, Try.ntmps4
  go_wp2_with fail
  refine (awake_any _).mono ?_
  rintro e w1 ⟨rfl, hb1⟩
  have HW := Lib.hid hb1
  clear hb1
  go_wp2_with fail
  refine (HC.out.2.1 w1).mono ?_
  rintro e w2 ⟨⟨a, k, c, rfl, hr2⟩, hb2⟩
  have hll := HC.out.1
  have hal : Below w2.heap.size w2 (w2.alloc (.cells #[.int .i64 (l.length : Int), .slice a k c] 28)) := (Below.refl _ _).alloc (Nat.le_refl _) _
  have hB3 : Below w.heap.size w (w2.alloc (.cells #[.int .i64 (l.length : Int), .slice a k c] 28)) := (HW.out.trans (hb2.mono HW.out.size)).trans (hal.mono (Nat.le_trans HW.out.size hb2.size))
  have hx3 := Bx.new w2 l.length (.slice a k c)
  have HB := Lib.hid (And.intro hB3 (And.intro hx3 (hr2.kept hal)))
  clear hB3 hx3 hb2 HW hr2 hal
  go_wp2_with fail
  generalize (w2.alloc (.cells #[.int .i64 (l.length : Int), .slice a k c] 28)) = w3 at *
  refine (HC.out.2.2 w3).mono ?_
  rintro e w' ⟨⟨la, lc, rfl, hlb⟩, hbr⟩
  have hbx := HB.out.2.1.kept hbr
  have H4 := Lib.hid (And.intro (HB.out.1.trans (hbr.mono HB.out.1.size)) (And.intro (HB.out.2.2.kept hbr) hlb))
  obtain ⟨d1, d2⟩ := hbx
  clear hbr HB hlb
  go_wp2_with fail
  refine (list_is a k c l.length l _ H4.out.2.1 rfl (by omega)).mono ?_
  rintro e w4 ⟨⟨a', cap, rfl, hbo⟩, hb4⟩
  clear d1 d2
  have H5 := Lib.hid (And.intro hbo (And.intro (H4.out.1.trans (hb4.mono H4.out.1.size)) (H4.out.2.2.kept hb4)))
  clear hbo hb4 H4
  go_wp2_with fail
  refine (rsame_any a' la l.length l.length cap lc l l w4 H5.out.1 H5.out.2.2 rfl rfl (by omega)).mono ?_
  rintro e w5 ⟨rfl, hb5⟩
  rw [decide_eq_true rfl]
  have H6 := Lib.hid (H5.out.2.1.trans (hb5.mono H5.out.2.1.size))
  clear hb5 H5
  go_wp2
  go_ret
  exact ⟨rfl, H6.out⟩

set_option maxHeartbeats 4000000 in
theorem reads_sn (t : ByteArray) (n nn : Int) (w : World)  (ht : t.size ≤ 60) (hq : n.tmod (8 * (t.size : Int) + 1) = -nn) (hq0 : 0 < nn) (hq1 : nn ≤ 480)
    (l : List Bool) (E : Int) (hc : ReadBoth nn t l E) :
    Calls Try.prog 4 #[.int .i64 n, .string t, .bool true] w fun e w' => e = .returned (.bool true) ∧ Below w.heap.size w w' := by
  have HC := Lib.hid hc
  clear hc
  go_enter Try.func4, Try.ntmps4
  go_wp2_with fail
  refine (awake_any _).mono ?_
  rintro e w1 ⟨rfl, hb1⟩
  have HW := Lib.hid hb1
  clear hb1
  go_wp2_with fail
  refine (HC.out.2.1 w1).mono ?_
  rintro e w2 ⟨⟨a, k, c, rfl, hr2⟩, hb2⟩
  have hll := HC.out.1
  have hal : Below w2.heap.size w2 (w2.alloc (.cells #[.int .i64 (l.length : Int), .slice a k c] 28)) := (Below.refl _ _).alloc (Nat.le_refl _) _
  have hB3 : Below w.heap.size w (w2.alloc (.cells #[.int .i64 (l.length : Int), .slice a k c] 28)) := (HW.out.trans (hb2.mono HW.out.size)).trans (hal.mono (Nat.le_trans HW.out.size hb2.size))
  have hx3 := Bx.new w2 l.length (.slice a k c)
  have HB := Lib.hid (And.intro hB3 (And.intro hx3 (hr2.kept hal)))
  clear hB3 hx3 hb2 HW hr2 hal
  go_wp2_with fail
  generalize (w2.alloc (.cells #[.int .i64 (l.length : Int), .slice a k c] 28)) = w3 at *
  refine (HC.out.2.2 w3).mono ?_
  rintro e w' ⟨⟨la, lc, rfl, hlb⟩, hbr⟩
  have hbx := HB.out.2.1.kept hbr
  have H4 := Lib.hid (And.intro (HB.out.1.trans (hbr.mono HB.out.1.size)) (And.intro (HB.out.2.2.kept hbr) hlb))
  obtain ⟨d1, d2⟩ := hbx
  clear hbr HB hlb
  go_wp2_with fail
  refine (list_is a k c l.length l _ H4.out.2.1 rfl (by omega)).mono ?_
  rintro e w4 ⟨⟨a', cap, rfl, hbo⟩, hb4⟩
  clear d1 d2
  have H5 := Lib.hid (And.intro hbo (And.intro (H4.out.1.trans (hb4.mono H4.out.1.size)) (H4.out.2.2.kept hb4)))
  clear hbo hb4 H4
  go_wp2_with fail
  refine (rsame_any a' la l.length l.length cap lc l l w4 H5.out.1 H5.out.2.2 rfl rfl (by omega)).mono ?_
  rintro e w5 ⟨rfl, hb5⟩
  rw [decide_eq_true rfl]
  have H6 := Lib.hid (H5.out.2.1.trans (hb5.mono H5.out.2.1.size))
  clear hb5 H5
  go_wp2
  go_ret
  exact ⟨rfl, H6.out⟩

end Go.Proofs.Ytpbemhcibhnhkaa
