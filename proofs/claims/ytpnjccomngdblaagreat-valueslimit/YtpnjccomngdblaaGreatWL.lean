/- The contracts of Count, Rank, Below. -/
import Derived.Test.YtpnjccomngdblaaGreatWK
set_option maxRecDepth 100000
namespace Go.Proofs.YtpnjccomngdblaaGreat
open Go.RowKit
open M
attribute [local go_sem ↓] Go.wp_at_zero Go.wp_at_succ

/-- How many c stand from f on up to t; how many of the first i are less than c. -/
def cntN (l : List Int) (size c f t : Int) : Nat := if hasB size c = true then eqN (rng l (lo l.length f) (hi l.length f t)) c.toNat else 0
def belN (l : List Int) (size c i : Int) : Nat := if c ≤ 0 then 0 else if size ≤ c then lo l.length i else ltN (rng l 0 (lo l.length i)) c.toNat

theorem lo_hi (n : Nat) (f t : Int) : lo n f ≤ hi n f t ∧ hi n f t ≤ n := by unfold hi lo; omega
theorem hi_zero (n : Nat) (t : Int) : hi n 0 t = lo n t := by unfold hi lo; omega
theorem lt_pow {y W : Nat} {size : Int} (h : (y : Int) < size) (hs : size ≤ 2 ^ W) : y < 2 ^ W := by
  have e : ((2 ^ W : Nat) : Int) = 2 ^ W := by simp
  omega
theorem eqN_le (m : List Int) (c : Nat) : eqN m c ≤ m.length := List.countP_le_length
theorem ltN_le (m : List Int) (c : Nat) : ltN m c ≤ m.length := List.countP_le_length
theorem rng_len (l : List Int) (f t : Nat) : (rng l f t).length ≤ l.length := by unfold rng; rw [List.length_drop, List.length_take]; omega

set_option maxHeartbeats 1000000 in
theorem wcount_any (l : List Int) (W : Nat) (a : Option Addr) (cap : Nat) (size c f t : Int) (w : World) (h : WX w l W a) (hs : size ≤ 2 ^ W) :
    Calls Tryz.prog 82 #[.agg #[.int .i64 (l.length : Int), .int .i64 size, .slice a W cap], .int .i64 c, .int .i64 f, .int .i64 t] w fun e w' => e = .returned (.int .i64 (cntN l size c f t : Nat)) ∧ Below w.heap.size w w' := by
  have hB := wbel w (.int .i64 (l.length : Int)) (.int .i64 size) (.slice a W cap)
  have hX := WBx.new w (l.length : Int) size (.slice a W cap)
  have hW := h.kept hB
  have hsm := h.small
  have hlh := lo_hi l.length f t
  have hd := fun (y : Nat) (hy : (y : Int) < size) u (hu : Below (w.alloc (.cells #[.int .i64 (l.length : Int), .int .i64 size, .slice a W cap] 28)).heap.size (w.alloc (.cells #[.int .i64 (l.length : Int), .int .i64 size, .slice a W cap] 28)) u) =>
    down_any l W a cap size y (lo l.length f) (hi l.length f t) u (hW.kept hu) (lt_pow hy hs) hlh.1 hlh.2
  unfold cntN
  have hel := fun y => Nat.le_trans (eqN_le (rng l (lo l.length f) (hi l.length f t)) y) (rng_len l _ _)
  generalize hm : rng l (lo l.length f) (hi l.length f t) = m at *
  have HM := Lib.hid hm
  have HD := Lib.hid hd
  have hk := fun u => wkeep_any l.length size (.slice a W cap) f t u (by omega)
  have hh := fun u => has_any (l.length : Int) size (.slice a W cap) c u
  have HK := Lib.hid hk
  have HHS := Lib.hid hh
  have HB := Lib.hid hB
  have HX := Lib.hid hX
  have HE := Lib.hid hel
  clear h hB hX hW hd hm hk hh hel
  generalize lo l.length f = p at *
  generalize hi l.length f t = q at *
  generalize hn : l.length = n at *
  generalize hz : w.alloc (.cells #[.int .i64 (n : Int), .int .i64 size, .slice a W cap] 28) = w1 at *
  by_cases hc : 0 ≤ c ∧ c < size
  · have hb : hasB size c = true := decide_eq_true hc
    obtain ⟨y, rfl⟩ : ∃ y : Nat, c = (y : Int) := ⟨c.toNat, by omega⟩
    rw [hb] at HHS
    rw [if_pos hb, show ((y : Int)).toNat = y by omega]
    have hey := HE.out y
    have HC := Lib.hid hc.2
    generalize hz0 : eqN m y = z at *
    have HZ0 := Lib.hid hz0
    clear hc hb hz0
    obtain ⟨x0, x1, x2⟩ := HX.out
    go_enter Tryz.func82, Tryz.ntmps82
    go_wp2_with fail
    refine (HHS.out _).mono ?_
    rintro e u1 ⟨rfl, hb1⟩
    have hx1 := HX.out.kept hb1
    clear x0 x1 x2 hz
    obtain ⟨x0, x1, x2⟩ := hx1
    have HB1 := Lib.hid hb1
    clear hb1
    go_wp2_with fail
    refine (HK.out _).mono ?_
    rintro e u2 ⟨rfl, hb2⟩
    have hb3 := HB1.out.trans (hb2.mono HB1.out.size)
    clear x0 x1 x2
    obtain ⟨x0, x1, x2⟩ := HX.out.kept hb3
    have HB3 := Lib.hid hb3
    clear hb2 hb3 HB1
    go_wp2_with fail
    refine (HD.out y HC.out _ HB3.out).mono ?_
    rintro e u3 ⟨r, rfl, hb4⟩
    rw [HM.out, HZ0.out]
    have HB5 := Lib.hid (HB3.out.trans (hb4.mono HB3.out.size))
    clear x0 x1 x2 hb4 HB3
    have q1 : IntKind.i64.wrap (((r + z : Nat) : Int) - (r : Int)) = (z : Int) := by rw [show ((r + z : Nat) : Int) - (r : Int) = (z : Int) by omega]; exact IntWalk.i64_in _ (by omega)
    go_wp2
    go_ret
    exact ⟨ret_int (by omega), HB.out.trans (HB5.out.mono HB.out.size)⟩
  · have hb : hasB size c = false := decide_eq_false hc
    rw [hb] at HHS
    rw [if_neg (by rw [hb]; decide)]
    clear hc hb HD HE
    obtain ⟨x0, x1, x2⟩ := HX.out
    go_enter Tryz.func82, Tryz.ntmps82
    go_wp2_with fail
    refine (HHS.out _).mono ?_
    rintro e u1 ⟨rfl, hb1⟩
    have HB1 := Lib.hid (HB.out.trans (hb1.mono HB.out.size))
    clear x0 x1 x2 hz hb1
    go_wp2
    go_ret
    exact ⟨rfl, HB1.out⟩

theorem wrk_any (l : List Int) (W : Nat) (a : Option Addr) (cap : Nat) (size c i : Int) (w : World) (h : WX w l W a) (hs : size ≤ 2 ^ W) :
    Calls Tryz.prog 61 #[.agg #[.int .i64 (l.length : Int), .int .i64 size, .slice a W cap], .int .i64 c, .int .i64 i] w fun e w' => e = .returned (.int .i64 (cntN l size c 0 i : Nat)) ∧ Below w.heap.size w w' := by
  have hB := wbel w (.int .i64 (l.length : Int)) (.int .i64 size) (.slice a W cap)
  have hc := wcount_any l W a cap size c 0 i _ (h.kept hB) hs
  have HC := Lib.hid hc
  have HB := Lib.hid hB
  clear h hB hc
  generalize cntN l size c 0 i = z at *
  generalize hn : l.length = n at *
  go_enter Tryz.func61, Tryz.ntmps61
  go_wp2_with fail
  refine HC.out.mono ?_
  rintro e u1 ⟨rfl, hb1⟩
  have HB1 := Lib.hid (HB.out.trans (hb1.mono HB.out.size))
  clear hb1
  go_wp2
  go_ret
  exact ⟨rfl, HB1.out⟩

set_option maxHeartbeats 1000000 in
theorem wbel_any (l : List Int) (W : Nat) (a : Option Addr) (cap : Nat) (size c i : Int) (w : World) (h : WX w l W a) (hs : size ≤ 2 ^ W) :
    Calls Tryz.prog 60 #[.agg #[.int .i64 (l.length : Int), .int .i64 size, .slice a W cap], .int .i64 c, .int .i64 i] w fun e w' => e = .returned (.int .i64 (belN l size c i : Nat)) ∧ Below w.heap.size w w' := by
  have hB := wbel w (.int .i64 (l.length : Int)) (.int .i64 size) (.slice a W cap)
  have hX := WBx.new w (l.length : Int) size (.slice a W cap)
  have hW := h.kept hB
  have hsm := h.small
  have hlh := lo_le l.length i
  have hd := fun (y : Nat) (hy : (y : Int) < size) u (hu : Below (w.alloc (.cells #[.int .i64 (l.length : Int), .int .i64 size, .slice a W cap] 28)).heap.size (w.alloc (.cells #[.int .i64 (l.length : Int), .int .i64 size, .slice a W cap] 28)) u) =>
    down_any l W a cap size y 0 (lo l.length i) u (hW.kept hu) (lt_pow hy hs) (Nat.zero_le _) hlh
  have hk := fun u => wkeep_any l.length size (.slice a W cap) 0 i u (by omega)
  rw [hi_zero] at hk
  unfold belN
  have hel := fun y => Nat.le_trans (ltN_le (rng l 0 (lo l.length i)) y) (rng_len l _ _)
  generalize hm : rng l 0 (lo l.length i) = m at *
  have HM := Lib.hid hm
  have HD := Lib.hid hd
  have HK := Lib.hid hk
  have HB := Lib.hid hB
  have HX := Lib.hid hX
  have HE := Lib.hid hel
  clear h hB hX hW hd hm hk hel
  have e0 : lo l.length 0 = 0 := by unfold lo; omega
  rw [e0] at HK
  generalize lo l.length i = q at *
  generalize hn : l.length = n at *
  generalize hz : w.alloc (.cells #[.int .i64 (n : Int), .int .i64 size, .slice a W cap] 28) = w1 at *
  generalize hzz : (if c ≤ 0 then 0 else if size ≤ c then q else ltN m c.toNat) = zz
  have HZ := Lib.hid hzz
  clear hzz
  obtain ⟨x0, x1, x2⟩ := HX.out
  go_enter Tryz.func60, Tryz.ntmps60
  go_wp2_with fail
  refine (HK.out _).mono ?_
  rintro e u1 ⟨rfl, hb1⟩
  have hx1 := HX.out.kept hb1
  clear x0 x1 x2 hz
  obtain ⟨x0, x1, x2⟩ := hx1
  have HB1 := Lib.hid hb1
  clear hb1
  by_cases hc : c ≤ 0
  · go_wp2
    go_ret
    exact ⟨ret_int (by rw [← HZ.out, if_pos hc]; rfl), HB.out.trans (HB1.out.mono HB.out.size)⟩
  · by_cases hc2 : size ≤ c
    · go_wp2
      go_ret
      exact ⟨ret_int (by rw [← HZ.out, if_neg (by omega), if_pos hc2]), HB.out.trans (HB1.out.mono HB.out.size)⟩
    · obtain ⟨y, rfl⟩ : ∃ y : Nat, c = (y : Int) := ⟨c.toNat, by omega⟩
      have HC2 : Hid (zz = ltN m y) := Lib.hid (by rw [← HZ.out, if_neg (by omega), if_neg (by omega), show ((y : Int)).toNat = y by omega])
      have hey := HE.out y
      have HC : Hid ((y : Int) < size) := Lib.hid (by omega)
      go_wp2_with fail
      refine (HD.out y HC.out _ HB1.out).mono ?_
      rintro e u3 ⟨r, rfl, hb4⟩
      rw [HM.out]
      have HB5 := Lib.hid (HB1.out.trans (hb4.mono HB1.out.size))
      clear x0 x1 x2 hb4 HB1
      generalize ltN m y = z at *
      go_wp2
      go_ret
      exact ⟨ret_int (by rw [HC2.out]), HB.out.trans (HB5.out.mono HB.out.size)⟩

end Go.Proofs.YtpnjccomngdblaaGreat
