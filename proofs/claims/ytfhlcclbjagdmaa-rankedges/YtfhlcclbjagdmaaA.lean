/- The contracts of the smallest functions: low, parts, onesOf, emptyWords. -/
import Derived.Test.YtfhlcclbjagdmaaRows
import Derived.Test.YtfhlcclbjagdmaaP
import Derived.WalkKit
import Derived.WalkSpells
import Derived.WalkLawsBesides
import Derived.Lib.Hide
namespace Go.Proofs.Ytfhlcclbjagdmaa
open Go.RowKit
open M

theorem ret_int {k : IntKind} {a b : Int} (h : a = b) : Ending.returned (.int k a) = .returned (.int k b) := by rw [h]

theorem wrapU (n : Nat) (h : n < 2 ^ 64) : IntKind.u64.wrap (n : Int) = (n : Int) := by
  rw [IntKind.wrap_u64]; omega

theorem low_eq (k : Nat) (h : k ≤ 64) : IntKind.u64.wrap (IntKind.u64.wrap ((2 : Int) ^ k) - 1) = ((2 ^ k - 1 : Nat) : Int) := by
  rw [IntKind.wrap_u64, IntKind.wrap_u64]
  by_cases e : k = 64
  · subst e; decide
  · have h2 : (2 : Nat) ^ k < 2 ^ 64 := Nat.pow_lt_pow_right (by decide) (by omega)
    have h3 : (0 : Nat) < 2 ^ k := Nat.pow_pos (by decide)
    have e2 : ((2 : Int) ^ k) = ((2 ^ k : Nat) : Int) := by simp
    rw [e2]
    omega

theorem low_any (n : Int) (w : World) (h0 : 0 ≤ n) (h1 : n ≤ 64) :
    Calls Try.prog 41 #[.int .i64 n] w fun e w' => e = .returned (.int .u64 ((2 ^ n.toNat - 1 : Nat) : Int)) ∧ w = w' := by
  go_enter Try.func41, Try.ntmps41
  go_wp2
  go_ret
  exact ⟨ret_int (low_eq _ (by omega)), rfl⟩

def p8 (n : Nat) : Nat := (n + 7) / 8

theorem parts64 (n : Int) (w : World) (h0 : 0 ≤ n) (h2 : n ≤ 1152921504606846976) :
    Calls Try.prog 37 #[.int .i64 n, .int .i64 64] w fun e w' => e = .returned (.int .i64 (nw n.toNat : Nat)) ∧ w = w' := by
  go_enter Try.func37, Try.ntmps37
  go_wp2
  · go_ret
    have hm : 0 < n % 64 := by assumption
    exact ⟨ret_int (by unfold nw; omega), rfl⟩
  · go_ret
    have hm : n % 64 ≤ 0 := by assumption
    exact ⟨ret_int (by unfold nw; omega), rfl⟩

theorem parts8 (n : Int) (w : World) (h0 : 0 ≤ n) (h2 : n ≤ 9223372036854775807) :
    Calls Try.prog 37 #[.int .i64 n, .int .i64 8] w fun e w' => e = .returned (.int .i64 (p8 n.toNat : Nat)) ∧ w = w' := by
  go_enter Try.func37, Try.ntmps37
  go_wp2
  · go_ret
    have hm : 0 < n % 8 := by assumption
    exact ⟨ret_int (by unfold p8; omega), rfl⟩
  · go_ret
    have hm : n % 8 ≤ 0 := by assumption
    exact ⟨ret_int (by unfold p8; omega), rfl⟩

theorem andU (a b : Nat) (ha : a < 2 ^ 64) (hb : b < 2 ^ 64) : bits .and .u64 (a : Int) (b : Int) = ((a &&& b : Nat) : Int) := bits_and_u64_nat a b ha hb

theorem swar_int (x : Nat) (h : x < 2 ^ 64) :
    wrap64 (IntKind.u64.wrap (bits .and .u64 (IntKind.u64.wrap (IntKind.u64.wrap (bits .and .u64 (IntKind.u64.wrap ((x : Int) - bits .and .u64 ((x : Int) / 2) 6148914691236517205)) 3689348814741910323 +
      bits .and .u64 (IntKind.u64.wrap ((x : Int) - bits .and .u64 ((x : Int) / 2) 6148914691236517205) / 4) 3689348814741910323) +
      IntKind.u64.wrap (bits .and .u64 (IntKind.u64.wrap ((x : Int) - bits .and .u64 ((x : Int) / 2) 6148914691236517205)) 3689348814741910323 +
      bits .and .u64 (IntKind.u64.wrap ((x : Int) - bits .and .u64 ((x : Int) / 2) 6148914691236517205) / 4) 3689348814741910323) / 16)) 1085102592571150095 * 72340172838076673) / 72057594037927936) = (swar x : Int) := by
  have g1 : (x / 2) &&& 6148914691236517205 ≤ x := Nat.le_trans Nat.and_le_left (Nat.div_le_self _ _)
  have e1 : bits .and .u64 ((x : Int) / 2) 6148914691236517205 = (((x / 2) &&& 6148914691236517205 : Nat) : Int) := andU (x / 2) 6148914691236517205 (by omega) (by decide)
  rw [e1]
  have e2 : IntKind.u64.wrap ((x : Int) - (((x / 2) &&& 6148914691236517205 : Nat) : Int)) = ((x - ((x / 2) &&& 6148914691236517205) : Nat) : Int) := by
    rw [← Int.ofNat_sub g1]; exact wrapU _ (by omega)
  rw [e2]
  have hs : swar x = (let y := x - ((x / 2) &&& 6148914691236517205); let z := (y &&& 3689348814741910323) + ((y / 4) &&& 3689348814741910323); let u := (z + z / 16) &&& 1085102592571150095; u * 72340172838076673 % 18446744073709551616 / 72057594037927936) := rfl
  rw [hs]
  generalize hy : x - ((x / 2) &&& 6148914691236517205) = y at *
  have hy' : y < 2 ^ 64 := by omega
  have e3 : bits .and .u64 (y : Int) 3689348814741910323 = ((y &&& 3689348814741910323 : Nat) : Int) := andU y 3689348814741910323 hy' (by decide)
  have e4 : bits .and .u64 ((y : Int) / 4) 3689348814741910323 = (((y / 4) &&& 3689348814741910323 : Nat) : Int) := andU (y / 4) 3689348814741910323 (by omega) (by decide)
  have g3 : y &&& 3689348814741910323 ≤ 3689348814741910323 := Nat.and_le_right
  have g4 : (y / 4) &&& 3689348814741910323 ≤ 3689348814741910323 := Nat.and_le_right
  have e5 : IntKind.u64.wrap (((y &&& 3689348814741910323 : Nat) : Int) + (((y / 4) &&& 3689348814741910323 : Nat) : Int)) = (((y &&& 3689348814741910323) + ((y / 4) &&& 3689348814741910323) : Nat) : Int) := wrapU _ (by omega)
  rw [e3, e4, e5]
  dsimp only
  generalize hz : (y &&& 3689348814741910323) + ((y / 4) &&& 3689348814741910323) = z at *
  clear e1 e2 e3 e4 e5 hs
  have e6 : IntKind.u64.wrap ((z : Int) + (z : Int) / 16) = ((z + z / 16 : Nat) : Int) := by
    rw [show (z : Int) + (z : Int) / 16 = ((z + z / 16 : Nat) : Int) by omega]; exact wrapU _ (by omega)
  have e7 : bits .and .u64 ((z + z / 16 : Nat) : Int) 1085102592571150095 = (((z + z / 16) &&& 1085102592571150095 : Nat) : Int) := andU _ 1085102592571150095 (by omega) (by decide)
  rw [e6, e7]
  generalize (z + z / 16) &&& 1085102592571150095 = u at *
  have e8 : IntKind.u64.wrap ((u : Int) * 72340172838076673) = ((u * 72340172838076673 % 18446744073709551616 : Nat) : Int) := by rw [IntKind.wrap_u64]; omega
  rw [e8]
  have g8 : u * 72340172838076673 % 18446744073709551616 < 18446744073709551616 := Nat.mod_lt _ (by decide)
  generalize u * 72340172838076673 % 18446744073709551616 = t at *
  simp only [wrap64]
  omega

theorem onesOf_any (x : Int) (l : List Bool) (w : World) (hl : l.length ≤ 64) (hx : x = (num l : Int)) :
    Calls Try.prog 40 #[.int .u64 x] w fun e w' => e = .returned (.int .i64 (cnt l : Nat)) ∧ w = w' := by
  have hn : num l < 2 ^ 64 := Nat.lt_of_lt_of_le (num_lt l) (Nat.pow_le_pow_right (by decide) hl)
  have hs := swar_int (num l) hn
  rw [swar_few l hl] at hs
  have HS := Lib.hid hs
  have HX := Lib.hid hx
  clear hs hn hx
  go_enter Try.func40, Try.ntmps40
  go_wp2
  go_ret
  exact ⟨ret_int (by rw [HX.out]; exact HS.out), rfl⟩

theorem info47 : (Try.prog.info? 47).map (fun i => (i.zero, i.size, i.bytes)) = some (some (.int .u64 0), 1, 8) := by kernel_rfl

/-- n words that are all 0, of the call's own. -/
theorem emptyWords_any (n : Int) (B : Nat) (w : World) (h0 : 0 ≤ n) (h2 : n ≤ 1000000000) (hB : B ≤ w.heap.size) :
    Calls Try.prog 28 #[.int .i64 n] w fun e w' => e = .returned (.slice (some ⟨w.heap.size, 0, none⟩) (nw n.toNat) (nw n.toNat)) ∧
      w'.ownsRow B 47 1 (.slice (some ⟨w.heap.size, 0, none⟩) (nw n.toNat) (nw n.toNat)) (nw n.toNat) (List.replicate (nw n.toNat) (.int .u64 0)) ∧ w.grownBy w' none := by
  obtain ⟨i0, hi, hz0, hz1, hz2⟩ := info_parts info47
  have hn : nw n.toNat ≤ 1000000000 := by unfold nw; omega
  go_enter Try.func28, Try.ntmps28
  go_wp2_with fail
  refine (parts64 n _ h0 (by omega)).mono ?_
  rintro e w' ⟨rfl, rfl⟩
  generalize hm : nw n.toNat = m at *
  have HM := Lib.hid hm
  clear hm
  go_wp2_with (first | (at_make; refine wpList_make_full _ rfl _ _ 28 rfl B 47 i0 (.int .u64 0) 1 Try.underlying28 hi hz0 hz1 _ _ _ _ m rfl rfl rfl rfl ?b2 ?b3 hB ?_))
  case b2 => rw [hz2]; omega
  case b3 => unfold maxLen; omega
  intro w1 hown hgrow
  go_wp2
  go_ret
  obtain rfl := HM.out
  refine ⟨rfl, ?_, hgrow⟩
  have := hown
  rw [toList_madeCells_one] at this
  exact this

end Go.Proofs.Ytfhlcclbjagdmaa
