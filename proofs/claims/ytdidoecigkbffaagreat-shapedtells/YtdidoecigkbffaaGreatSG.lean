/- The contracts of the library's LastIndexByte and Repeat, for texts of digits. -/
import Derived.Test.YtdidoecigkbffaaGreatJG
set_option maxRecDepth 100000
namespace Go.Proofs.YtdidoecigkbffaaGreat
open Go.RowKit
open S J

def dig (b : Bool) : UInt8 := if b then 49 else 48
/-- The text of digits. -/
def str (l : List Bool) : ByteArray := ⟨(l.map dig).toArray⟩

theorem str_size (l : List Bool) : (str l).size = l.length := by simp [str, ByteArray.size]
theorem str_at (l : List Bool) (i : Nat) (h : i < l.length) (h' : i < (str l).size) : (str l)[i] = dig (l.getD i false) := by
  show (str l).data[i] = _
  simp [str, List.getD_eq_getElem?_getD, h]

set_option maxHeartbeats 1000000 in
theorem lastByte_any (s : ByteArray) (p : Nat) (w : World) (hp : p < s.size) (hs : s.size ≤ 1000000) (h1 : ∀ h : p < s.size, s[p] = 48) (h2 : ∀ j, p < j → ∀ h : j < s.size, s[j] ≠ 48) :
    Calls Tryz.prog 84 #[.string s, .int .u8 48] w fun e w' => e = .returned (.int .i64 (p : Int)) ∧ w = w' := by
  have H := Lib.hid (And.intro h1 h2)
  clear h1 h2
  go_enter Tryz.func84, Tryz.ntmps84
  go_wp2
  go_loop [5] (fun v => ∃ i : Nat, p ≤ i ∧ i < s.size ∧ v = .int .i64 (i : Int)) (fun v => (intOf v).toNat)
  case atStart => exact ⟨s.size - 1, by omega, by omega, by go_num⟩
  case round =>
    obtain ⟨i, hpi, hi, rfl⟩ := hrel
    by_cases e : i = p
    · subst e
      have hc := H.out.1 hi
      have hc2 : ((s[i].toNat : Int) == 48) = true := by rw [hc]; rfl
      clear hc
      go_wp2
      go_ret
      exact ⟨rfl, rfl⟩
    · have hc := H.out.2 i (by omega) hi
      have hc2 : ((s[i].toNat : Int) == 48) = false := by
        simp only [beq_eq_false_iff_ne, ne_eq]
        intro h
        apply hc
        apply UInt8.toNat_inj.1
        show s[i].toNat = 48
        omega
      clear hc
      go_wp2
      go_round
      case rel => exact ⟨i - 1, by omega, by omega, by go_num⟩
      case measure => simp [intOf]; omega

theorem mul_one (c : Nat) (w : World) (h : c ≤ 1000) : Calls Tryz.prog 80 #[.int .u64 1, .int .u64 (c : Int)] w fun e w' => e = .returned (.tuple #[.int .u64 0, .int .u64 (c : Int)]) ∧ w = w' := by
  have ha : bits .and .u64 (c : Int) 4294967295 = (c : Int) := by
    have e : (4294967295 : Int) = ((4294967295 : Nat) : Int) := rfl
    rw [e, bits_and_u64_nat c 4294967295 (by omega) (by omega)]
    rw [show 4294967295 = 2 ^ 32 - 1 from rfl, Nat.and_two_pow_sub_one_eq_mod, Nat.mod_eq_of_lt (by omega)]
  have hb : (c : Int) / 4294967296 = 0 := by omega
  have hc : bits .and .u64 1 4294967295 = 1 := rfl
  have hd : bits .and .u64 0 4294967295 = 0 := rfl
  go_enter Tryz.func80, Tryz.ntmps80
  go_wp2
  go_ret2
  exact ⟨rfl, rfl⟩

theorem mul1_one (c : Nat) (w : World) (h : c ≤ 1000) : Calls Tryz.prog 55 #[.int .u64 1, .int .u64 (c : Int)] w fun e w' => e = .returned (.tuple #[.int .u64 0, .int .u64 (c : Int)]) ∧ w = w' := by
  go_enter Tryz.func55, Tryz.ntmps55
  go_wp2_with fail
  refine (mul_one c w h).mono ?_
  rintro e w' ⟨rfl, rfl⟩
  go_wp2
  go_ret2
  exact ⟨rfl, rfl⟩

theorem last_any (s : ByteArray) (p : Nat) (w : World) (hp : p < s.size) (hs : s.size ≤ 1000000) (h1 : ∀ h : p < s.size, s[p] = 48) (h2 : ∀ j, p < j → ∀ h : j < s.size, s[j] ≠ 48) :
    Calls Tryz.prog 61 #[.string s, .int .u8 48] w fun e w' => e = .returned (.int .i64 (p : Int)) ∧ w = w' := by
  have H := Lib.hid (lastByte_any s p w hp hs h1 h2)
  clear h1 h2
  go_enter Tryz.func61, Tryz.ntmps61
  go_wp2_with fail
  refine H.out.mono ?_
  rintro e w' ⟨rfl, rfl⟩
  go_wp2
  go_ret
  exact ⟨rfl, rfl⟩

theorem repeat_zero (w : World) : Calls Tryz.prog 36 #[.string ⟨#[48]⟩, .int .i64 0] w fun e w' => e = .returned (.string (str [])) ∧ w = w' := by
  go_enter Tryz.func36, Tryz.ntmps36
  go_wp2
  go_ret
  exact ⟨rfl, rfl⟩

theorem repeat_one (w : World) : Calls Tryz.prog 36 #[.string ⟨#[48]⟩, .int .i64 1] w fun e w' => e = .returned (.string (str [false])) ∧ w = w' := by
  go_enter Tryz.func36, Tryz.ntmps36
  go_wp2
  go_ret
  exact ⟨rfl, rfl⟩

/-- Does a text begin with 0? -/
def preB (s : ByteArray) : Bool := match s.data.toList with
  | [] => false
  | x :: _ => x == 48

theorem ex_take (s : ByteArray) (a : Nat) : (s.extract 0 a).data.toList = s.data.toList.take a := by
  rw [ByteArray.data_extract, Array.toList_extract]; simp

theorem pre_eq (s : ByteArray) : ((s.extract 0 1).toList == [48]) = preB s := by
  rw [ByteArray.toList_eq, ex_take]
  unfold preB
  cases h : s.data.toList with
  | nil => rfl
  | cons x l => simp

theorem pre_any (s : ByteArray) (w : World) (h : 1 ≤ s.size) (hs : s.size ≤ 1000) : Calls Tryz.prog 56 #[.string s, .string ⟨#[48]⟩] w fun e w' => e = .returned (.bool (preB s)) ∧ w = w' := by
  have HP := Lib.hid (pre_eq s)
  have hh : (1 : Int) ≤ (s.size : Int) := by omega
  go_enter Tryz.func56, Tryz.ntmps56
  go_wp2_with go_in
  go_ret
  exact ⟨by rw [← HP.out]; rfl, rfl⟩

theorem pre_yes (s : ByteArray) (w : World) (h : 1 ≤ s.size) (hs : s.size ≤ 1000) (hp : preB s = true) : Calls Tryz.prog 56 #[.string s, .string ⟨#[48]⟩] w fun e w' => e = .returned (.bool true) ∧ w = w' := (pre_any s w h hs).mono fun _ _ ⟨h1, h2⟩ => ⟨by rw [h1, hp], h2⟩
theorem pre_no (s : ByteArray) (w : World) (h : 1 ≤ s.size) (hs : s.size ≤ 1000) (hp : preB s = false) : Calls Tryz.prog 56 #[.string s, .string ⟨#[48]⟩] w fun e w' => e = .returned (.bool false) ∧ w = w' := (pre_any s w h hs).mono fun _ _ ⟨h1, h2⟩ => ⟨by rw [h1, hp], h2⟩

theorem zeros_eq (s : ByteArray) (c : Nat) (h : c ≤ s.size) (hz : ∀ x ∈ s.data.toList, x = 48) : s.extract 0 c = str (List.replicate c false) := by
  apply ByteArray.ext
  apply Array.toList_inj.1
  rw [ex_take]
  show _ = ((List.replicate c false).map dig)
  rw [List.map_replicate]
  have hl : (s.data.toList.take c).length = c := by
    rw [List.length_take]
    have : s.data.toList.length = s.size := by simp
    omega
  rw [List.eq_replicate_iff]
  exact ⟨hl, fun x hx => hz x (List.mem_of_mem_take hx)⟩

set_option maxHeartbeats 4000000 in
theorem repeat_more (c : Nat) (w : World) (h2 : 2 ≤ c) (hc : c ≤ 39) : Calls Tryz.prog 36 #[.string ⟨#[48]⟩, .int .i64 (c : Int)] w fun e w' => e = .returned (.string (str (List.replicate c false))) ∧ w = w' := by
  have e0 : ((c : Int) == 0) = false := by simp; omega
  have e1 : ((c : Int) == 1) = false := by simp; omega
  have e2 : ¬ (c : Int) < 0 := by omega
  have e3 : (c : Int) ≤ 128 := by omega
  have e4 : (c : Int) ≤ 64 := by omega
  have e5 : ¬ (9223372036854775807 : Int) < (c : Int) := by omega
  go_enter Tryz.func36, Tryz.ntmps36
  go_wp2_with (first
    | (go_at_call 55; refine (mul1_one c w (by omega)).mono ?_; rintro e w' ⟨rfl, rfl⟩)
    | (go_at_call 56; refine (pre_no _ w (Nat.le_of_ble_eq_true rfl) (Nat.le_of_ble_eq_true rfl) rfl).mono ?_; rintro e w' ⟨rfl, rfl⟩)
    | (go_at_call 56; refine (pre_yes _ w (Nat.le_of_ble_eq_true rfl) (Nat.le_of_ble_eq_true rfl) rfl).mono ?_; rintro e w' ⟨rfl, rfl⟩))
  go_ret
  refine ⟨?_, rfl⟩
  show Ending.returned (Value.string (ByteArray.extract _ 0 c)) = _
  rw [zeros_eq _ c (Nat.le_trans hc (Nat.le_of_ble_eq_true rfl))]
  decide

end Go.Proofs.YtdidoecigkbffaaGreat
