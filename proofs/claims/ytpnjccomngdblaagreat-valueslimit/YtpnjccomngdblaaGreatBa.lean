/- Merged out of: M P A E B C D F G H I J K L N O Q R T U V X BackA BuildsA. -/
import Derived.Test.YtpnjccomngdblaaGreatRows
import Derived.WalkKit
import Derived.WalkSpells
import Derived.WalkLawsBesides
import Derived.Lib.Hide
import Derived.Deep.AppendLies
import Derived.StillTailTactics
import Derived.Deep.QuietTactic
import Derived.BigQuiet
import Derived.Deep.RegionHeld3
import Derived.Deep.DrawnRows
import Derived.Laws.BytesArg
import Derived.Deep.RegionLaw
import Derived.BigRegion
import Derived.Laws.CopyOwn
import Derived.ProofKit
import Derived.OpenShut
import Derived.ShutString
import Derived.ChangeOld
import Derived.Deep.Grids
import Derived.Laws.AppendOwnNone
import Derived.ChangeSlices
import Derived.Deep.Slices
set_option maxRecDepth 100000

section
/- Plain facts on lists of bits and the numbers that they are: no program is named here. -/
namespace Go.Proofs.YtpnjccomngdblaaGreat.M

/-- The number whose bits these are, the first one the least. -/
def num : List Bool → Nat
  | [] => 0
  | b :: r => (if b then 1 else 0) + 2 * num r

/-- How many are true. -/
def cnt : List Bool → Nat
  | [] => 0
  | b :: r => (if b then 1 else 0) + cnt r

theorem cnt_append (a b : List Bool) : cnt (a ++ b) = cnt a + cnt b := by
  induction a with
  | nil => simp [cnt]
  | cons x r ih => simp [cnt, ih]; omega

theorem cnt_le (a : List Bool) : cnt a ≤ a.length := by
  induction a with
  | nil => simp [cnt]
  | cons x r ih => simp [cnt]; split <;> omega

theorem num_lt (l : List Bool) : num l < 2 ^ l.length := by
  induction l with
  | nil => simp [num]
  | cons b r ih => simp only [num, List.length_cons, Nat.pow_succ]; split <;> omega

theorem num_testBit (l : List Bool) (i : Nat) : (num l).testBit i = l.getD i false := by
  induction l generalizing i with
  | nil => simp [num]
  | cons b r ih =>
    cases i with
    | zero => cases b <;> simp [num, Nat.testBit_zero]
    | succ i =>
      rw [Nat.testBit_succ]
      have : num (b :: r) / 2 = num r := by simp only [num]; split <;> omega
      rw [this, ih]
      simp

theorem num_append (a b : List Bool) : num (a ++ b) = num a + 2 ^ a.length * num b := by
  induction a with
  | nil => simp [num]
  | cons x r ih => simp only [num, List.cons_append, ih, List.length_cons, Nat.pow_succ]; rw [Nat.mul_add, Nat.add_assoc]; congr 2; rw [Nat.mul_comm (2 ^ r.length) 2, Nat.mul_assoc]

theorem num_inj : ∀ (a b : List Bool), a.length = b.length → num a = num b → a = b
  | [], [], _, _ => rfl
  | x :: a, y :: b, h, e => by
    simp only [num] at e
    have hx : x = y := by
      cases x <;> cases y <;> simp at e ⊢ <;> omega
    subst hx
    have e' : num a = num b := by omega
    rw [num_inj a b (by simpa using h) e']

/-- Any number below 2^n is that of n bits. -/
def bitsOf (x : Nat) : Nat → List Bool
  | 0 => []
  | n + 1 => (x % 2 == 1) :: bitsOf (x / 2) n

theorem bitsOf_length (x n : Nat) : (bitsOf x n).length = n := by
  induction n generalizing x with
  | zero => rfl
  | succ n ih => simp [bitsOf, ih]

theorem num_bitsOf (x n : Nat) (h : x < 2 ^ n) : num (bitsOf x n) = x := by
  induction n generalizing x with
  | zero => simp at h; simp [bitsOf, num, h]
  | succ n ih =>
    simp only [bitsOf, num]
    rw [ih (x / 2) (by rw [Nat.pow_succ] at h; omega)]
    rcases Nat.mod_two_eq_zero_or_one x with e | e <;> simp [e] <;> omega

theorem bitsOf_getD (x n i : Nat) (h : i < n) : (bitsOf x n).getD i false = x.testBit i := by
  induction n generalizing x i with
  | zero => omega
  | succ n ih =>
    cases i with
    | zero => simp [bitsOf, Nat.testBit_zero]; rw [Bool.eq_iff_iff]; simp
    | succ i => simp only [bitsOf, List.getD_cons_succ]; rw [ih (x / 2) i (by omega), Nat.testBit_succ]

/-- How many words n bits fill or begin. -/
def nw (n : Nat) : Nat := (n + 63) / 64

/-- Word k of a row. -/
def wd (l : List Bool) (k : Nat) : Nat := num ((l.drop (64 * k)).take 64)

theorem wd_lt (l : List Bool) (k : Nat) : wd l k < 2 ^ 64 :=
  Nat.lt_of_lt_of_le (num_lt _) (Nat.pow_le_pow_right (by decide) (by simp; omega))

theorem wd_bit (l : List Bool) (k j : Nat) (h : j < 64) : (wd l k).testBit j = l.getD (64 * k + j) false := by
  rw [wd, num_testBit]
  simp [List.getD_eq_getElem?_getD, List.getElem?_drop, h]

theorem wd_bit_ge (l : List Bool) (k j : Nat) (h : 64 ≤ j) : (wd l k).testBit j = false := by
  apply Nat.testBit_lt_two_pow
  exact Nat.lt_of_lt_of_le (wd_lt l k) (Nat.pow_le_pow_right (by decide) h)

theorem wd_out (l : List Bool) (k : Nat) (h : nw l.length ≤ k) : wd l k = 0 := by
  unfold nw at h
  have : l.drop (64 * k) = [] := List.drop_eq_nil_of_le (by omega)
  simp [wd, this, num]

/-- A piece of one word: the bits from p on, q - p of them. -/
theorem wd_piece (l : List Bool) (p n : Nat) (h : p % 64 + n ≤ 64) :
    (wd l (p / 64) / 2 ^ (p % 64)) &&& (2 ^ n - 1) = num ((l.drop p).take n) := by
  apply Nat.eq_of_testBit_eq
  intro i
  rw [Nat.and_two_pow_sub_one_eq_mod, Nat.testBit_mod_two_pow, Nat.testBit_div_two_pow, num_testBit]
  simp only [List.getD_eq_getElem?_getD, List.getElem?_take, List.getElem?_drop]
  by_cases hi : i < n
  · rw [wd_bit _ _ _ (by omega)]
    have e : 64 * (p / 64) + (i + p % 64) = p + i := by omega
    simp [hi, e]
  · simp [hi]

/-- Bits behind bits: by 'or'. -/
theorem num_or (a b : List Bool) : num a ||| (num b * 2 ^ a.length) = num (a ++ b) := by
  apply Nat.eq_of_testBit_eq
  intro i
  rw [Nat.testBit_or, Nat.mul_comm, Nat.testBit_two_pow_mul, num_testBit, num_testBit, num_testBit]
  simp only [List.getD_eq_getElem?_getD, List.getElem?_append]
  by_cases hi : i < a.length
  · simp [hi, Nat.not_le.2 hi]
  · simp [hi, Nat.le_of_not_lt hi]

/-- Bits put behind a row: what becomes of its words (the piece lies within one word). -/
theorem wd_append (l b : List Bool) (k : Nat) (h : l.length % 64 + b.length ≤ 64) :
    wd (l ++ b) k = if k = l.length / 64 then wd l k ||| (num b * 2 ^ (l.length % 64)) else wd l k := by
  apply Nat.eq_of_testBit_eq
  intro i
  by_cases hi : i < 64
  · rw [wd_bit _ _ _ hi]
    split
    · rename_i hk
      subst hk
      rw [Nat.testBit_or, wd_bit _ _ _ hi, Nat.mul_comm (num b), Nat.testBit_two_pow_mul, num_testBit]
      simp only [List.getD_eq_getElem?_getD, List.getElem?_append]
      by_cases hj : i < l.length % 64
      · have e : 64 * (l.length / 64) + i < l.length := by omega
        simp [e, Nat.not_le.2 hj]
      · have e : ¬ 64 * (l.length / 64) + i < l.length := by omega
        have e2 : 64 * (l.length / 64) + i - l.length = i - l.length % 64 := by omega
        simp [e, e2, Nat.le_of_not_lt hj]
    · rename_i hk
      rw [wd_bit _ _ _ hi]
      simp only [List.getD_eq_getElem?_getD, List.getElem?_append]
      by_cases hj : 64 * k + i < l.length
      · simp [hj]
      · have e : b.length ≤ 64 * k + i - l.length := by omega
        simp [hj, List.getElem?_eq_none e]
  · rw [wd_bit_ge _ _ _ (by omega)]
    split
    · rw [Nat.testBit_or, wd_bit_ge _ _ _ (by omega), Nat.mul_comm, Nat.testBit_two_pow_mul, num_testBit]
      have e : b.length ≤ i - l.length % 64 := by omega
      simp [List.getElem?_eq_none e]
    · rw [wd_bit_ge _ _ _ (by omega)]

theorem wd_snoc_false (l : List Bool) (k : Nat) : wd (l ++ [false]) k = wd l k := by
  rw [wd_append _ _ _ (by simp; omega)]
  simp [num]

theorem wd_snoc_true (l : List Bool) (k : Nat) : wd (l ++ [true]) k = if k = l.length / 64 then wd l k ||| 2 ^ (l.length % 64) else wd l k := by
  rw [wd_append _ _ _ (by simp; omega)]
  simp [num]

end Go.Proofs.YtpnjccomngdblaaGreat.M
end

section
/- Counting side by side in ever wider fields of a word tells how many of its bits are 1: plain numbers, no program is named here. -/
namespace Go.Proofs.YtpnjccomngdblaaGreat.M

def val : List Nat → Nat
  | [] => 0
  | b :: r => b + 256 * val r

def msk (c : Nat) : Nat → Nat
  | 0 => 0
  | n + 1 => c + 256 * msk c n

theorem and256 (a c A C : Nat) (ha : a < 256) (hc : c < 256) : (a + 256 * A) &&& (c + 256 * C) = (a &&& c) + 256 * (A &&& C) := by
  have h1 : a &&& c < 2 ^ 8 := Nat.and_lt_two_pow _ hc
  apply Nat.eq_of_testBit_eq
  intro i
  have e := fun (x y : Nat) (h : x < 2 ^ 8) => Nat.testBit_two_pow_mul_add y h i
  rw [Nat.testBit_and, show a + 256 * A = 2 ^ 8 * A + a by omega, show c + 256 * C = 2 ^ 8 * C + c by omega, show (a &&& c) + 256 * (A &&& C) = 2 ^ 8 * (A &&& C) + (a &&& c) by omega,
    e a A ha, e c C hc, e _ _ h1]
  split <;> simp [Nat.testBit_and]

theorem half_byte : ∀ b, b < 256 → ∀ t, t < 2 → ((b / 2 + 128 * t) &&& 0x55) = ((b / 2) &&& 0x55) := by decide +kernel
theorem quarter_byte : ∀ b, b < 256 → ∀ t, t < 4 → ((b / 4 + 64 * t) &&& 0x33) = ((b / 4) &&& 0x33) := by decide +kernel
def s1 (b : Nat) : Nat := b - ((b / 2) &&& 0x55)
def s2 (b : Nat) : Nat := (s1 b &&& 0x33) + ((s1 b / 4) &&& 0x33)
def s3 (b : Nat) : Nat := (s2 b + s2 b / 16) &&& 0x0f
theorem f1_le : ∀ b, b < 256 → ((b / 2) &&& 0x55) ≤ b := by decide +kernel
theorem s1_lt : ∀ b, b < 256 → s1 b < 256 := by decide +kernel
theorem s2_le : ∀ b, b < 256 → s2 b ≤ 68 ∧ s2 b % 16 ≤ 4 := by decide +kernel
theorem nib_byte : ∀ b, b < 256 → ∀ t, t < 5 → ((s2 b + s2 b / 16 + 16 * t) &&& 0x0f) = s3 b := by decide +kernel

theorem step1 (bs : List Nat) (h : ∀ b ∈ bs, b < 256) : (val bs / 2) &&& msk 0x55 bs.length = val (bs.map fun b => (b / 2) &&& 0x55) := by
  induction bs with
  | nil => rfl
  | cons b r ih =>
    have hb := h b (by simp)
    have ih := ih fun x hx => h x (by simp [hx])
    simp only [val, msk, List.length_cons, List.map_cons]
    have e : (b + 256 * val r) / 2 = (b / 2 + 128 * (val r % 2)) + 256 * (val r / 2) := by omega
    rw [e, and256 _ _ _ _ (by omega) (by decide), half_byte b hb _ (by omega), ih]

theorem val_sub (bs : List Nat) (f : Nat → Nat) (h : ∀ b ∈ bs, f b ≤ b) : val (bs.map f) ≤ val bs ∧ val bs - val (bs.map f) = val (bs.map fun b => b - f b) := by
  induction bs with
  | nil => exact ⟨Nat.le_refl _, rfl⟩
  | cons b r ih =>
    have hb := h b (by simp)
    have ih := ih fun x hx => h x (by simp [hx])
    simp only [val, List.map_cons]
    omega

theorem val_add (bs : List Nat) (f g : Nat → Nat) : val (bs.map f) + val (bs.map g) = val (bs.map fun b => f b + g b) := by
  induction bs with
  | nil => rfl
  | cons b r ih => simp only [val, List.map_cons]; omega

theorem step2a (bs : List Nat) (h : ∀ b ∈ bs, b < 256) (c : Nat) (hc : c < 256) : val bs &&& msk c bs.length = val (bs.map fun b => b &&& c) := by
  induction bs with
  | nil => simp [val, msk]
  | cons b r ih =>
    have hb := h b (by simp)
    have ih := ih fun x hx => h x (by simp [hx])
    simp only [val, msk, List.length_cons, List.map_cons]
    rw [and256 _ _ _ _ hb hc, ih]

theorem step2b (bs : List Nat) (h : ∀ b ∈ bs, b < 256) : (val bs / 4) &&& msk 0x33 bs.length = val (bs.map fun b => (b / 4) &&& 0x33) := by
  induction bs with
  | nil => rfl
  | cons b r ih =>
    have hb := h b (by simp)
    have ih := ih fun x hx => h x (by simp [hx])
    simp only [val, msk, List.length_cons, List.map_cons]
    have e : (b + 256 * val r) / 4 = (b / 4 + 64 * (val r % 4)) + 256 * (val r / 4) := by omega
    rw [e, and256 _ _ _ _ (by omega) (by decide), quarter_byte b hb _ (by omega), ih]

theorem s2_nib (bs : List Nat) (h : ∀ b ∈ bs, b < 256) : val (bs.map s2) % 16 < 5 := by
  cases bs with
  | nil => decide
  | cons b r => have := s2_le b (h b (by simp)); simp only [val, List.map_cons]; omega

theorem step3 (bs : List Nat) (h : ∀ b ∈ bs, b < 256) : (val (bs.map s2) + val (bs.map s2) / 16) &&& msk 0x0f bs.length = val (bs.map s3) := by
  induction bs with
  | nil => rfl
  | cons b r ih =>
    have hb := h b (by simp)
    have h' : ∀ x ∈ r, x < 256 := fun x hx => h x (by simp [hx])
    have ih := ih h'
    have hn := s2_nib r h'
    have hs := s2_le b hb
    simp only [val, msk, List.length_cons, List.map_cons]
    have e : s2 b + 256 * val (r.map s2) + (s2 b + 256 * val (r.map s2)) / 16 = (s2 b + s2 b / 16 + 16 * (val (r.map s2) % 16)) + 256 * (val (r.map s2) + val (r.map s2) / 16) := by omega
    rw [e, and256 _ _ _ _ (by omega) (by decide), nib_byte b hb _ hn, ih]

/-- The word, counted: as the program has it. -/
def swar (x : Nat) : Nat :=
  let y := x - ((x / 2) &&& 6148914691236517205)
  let z := (y &&& 3689348814741910323) + ((y / 4) &&& 3689348814741910323)
  let u := (z + z / 16) &&& 1085102592571150095
  u * 72340172838076673 % 18446744073709551616 / 72057594037927936

theorem msk55 : msk 0x55 8 = 6148914691236517205 := by decide
theorem msk33 : msk 0x33 8 = 3689348814741910323 := by decide
theorem msk0f : msk 0x0f 8 = 1085102592571150095 := by decide

theorem lt_val (bs : List Nat) (h : ∀ b ∈ bs, b < 256) : val bs < 256 ^ bs.length := by
  induction bs with
  | nil => decide
  | cons b r ih =>
    have hb := h b (by simp)
    have ih := ih fun x hx => h x (by simp [hx])
    simp only [val, List.length_cons, Nat.pow_succ]
    omega

theorem swar_vals (bs : List Nat) (hl : bs.length = 8) (h : ∀ b ∈ bs, b < 256) :
    ((val bs / 2) &&& 6148914691236517205 ≤ val bs ∧ val bs - ((val bs / 2) &&& 6148914691236517205) = val (bs.map s1)) ∧
    ((val (bs.map s1) &&& 3689348814741910323) + ((val (bs.map s1) / 4) &&& 3689348814741910323) = val (bs.map s2)) ∧
    ((val (bs.map s2) + val (bs.map s2) / 16) &&& 1085102592571150095 = val (bs.map s3)) := by
  have a1 := step1 bs h
  rw [hl, msk55] at a1
  have a2 := val_sub bs (fun b => (b / 2) &&& 0x55) fun b hb => f1_le b (h b hb)
  have h1 : ∀ b ∈ bs.map s1, b < 256 := by
    intro b hb
    obtain ⟨c, hc, rfl⟩ := List.mem_map.1 hb
    exact s1_lt c (h c hc)
  have a3 := step2a (bs.map s1) h1 0x33 (by decide)
  have a4 := step2b (bs.map s1) h1
  rw [List.length_map, hl, msk33] at a3 a4
  have a5 := step3 bs h
  rw [hl, msk0f] at a5
  refine ⟨⟨by rw [a1]; exact a2.1, by rw [a1]; exact a2.2⟩, ?_, a5⟩
  rw [a3, a4, List.map_map, List.map_map, val_add]
  rfl

theorem s3_le : ∀ b, b < 256 → s3 b ≤ 8 := by decide +kernel

theorem div_parts (Q S R : Nat) (hS : S < 256) (hR : R < 72057594037927936) : (18446744073709551616 * Q + 72057594037927936 * S + R) % 18446744073709551616 / 72057594037927936 = S := by omega

theorem mul_top (c0 c1 c2 c3 c4 c5 c6 c7 : Nat) (h0 : c0 ≤ 8) (h1 : c1 ≤ 8) (h2 : c2 ≤ 8) (h3 : c3 ≤ 8) (h4 : c4 ≤ 8) (h5 : c5 ≤ 8) (h6 : c6 ≤ 8) (h7 : c7 ≤ 8) :
    (c0 + 256 * (c1 + 256 * (c2 + 256 * (c3 + 256 * (c4 + 256 * (c5 + 256 * (c6 + 256 * (c7 + 256 * 0)))))))) * 72340172838076673 % 18446744073709551616 / 72057594037927936 = c0 + c1 + c2 + c3 + c4 + c5 + c6 + c7 := by
  have e : (c0 + 256 * (c1 + 256 * (c2 + 256 * (c3 + 256 * (c4 + 256 * (c5 + 256 * (c6 + 256 * (c7 + 256 * 0)))))))) * 72340172838076673 = 18446744073709551616 * (c1 + c2 + c3 + c4 + c5 + c6 + c7 + 256 * (c2 + c3 + c4 + c5 + c6 + c7) + 65536 * (c3 + c4 + c5 + c6 + c7) + 16777216 * (c4 + c5 + c6 + c7) + 4294967296 * (c5 + c6 + c7) + 1099511627776 * (c6 + c7) + 281474976710656 * (c7)) + 72057594037927936 * (c0 + c1 + c2 + c3 + c4 + c5 + c6 + c7) + (c0 + 256 * (c0 + c1) + 65536 * (c0 + c1 + c2) + 16777216 * (c0 + c1 + c2 + c3) + 4294967296 * (c0 + c1 + c2 + c3 + c4) + 1099511627776 * (c0 + c1 + c2 + c3 + c4 + c5) + 281474976710656 * (c0 + c1 + c2 + c3 + c4 + c5 + c6)) := by omega
  rw [e]
  exact div_parts _ _ _ (by omega) (by omega)

theorem swar_sum (b0 b1 b2 b3 b4 b5 b6 b7 : Nat) (h0 : b0 < 256) (h1 : b1 < 256) (h2 : b2 < 256) (h3 : b3 < 256) (h4 : b4 < 256) (h5 : b5 < 256) (h6 : b6 < 256) (h7 : b7 < 256) :
    swar (val [b0, b1, b2, b3, b4, b5, b6, b7]) = s3 b0 + s3 b1 + s3 b2 + s3 b3 + s3 b4 + s3 b5 + s3 b6 + s3 b7 := by
  have hv := swar_vals [b0, b1, b2, b3, b4, b5, b6, b7] rfl (by simp; omega)
  simp only [swar]
  rw [hv.1.2, hv.2.1, hv.2.2]
  have c0 := s3_le b0 h0
  have c1 := s3_le b1 h1
  have c2 := s3_le b2 h2
  have c3 := s3_le b3 h3
  have c4 := s3_le b4 h4
  have c5 := s3_le b5 h5
  have c6 := s3_le b6 h6
  have c7 := s3_le b7 h7
  simp only [List.map_cons, List.map_nil, val]
  exact mul_top (s3 b0) (s3 b1) (s3 b2) (s3 b3) (s3 b4) (s3 b5) (s3 b6) (s3 b7) c0 c1 c2 c3 c4 c5 c6 c7

theorem s3_num : ∀ a b c d e f g h : Bool, s3 (num [a, b, c, d, e, f, g, h]) = cnt [a, b, c, d, e, f, g, h] := by decide +kernel

theorem eight (l : List Bool) (h : l.length = 8) : s3 (num l) = cnt l ∧ num l < 256 := by
  refine ⟨?_, by have := num_lt l; rw [h] at this; exact this⟩
  match l, h with
  | [a, b, c, d, e, f, g, i], _ => exact s3_num a b c d e f g i

theorem num_eight (l : List Bool) (h : l.length = 64) :
    num l = val [num (l.take 8), num ((l.drop 8).take 8), num ((l.drop 16).take 8), num ((l.drop 24).take 8), num ((l.drop 32).take 8), num ((l.drop 40).take 8), num ((l.drop 48).take 8), num (l.drop 56)] ∧
    cnt l = cnt (l.take 8) + cnt ((l.drop 8).take 8) + cnt ((l.drop 16).take 8) + cnt ((l.drop 24).take 8) + cnt ((l.drop 32).take 8) + cnt ((l.drop 40).take 8) + cnt ((l.drop 48).take 8) + cnt (l.drop 56) := by
  have cut : ∀ k, k + 8 ≤ 64 → num (l.drop k) = num ((l.drop k).take 8) + 256 * num (l.drop (k + 8)) ∧ cnt (l.drop k) = cnt ((l.drop k).take 8) + cnt (l.drop (k + 8)) := by
    intro k hk
    have e : l.drop k = (l.drop k).take 8 ++ l.drop (k + 8) := by
      rw [← List.drop_drop, List.take_append_drop]
    have hlen : ((l.drop k).take 8).length = 8 := by simp; omega
    constructor
    · conv => lhs; rw [e]
      rw [num_append, hlen]
    · conv => lhs; rw [e]
      rw [cnt_append]
  have c0 := cut 0 (by omega)
  have c1 := cut 8 (by omega)
  have c2 := cut 16 (by omega)
  have c3 := cut 24 (by omega)
  have c4 := cut 32 (by omega)
  have c5 := cut 40 (by omega)
  have c6 := cut 48 (by omega)
  simp only [List.drop_zero, Nat.zero_add, Nat.reduceAdd] at c0 c1 c2 c3 c4 c5 c6
  simp only [val]
  omega

theorem swar_num (l : List Bool) (h : l.length = 64) : swar (num l) = cnt l := by
  obtain ⟨e1, e2⟩ := num_eight l h
  have k := fun i (hi : i + 8 ≤ 64) => eight ((l.drop i).take 8) (by simp; omega)
  have k0 := eight (l.take 8) (by simp; omega)
  have k7 := eight (l.drop 56) (by simp; omega)
  have k1 := k 8 (by omega)
  have k2 := k 16 (by omega)
  have k3 := k 24 (by omega)
  have k4 := k 32 (by omega)
  have k5 := k 40 (by omega)
  have k6 := k 48 (by omega)
  rw [e1, e2, swar_sum _ _ _ _ _ _ _ _ k0.2 k1.2 k2.2 k3.2 k4.2 k5.2 k6.2 k7.2, k0.1, k1.1, k2.1, k3.1, k4.1, k5.1, k6.1, k7.1]

/-- Of fewer bits. -/
theorem swar_few (l : List Bool) (h : l.length ≤ 64) : swar (num l) = cnt l := by
  have e : num (l ++ List.replicate (64 - l.length) false) = num l ∧ cnt (l ++ List.replicate (64 - l.length) false) = cnt l := by
    have z : ∀ n, num (List.replicate n false) = 0 ∧ cnt (List.replicate n false) = 0 := by
      intro n
      induction n with
      | zero => exact ⟨rfl, rfl⟩
      | succ n ih => simp [List.replicate_succ, num, cnt, ih]
    rw [num_append, cnt_append, (z _).1, (z _).2]
    simp
  rw [← e.1, swar_num _ (by simp; omega), e.2]

end Go.Proofs.YtpnjccomngdblaaGreat.M
end

section
/- The contracts of the smallest functions: low, parts, onesOf, emptyWords. -/
namespace Go.Proofs.YtpnjccomngdblaaGreat
open Go.RowKit
open M

theorem ret_int {k : IntKind} {a b : Int} (h : a = b) : Ending.returned (.int k a) = .returned (.int k b) := by rw [h]

theorem wrapU (n : Nat) (h : n < 2 ^ 64) : IntKind.u64.wrap (n : Int) = (n : Int) := by
  rw [IntKind.wrap_u64]; omega

theorem low_eq (k : Nat) (h : k ≤ 64) : IntKind.u64.wrap (IntKind.u64.wrap ((2 : Int) ^ k) - 1) = ((2 ^ k - 1 : Nat) : Int) := by
  rw [IntKind.wrap_u64, IntKind.wrap_u64]
  by_cases e : k = 64
  · subst e; decide
  · have h2 : (2 : Nat) ^ k < 2 ^ 64 := Nat.pow_lt_pow_right (by decide) (by omega)
    have h3 : (0 : Nat) < 2 ^ k := Nat.pow_pos (by decide)
    have e2 : ((2 : Int) ^ k) = ((2 ^ k : Nat) : Int) := by simp
    rw [e2]
    omega

theorem low_any (n : Int) (w : World) (h0 : 0 ≤ n) (h1 : n ≤ 64) :
    Calls Tryz.prog 107 #[.int .i64 n] w fun e w' => e = .returned (.int .u64 ((2 ^ n.toNat - 1 : Nat) : Int)) ∧ w = w' := by
  go_enter Tryz.func107, Tryz.ntmps107
  go_wp2
  go_ret
  exact ⟨ret_int (low_eq _ (by omega)), rfl⟩

def p8 (n : Nat) : Nat := (n + 7) / 8

theorem parts64 (n : Int) (w : World) (h0 : 0 ≤ n) (h2 : n ≤ 1152921504606846976) :
    Calls Tryz.prog 139 #[.int .i64 n, .int .i64 64] w fun e w' => e = .returned (.int .i64 (nw n.toNat : Nat)) ∧ w = w' := by
  go_enter Tryz.func139, Tryz.ntmps139
  go_wp2
  · go_ret
    have hm : 0 < n % 64 := by assumption
    exact ⟨ret_int (by unfold nw; omega), rfl⟩
  · go_ret
    have hm : n % 64 ≤ 0 := by assumption
    exact ⟨ret_int (by unfold nw; omega), rfl⟩

theorem parts8 (n : Int) (w : World) (h0 : 0 ≤ n) (h2 : n ≤ 9223372036854775807) :
    Calls Tryz.prog 139 #[.int .i64 n, .int .i64 8] w fun e w' => e = .returned (.int .i64 (p8 n.toNat : Nat)) ∧ w = w' := by
  go_enter Tryz.func139, Tryz.ntmps139
  go_wp2
  · go_ret
    have hm : 0 < n % 8 := by assumption
    exact ⟨ret_int (by unfold p8; omega), rfl⟩
  · go_ret
    have hm : n % 8 ≤ 0 := by assumption
    exact ⟨ret_int (by unfold p8; omega), rfl⟩

theorem andU (a b : Nat) (ha : a < 2 ^ 64) (hb : b < 2 ^ 64) : bits .and .u64 (a : Int) (b : Int) = ((a &&& b : Nat) : Int) := bits_and_u64_nat a b ha hb

theorem swar_int (x : Nat) (h : x < 2 ^ 64) :
    wrap64 (IntKind.u64.wrap (bits .and .u64 (IntKind.u64.wrap (IntKind.u64.wrap (bits .and .u64 (IntKind.u64.wrap ((x : Int) - bits .and .u64 ((x : Int) / 2) 6148914691236517205)) 3689348814741910323 +
      bits .and .u64 (IntKind.u64.wrap ((x : Int) - bits .and .u64 ((x : Int) / 2) 6148914691236517205) / 4) 3689348814741910323) +
      IntKind.u64.wrap (bits .and .u64 (IntKind.u64.wrap ((x : Int) - bits .and .u64 ((x : Int) / 2) 6148914691236517205)) 3689348814741910323 +
      bits .and .u64 (IntKind.u64.wrap ((x : Int) - bits .and .u64 ((x : Int) / 2) 6148914691236517205) / 4) 3689348814741910323) / 16)) 1085102592571150095 * 72340172838076673) / 72057594037927936) = (swar x : Int) := by
  have g1 : (x / 2) &&& 6148914691236517205 ≤ x := Nat.le_trans Nat.and_le_left (Nat.div_le_self _ _)
  have e1 : bits .and .u64 ((x : Int) / 2) 6148914691236517205 = (((x / 2) &&& 6148914691236517205 : Nat) : Int) := andU (x / 2) 6148914691236517205 (by omega) (by decide)
  rw [e1]
  have e2 : IntKind.u64.wrap ((x : Int) - (((x / 2) &&& 6148914691236517205 : Nat) : Int)) = ((x - ((x / 2) &&& 6148914691236517205) : Nat) : Int) := by
    rw [← Int.ofNat_sub g1]; exact wrapU _ (by omega)
  rw [e2]
  have hs : swar x = (let y := x - ((x / 2) &&& 6148914691236517205); let z := (y &&& 3689348814741910323) + ((y / 4) &&& 3689348814741910323); let u := (z + z / 16) &&& 1085102592571150095; u * 72340172838076673 % 18446744073709551616 / 72057594037927936) := rfl
  rw [hs]
  generalize hy : x - ((x / 2) &&& 6148914691236517205) = y at *
  have hy' : y < 2 ^ 64 := by omega
  have e3 : bits .and .u64 (y : Int) 3689348814741910323 = ((y &&& 3689348814741910323 : Nat) : Int) := andU y 3689348814741910323 hy' (by decide)
  have e4 : bits .and .u64 ((y : Int) / 4) 3689348814741910323 = (((y / 4) &&& 3689348814741910323 : Nat) : Int) := andU (y / 4) 3689348814741910323 (by omega) (by decide)
  have g3 : y &&& 3689348814741910323 ≤ 3689348814741910323 := Nat.and_le_right
  have g4 : (y / 4) &&& 3689348814741910323 ≤ 3689348814741910323 := Nat.and_le_right
  have e5 : IntKind.u64.wrap (((y &&& 3689348814741910323 : Nat) : Int) + (((y / 4) &&& 3689348814741910323 : Nat) : Int)) = (((y &&& 3689348814741910323) + ((y / 4) &&& 3689348814741910323) : Nat) : Int) := wrapU _ (by omega)
  rw [e3, e4, e5]
  dsimp only
  generalize hz : (y &&& 3689348814741910323) + ((y / 4) &&& 3689348814741910323) = z at *
  clear e1 e2 e3 e4 e5 hs
  have e6 : IntKind.u64.wrap ((z : Int) + (z : Int) / 16) = ((z + z / 16 : Nat) : Int) := by
    rw [show (z : Int) + (z : Int) / 16 = ((z + z / 16 : Nat) : Int) by omega]; exact wrapU _ (by omega)
  have e7 : bits .and .u64 ((z + z / 16 : Nat) : Int) 1085102592571150095 = (((z + z / 16) &&& 1085102592571150095 : Nat) : Int) := andU _ 1085102592571150095 (by omega) (by decide)
  rw [e6, e7]
  generalize (z + z / 16) &&& 1085102592571150095 = u at *
  have e8 : IntKind.u64.wrap ((u : Int) * 72340172838076673) = ((u * 72340172838076673 % 18446744073709551616 : Nat) : Int) := by rw [IntKind.wrap_u64]; omega
  rw [e8]
  have g8 : u * 72340172838076673 % 18446744073709551616 < 18446744073709551616 := Nat.mod_lt _ (by decide)
  generalize u * 72340172838076673 % 18446744073709551616 = t at *
  simp only [wrap64]
  omega

theorem onesOf_any (x : Int) (l : List Bool) (w : World) (hl : l.length ≤ 64) (hx : x = (num l : Int)) :
    Calls Tryz.prog 137 #[.int .u64 x] w fun e w' => e = .returned (.int .i64 (cnt l : Nat)) ∧ w = w' := by
  have hn : num l < 2 ^ 64 := Nat.lt_of_lt_of_le (num_lt l) (Nat.pow_le_pow_right (by decide) hl)
  have hs := swar_int (num l) hn
  rw [swar_few l hl] at hs
  have HS := Lib.hid hs
  have HX := Lib.hid hx
  clear hs hn hx
  go_enter Tryz.func137, Tryz.ntmps137
  go_wp2
  go_ret
  exact ⟨ret_int (by rw [HX.out]; exact HS.out), rfl⟩

theorem info103 : (Tryz.prog.info? 103).map (fun i => (i.zero, i.size, i.bytes)) = some (some (.int .u64 0), 1, 8) := by kernel_rfl

/-- n words that are all 0, of the call's own. -/
theorem emptyWords_any (n : Int) (B : Nat) (w : World) (h0 : 0 ≤ n) (h2 : n ≤ 1000000000) (hB : B ≤ w.heap.size) :
    Calls Tryz.prog 100 #[.int .i64 n] w fun e w' => e = .returned (.slice (some ⟨w.heap.size, 0, none⟩) (nw n.toNat) (nw n.toNat)) ∧
      w'.ownsRow B 103 1 (.slice (some ⟨w.heap.size, 0, none⟩) (nw n.toNat) (nw n.toNat)) (nw n.toNat) (List.replicate (nw n.toNat) (.int .u64 0)) ∧ w.grownBy w' none := by
  obtain ⟨i0, hi, hz0, hz1, hz2⟩ := info_parts info103
  have hn : nw n.toNat ≤ 1000000000 := by unfold nw; omega
  go_enter Tryz.func100, Tryz.ntmps100
  go_wp2_with fail
  refine (parts64 n _ h0 (by omega)).mono ?_
  rintro e w' ⟨rfl, rfl⟩
  generalize hm : nw n.toNat = m at *
  have HM := Lib.hid hm
  clear hm
  go_wp2_with (first | (at_make; refine wpList_make_full _ rfl _ _ 29 rfl B 103 i0 (.int .u64 0) 1 Tryz.underlying29 hi hz0 hz1 _ _ _ _ m rfl rfl rfl rfl ?b2 ?b3 hB ?_))
  case b2 => rw [hz2]; omega
  case b3 => unfold maxLen; omega
  intro w1 hown hgrow
  go_wp2
  go_ret
  obtain rfl := HM.out
  refine ⟨rfl, ?_, hgrow⟩
  have := hown
  rw [toList_madeCells_one] at this
  exact this

end Go.Proofs.YtpnjccomngdblaaGreat
end

section
/- The contract of eachPiece, for whatever is visited. -/
namespace Go.Proofs.YtpnjccomngdblaaGreat
open Go.RowKit
open M

def Step (f : Nat) (caps : Array Value) (I : Nat → World → Prop) (a b : Nat) : Prop :=
  ∀ (p n : Nat) (w' : World) (x y z : Int), a ≤ p → 0 < n → p + n ≤ b → p % 64 + n ≤ 64 → I p w' → x = ((p / 64 : Nat) : Int) → y = ((p % 64 : Nat) : Int) → z = (n : Int) →
    Calls Tryz.prog f (#[.int .i64 x, .int .i64 y, .int .i64 z] ++ caps) w' fun e w'' => e = .returned (.tuple #[]) ∧ I (p + n) w''

set_option maxHeartbeats 400000 in
theorem eachPiece_any (f : Nat) (caps : Array Value) (I : Nat → World → Prop) (a b : Nat) (w : World) (hf : ∀ (args : Array Value) (w : World), (callFunc f args).run Tryz.prog w = .ok (.enter f args) w)
    (hab : a ≤ b) (hb : b ≤ 1000000000) (h0 : I a w) (hs : Step f caps I a b) :
    Calls Tryz.prog 105 #[.int .i64 (a : Int), .int .i64 (b : Int), .func (.func f) #[] caps] w fun e w' => e = .returned (.tuple #[]) ∧ I b w' := by
  go_enter Tryz.func105, Tryz.ntmps105
  go_wp2
  go_step3
  go_wp2
  go_step3
  go_wp2
  go_loopw [0, 6] (fun v u wr => ∃ p : Nat, a ≤ p ∧ p ≤ b ∧ v = .int .i64 (p : Int) ∧ u = .int .i64 ((p / 64 : Nat) : Int) ∧ I p wr) (fun v _ _ => b - (intOf v).toNat)
  case atStart => exact ⟨a, Nat.le_refl _, hab, rfl, by go_num, h0⟩
  case round =>
    obtain ⟨p, hp1, hp2, rfl, rfl, hI⟩ := hrel
    clear h0
    by_cases h1 : b ≤ p
    · go_wp2
      rw [Exit.noGoto_normal]
      go_end0
      obtain rfl : p = b := by omega
      exact ⟨rfl, hI⟩
    · by_cases h2 : (p / 64 + 1) * 64 < b
      · go_wp2_with fail
        trace_state
        refine (hs p ((p / 64 + 1) * 64 - p) _ _ _ _ hp1 (by omega) (by omega) (by omega) hI (by omega) (by omega) (by omega)).mono ?_
        rintro e w' ⟨rfl, hI'⟩
        clear hI
        go_wp2
        go_roundw
        case rel => exact ⟨(p / 64 + 1) * 64, by omega, by omega, by go_num, by go_num, by rw [show p + ((p / 64 + 1) * 64 - p) = (p / 64 + 1) * 64 by omega] at hI'; exact hI'⟩
        case measure => simp [intOf]; omega
      · go_wp2_with fail
        refine (hs p (b - p) _ _ _ _ hp1 (by omega) (by omega) (by omega) hI (by omega) (by omega) (by omega)).mono ?_
        rintro e w' ⟨rfl, hI'⟩
        clear hI
        go_wp2
        rw [Exit.noGoto_normal]
        go_end0
        exact ⟨rfl, by rw [show p + (b - p) = b by omega] at hI'; exact hI'⟩

theorem ent106 (args : Array Value) (w : World) : (callFunc 106 args).run Tryz.prog w = .ok (.enter 106 args) w := by kernel_rfl
theorem ent136 (args : Array Value) (w : World) : (callFunc 136 args).run Tryz.prog w = .ok (.enter 136 args) w := by kernel_rfl
theorem ent164 (args : Array Value) (w : World) : (callFunc 164 args).run Tryz.prog w = .ok (.enter 164 args) w := by kernel_rfl

end Go.Proofs.YtpnjccomngdblaaGreat
end

section
/- Rows of bits in memory; the contracts of Len, Get, One. -/
namespace Go.Proofs.YtpnjccomngdblaaGreat
open Go.RowKit
open M

/-- The first m words of a row. -/
def wlN (l : List Bool) (m : Nat) : List Value := (List.range m).map fun k => Value.int .u64 (wd l k : Nat)

/-- The words of the row l lie at s. -/
def RowAt (w : World) (s : Value) (l : List Bool) : Prop := w.ownsRow 0 103 1 s (nw l.length) (wlN l (nw l.length))

theorem Below.grownBy {w w' : World} (h : Below w.heap.size w w') (row : Option Nat) : w.grownBy w' row :=
  ⟨h.os, h.tape, h.output, h.size, fun k hk _ => h.block k hk⟩

theorem below_grown {w w' : World} (h : w.grownBy w' none) : Below w.heap.size w w' :=
  ⟨h.os, h.tape, h.output, h.size, fun k hk => h.block k hk (by simp)⟩

theorem RowAt.kept {w w' : World} {s : Value} {l : List Bool} (h : RowAt w s l) (hb : Below w.heap.size w w') : RowAt w' s l := by
  refine World.ownsRow.kept h (Below.grownBy hb none) ?_
  cases hs : s.ownBlock with
  | none => exact .inl rfl
  | some k => exact .inr (by simp)

theorem RowAt.form {w : World} {s : Value} {l : List Bool} (h : RowAt w s l) :
    (l = [] ∧ s = .slice none 0 0) ∨ ∃ g cap, s = .slice (some ⟨g, 0, none⟩) (nw l.length) cap ∧ nw l.length ≤ cap ∧ cap ≤ maxLen ∧ g < w.heap.size ∧ ∀ k, k < nw l.length → w.cell? ⟨g, k, none⟩ = some (.int .u64 (wd l k : Nat)) := by
  have h' := h
  obtain ⟨h1, h2⟩ := h
  rcases h2 with ⟨rfl, hn⟩ | ⟨g, cap, cur, rfl, hg, hh, hc1, hc2, hc3, hc4⟩
  · refine .inl ⟨?_, rfl⟩
    unfold nw at hn
    exact List.eq_nil_of_length_eq_zero (by omega)
  · refine .inr ⟨g, cap, rfl, hc1, hc2, ?_, ?_⟩
    · exact (World.ownsRow.lt h' g rfl).2
    · intro k hk
      rw [World.ownsRow.cellAt h' k (by omega)]
      simp [wlN, hk]

theorem Row_nil (w : World) : RowAt w (.slice none 0 0) [] := World.ownsRow_nil _ _ _ _

def getB (l : List Bool) (i : Int) : Bool := decide (0 ≤ i) && l.getD i.toNat false

theorem len_any (s : Value) (l : List Bool) (w : World) (h : RowAt w s l) :
    Calls Tryz.prog 97 #[.agg #[.int .i64 (l.length : Int), s]] w fun e w' => e = .returned (.int .i64 (l.length : Int)) ∧ Below w.heap.size w w' := by
  rcases h.form with ⟨rfl, rfl⟩ | ⟨g, cap, rfl, -⟩
  · go_enter Tryz.func97, Tryz.ntmps97
    go_wp2
    go_ret
    exact ⟨rfl, (Below.refl _ _).alloc (Nat.le_refl _) _⟩
  · generalize l.length = n
    go_enter Tryz.func97, Tryz.ntmps97
    go_wp2
    go_ret
    exact ⟨rfl, (Below.refl _ _).alloc (Nat.le_refl _) _⟩

theorem bit_eq (x j : Nat) (h : x < 2 ^ 64) : (bits .and .u64 ((x : Int) / 2 ^ j) 1 == 1) = x.testBit j := by
  have e : (x : Int) / 2 ^ j = ((x / 2 ^ j : Nat) : Int) := by
    rw [Int.natCast_ediv]; simp
  have hd : x / 2 ^ j < 2 ^ 64 := Nat.lt_of_le_of_lt (Nat.div_le_self _ _) h
  have e2 : bits .and .u64 ((x / 2 ^ j : Nat) : Int) 1 = ((x / 2 ^ j &&& 1 : Nat) : Int) := andU _ 1 hd (by decide)
  rw [e, e2, Nat.and_one_is_mod, Nat.testBit_eq_decide_div_mod_eq]
  rw [Bool.eq_iff_iff]
  simp
  omega

theorem ret_tup {b c : Bool} {v : Value} (h : b = c) : Ending.returned (.tuple #[.bool b, v]) = .returned (.tuple #[.bool c, v]) := by rw [h]

set_option maxHeartbeats 400000 in
theorem get_in (s : Value) (l : List Bool) (i : Nat) (w : World) (h : RowAt w s l) (hi : i < l.length) (hl : l.length ≤ 1000000000) :
    Calls Tryz.prog 141 #[.agg #[.int .i64 (l.length : Int), s], .int .i64 (i : Int)] w fun e w' => e = .returned (.tuple #[.bool (l.getD i false), .int .i64 0]) ∧ Below w.heap.size w w' := by
  rcases h.form with ⟨rfl, rfl⟩ | ⟨g, cap, rfl, h1, h2, h3, h4⟩
  · simp at hi
  · have hk : i / 64 < nw l.length := by unfold nw; omega
    have hc := h4 (i / 64) hk
    clear h4 h
    unfold maxLen at h2
    have hb : (bits .and .u64 ((wd l (i / 64) : Int) / 2 ^ (i % 64)) 1 == 1) = l.getD i false := by
      rw [bit_eq _ _ (wd_lt _ _), wd_bit _ _ _ (by omega)]
      rw [show 64 * (i / 64) + i % 64 = i by omega]
    have HB := Lib.hid hb
    generalize wd l (i / 64) = x at *
    generalize l.length = n at *
    generalize nw n = m at *
    clear hb
    go_enter Tryz.func141, Tryz.ntmps141
    go_wp2
    go_ret2
    exact ⟨ret_tup HB.out, (Below.refl _ _).alloc (Nat.le_refl _) _⟩

set_option maxHeartbeats 400000 in
theorem get_out (s : Value) (l : List Bool) (i : Int) (w : World) (h : RowAt w s l) (hi : i < 0 ∨ (l.length : Int) ≤ i) (hl : l.length ≤ 1000000000) :
    Calls Tryz.prog 141 #[.agg #[.int .i64 (l.length : Int), s], .int .i64 i] w fun e w' => e = .returned (.tuple #[.bool false, .int .i64 13]) ∧ Below w.heap.size w w' := by
  have key : ∀ (a : Option Addr) (n m c : Nat), n ≤ 1000000000 → (i < 0 ∨ (n : Int) ≤ i) → Calls Tryz.prog 141 #[.agg #[.int .i64 (n : Int), .slice a m c], .int .i64 i] w fun e w' => e = .returned (.tuple #[.bool false, .int .i64 13]) ∧ Below w.heap.size w w' := by
    intro a n m c hn hi
    by_cases h0 : i < 0
    · clear hi
      go_enter Tryz.func141, Tryz.ntmps141
      go_wp2
      go_ret2
      exact ⟨rfl, (Below.refl _ _).alloc (Nat.le_refl _) _⟩
    · have hi : (n : Int) ≤ i := by omega
      go_enter Tryz.func141, Tryz.ntmps141
      go_wp2
      go_ret2
      exact ⟨rfl, (Below.refl _ _).alloc (Nat.le_refl _) _⟩
  rcases h.form with ⟨rfl, rfl⟩ | ⟨g, cap, rfl, -⟩
  · exact key _ 0 0 0 (by omega) (by simpa using hi)
  · exact key _ _ _ _ hl hi

def oneI (l : List Bool) (i : Int) : Int := if getB l i then 1 else 0

theorem boxed (w : World) (n : Nat) (s : Value) : Below w.heap.size w (w.alloc (.cells #[.int .i64 (n : Int), s] 31)) := (Below.refl _ _).alloc (Nat.le_refl _) _

set_option maxHeartbeats 400000 in
theorem one_any (s : Value) (l : List Bool) (i : Int) (w : World) (h : RowAt w s l) (hl : l.length ≤ 1000000000) :
    Calls Tryz.prog 110 #[.agg #[.int .i64 (l.length : Int), s], .int .i64 i] w fun e w' => e = .returned (.int .i64 (oneI l i)) ∧ Below w.heap.size w w' := by
  have hform := h.form
  by_cases hi : i < 0 ∨ (l.length : Int) ≤ i
  · have hv : oneI l i = 0 := by
      unfold oneI getB
      rcases hi with hi | hi
      · simp [Int.not_le.2 hi]
      · rw [List.getD_eq_getElem?_getD, List.getElem?_eq_none (by omega)]; simp
    have HV := Lib.hid hv
    have hget := fun w1 (hb : Below w.heap.size w w1) => get_out s l i w1 (h.kept hb) hi hl
    have HG := Lib.hid hget
    clear hget hv hi
    have hbox := boxed w l.length s
    have HB := Lib.hid hbox
    clear hbox h
    rcases hform with ⟨rfl, rfl⟩ | ⟨g, cap, rfl, -⟩
    all_goals
      go_enter Tryz.func110, Tryz.ntmps110
      go_wp2_with fail
      refine (HG.out _ HB.out).mono ?_
      rintro e w' ⟨rfl, hb⟩
      go_wp2
      go_ret
      exact ⟨ret_int HV.out.symm, HB.out.trans (hb.mono (by simp))⟩
  · obtain ⟨k, rfl⟩ := Int.eq_ofNat_of_zero_le (a := i) (by omega)
    have hk : k < l.length := by omega
    have hv : oneI l k = if l.getD k false then 1 else 0 := by simp [oneI, getB]
    have HV := Lib.hid hv
    have hget := fun w1 (hb : Below w.heap.size w w1) => get_in s l k w1 (h.kept hb) hk hl
    have HG := Lib.hid hget
    clear hget hv hi hk
    have hbox := boxed w l.length s
    have HB := Lib.hid hbox
    clear hbox h
    generalize l.getD k false = b at *
    cases b
    all_goals
      rcases hform with ⟨rfl, rfl⟩ | ⟨g, cap, rfl, -⟩
      all_goals
        go_enter Tryz.func110, Tryz.ntmps110
        go_wp2_with fail
        refine (HG.out _ HB.out).mono ?_
        rintro e w' ⟨rfl, hb⟩
        go_wp2
        go_ret
        exact ⟨ret_int (by rw [HV.out]; rfl), HB.out.trans (hb.mono (by simp))⟩

end Go.Proofs.YtpnjccomngdblaaGreat
end

section
namespace Go.Proofs.YtpnjccomngdblaaGreat
open Go.RowKit
open M
attribute [local go_sem ↓] Go.wp_at_zero Go.wp_at_succ


theorem low_still (n : Int) (w : World) (h0 : 0 ≤ n) (h1 : n ≤ 64) :
    Calls Tryz.prog 107 #[.int .i64 n] w fun e w' => e = .returned (.int .u64 ((2 ^ n.toNat - 1 : Nat) : Int)) ∧ w' = w := (low_any n w h0 h1).mono fun _ _ h => ⟨h.1, h.2.symm⟩
theorem onesOf_still (x : Int) (l : List Bool) (w : World) (hl : l.length ≤ 64) (hx : x = (num l : Int)) :
    Calls Tryz.prog 137 #[.int .u64 x] w fun e w' => e = .returned (.int .i64 (cnt l : Nat)) ∧ w' = w := (onesOf_any x l w hl hx).mono fun _ _ h => ⟨h.1, h.2.symm⟩
theorem mixed : Tryz.prog.follows .mixedOrders = true := by kernel_rfl

set_option maxHeartbeats 1000000 in
theorem ones1_any (cb bb g m cap p n q c : Nat) (b : List Bool) (x : Int) (w : World) (hc : w.cell? ⟨cb, 0, none⟩ = some (.int .i64 (c : Int))) (hfz : w.frozen? ⟨cb, 0, none⟩ = false)
    (hb : w.cell? ⟨bb, 1, none⟩ = some (.slice (some ⟨g, 0, none⟩) m cap))
    (hx : w.cell? ⟨g, p, none⟩ = some (.int .u64 x)) (hp : p < m) (hq : q < 64) (hn : n ≤ 64) (hcc : c ≤ 1000000000) (hbl : b.length ≤ 64)
    (hv : bits .and .u64 (x / 2 ^ q) (((2 ^ n - 1 : Nat) : Int)) = (num b : Int)) :
    Calls Tryz.prog 136 #[.int .i64 (p : Int), .int .i64 (q : Int), .int .i64 (n : Int), .pointer (some ⟨cb, 0, none⟩), .pointer (some ⟨bb, 0, none⟩)] w fun e w' => e = .returned (.tuple #[]) ∧ w' = w.drew.setCell ⟨cb, 0, none⟩ (.int .i64 ((c + cnt b : Nat) : Int)) := by
  have HV := Lib.hid hv
  have hcn := cnt_le b
  clear hv
  go_enter Tryz.func136, Tryz.ntmps136
  go_wp2
  go_still_tail 13, mixed
  still_call (low_still (n : Int) _ (by omega) (by omega))
  repeat still_step
  still_call (onesOf_still _ b _ hbl HV.out)
  repeat still_step
  refine wpStill_nil ?_
  go_wp2
  go_end0
  exact ⟨rfl, rfl⟩

/-- Where a count of bits begins and ends, of a row of n bits. -/
def lo (n : Nat) (x : Int) : Nat := (min (max x 0) (n : Int)).toNat
def hi (n : Nat) (x y : Int) : Nat := (min (max y (lo n x : Int)) (n : Int)).toNat
/-- How many of the bits from x on up to y are 1. -/
def onesN (l : List Bool) (x y : Int) : Nat := cnt ((l.drop (lo l.length x)).take (hi l.length x y - lo l.length x))

theorem eachPiece_int (f : Nat) (caps : Array Value) (I : Nat → World → Prop) (a b : Nat) (x y : Int) (w : World) (hf : ∀ (args : Array Value) (w : World), (callFunc f args).run Tryz.prog w = .ok (.enter f args) w)
    (hab : a ≤ b) (hb : b ≤ 1000000000) (hx : x = (a : Int)) (hy : y = (b : Int)) (h0 : I a w) (hs : Step f caps I a b) :
    Calls Tryz.prog 105 #[.int .i64 x, .int .i64 y, .func (.func f) #[] caps] w fun e w' => e = .returned (.tuple #[]) ∧ I b w' := by
  subst hx hy
  exact eachPiece_any f caps I a b w hf hab hb h0 hs

theorem take_more (l : List Bool) (a p n : Nat) (h : a ≤ p) : (l.drop a).take (p + n - a) = (l.drop a).take (p - a) ++ (l.drop p).take n := by
  rw [show p + n - a = (p - a) + n by omega, List.take_add, List.drop_drop, show a + (p - a) = p by omega]

theorem piece_int (l : List Bool) (p n : Nat) (h : p % 64 + n ≤ 64) :
    bits .and .u64 ((wd l (p / 64) : Int) / 2 ^ (p % 64)) (((2 ^ n - 1 : Nat) : Int)) = (num ((l.drop p).take n) : Int) := by
  have e : (wd l (p / 64) : Int) / 2 ^ (p % 64) = ((wd l (p / 64) / 2 ^ (p % 64) : Nat) : Int) := by
    rw [Int.natCast_ediv]; simp
  have hd : wd l (p / 64) / 2 ^ (p % 64) < 2 ^ 64 := Nat.lt_of_le_of_lt (Nat.div_le_self _ _) (wd_lt _ _)
  have hn : 2 ^ n - 1 < 2 ^ 64 := by
    have : (2 : Nat) ^ n ≤ 2 ^ 64 := Nat.pow_le_pow_right (by decide) (by omega)
    have : (0 : Nat) < 2 ^ n := Nat.pow_pos (by decide)
    omega
  rw [e, andU _ _ hd hn, wd_piece l p n h]

/-- What holds while ones are counted: the box of the count, the box of the row, all that was there. -/
def OnesI (w : World) (s : Value) (l : List Bool) (a p : Nat) (wr : World) : Prop :=
  wr.cell? ⟨w.heap.size + 1, 0, none⟩ = some (.int .i64 (cnt ((l.drop a).take (p - a)) : Nat)) ∧ wr.frozen? ⟨w.heap.size + 1, 0, none⟩ = false ∧
    wr.cell? ⟨w.heap.size, 1, none⟩ = some s ∧ Below w.heap.size w wr

theorem cnt_take_le (l : List Bool) (a n : Nat) : cnt ((l.drop a).take n) ≤ l.length := Nat.le_trans (cnt_le _) (by simp; omega)

theorem ones_step (w : World) (s : Value) (l : List Bool) (a b : Nat) (h : RowAt w s l) (hl : l.length ≤ 1000000000) (hb : b ≤ l.length) :
    Step 136 #[.pointer (some ⟨w.heap.size + 1, 0, none⟩), .pointer (some ⟨w.heap.size, 0, none⟩)] (OnesI w s l a) a b := by
  intro p n wr x y z h1 h2 h3 h4 hI hx hy hz
  subst hx hy hz
  obtain ⟨i1, i2, i3, i4⟩ := hI
  have hk := h.kept i4
  rcases hk.form with ⟨rfl, rfl⟩ | ⟨g, cap, rfl, g1, g2, g3, g4⟩
  · simp at hb; omega
  · have hw : p / 64 < nw l.length := by unfold nw; omega
    refine (ones1_any (w.heap.size + 1) w.heap.size g (nw l.length) cap (p / 64) n (p % 64) (cnt ((l.drop a).take (p - a))) ((l.drop p).take n) _ wr i1 i2 i3 (g4 _ hw) hw (by omega) (by omega) ?_ (by simp; omega) (piece_int l p n h4)).mono ?_
    · have := cnt_take_le l a (p - a); omega
    · rintro e w' ⟨rfl, rfl⟩
      refine ⟨rfl, ?_, ?_, ?_, ?_⟩
      · rw [World.cell?_setCell_same _ _ _ (by simpa using i1), take_more l a p n h1, cnt_append]
      · simpa using i2
      · rw [World.cell?_setCell_other _ _ _ _ (by simp)]; simpa using i3
      · exact i4.drew.setCell (by simp) _

set_option maxHeartbeats 1000000 in
theorem ones_any (a0 : Option Addr) (m cap : Nat) (l : List Bool) (x y : Int) (w : World) (h : RowAt w (.slice a0 m cap) l) (hl : l.length ≤ 1000000000) :
    Calls Tryz.prog 98 #[.agg #[.int .i64 (l.length : Int), .slice a0 m cap], .int .i64 x, .int .i64 y] w fun e w' => e = .returned (.int .i64 (onesN l x y : Nat)) ∧ Below w.heap.size w w' := by
  have hlo : lo l.length x ≤ l.length := by unfold lo; omega
  have hhi : lo l.length x ≤ hi l.length x y ∧ hi l.length x y ≤ l.length := by unfold hi; omega
  have hst := ones_step w (.slice a0 m cap) l (lo l.length x) (hi l.length x y) h hl hhi.2
  have h00 : OnesI w (.slice a0 m cap) l (lo l.length x) (lo l.length x) ((w.alloc (Obj.cells #[Value.int IntKind.i64 (l.length : Int), .slice a0 m cap] 31)).alloc (Obj.cells #[Value.int IntKind.i64 0] 3)) := by
    refine ⟨?_, ?_, ?_, ?_⟩
    · simp [cnt]
    · simp
    · simp
    · exact ((Below.refl _ _).alloc (Nat.le_refl _) _).alloc (by simp) _
  have HS := Lib.hid hst
  have H0 := Lib.hid h00
  have HH := Lib.hid hhi
  have HL := Lib.hid hl
  clear hst h00 hhi hlo h
  generalize hn : l.length = n at *
  have HN := Lib.hid hn
  clear hn
  go_enter Tryz.func98, Tryz.ntmps98
  go_wp2_with fail
  all_goals
    refine (eachPiece_int 136 _ _ _ _ _ _ _ ent136 HH.out.1 (by have := HH.out.2; omega) ?hx ?hy H0.out HS.out).mono ?_
    case hx => unfold lo; omega
    case hy => unfold hi lo; omega
    rintro e w' ⟨rfl, i1, -, -, i4⟩
    go_wp2
    go_ret
    exact ⟨ret_int (by unfold onesN; rw [HN.out]), i4⟩

end Go.Proofs.YtpnjccomngdblaaGreat
end

section
/- The contract of Number. -/
namespace Go.Proofs.YtpnjccomngdblaaGreat
open Go.RowKit
open M
attribute [local go_sem ↓] Go.wp_at_zero Go.wp_at_succ

set_option maxHeartbeats 1000000 in
theorem number1_any (nb bb gb g m cap p n q c : Nat) (v P R : Int) (x : Int) (w : World) (hc : w.cell? ⟨nb, 0, none⟩ = some (.int .u64 v)) (hfz : w.frozen? ⟨nb, 0, none⟩ = false)
    (hg : w.cell? ⟨gb, 0, none⟩ = some (.int .i64 (c : Int))) (hgz : w.frozen? ⟨gb, 0, none⟩ = false) (hne : nb < gb)
    (hb : w.cell? ⟨bb, 1, none⟩ = some (.slice (some ⟨g, 0, none⟩) m cap))
    (hx : w.cell? ⟨g, p, none⟩ = some (.int .u64 x)) (hp : p < m) (hq : q < 64) (hn : n ≤ 64) (hcc : c ≤ 64)
    (hv : bits .and .u64 (x / 2 ^ q) (((2 ^ n - 1 : Nat) : Int)) = P) (hv2 : bits .or .u64 v (IntKind.u64.wrap (P * 2 ^ c)) = R) :
    Calls Tryz.prog 106 #[.int .i64 (p : Int), .int .i64 (q : Int), .int .i64 (n : Int), .pointer (some ⟨nb, 0, none⟩), .pointer (some ⟨bb, 0, none⟩), .pointer (some ⟨gb, 0, none⟩)] w fun e w' => e = .returned (.tuple #[]) ∧
      w' = ((w.drew.setCell ⟨nb, 0, none⟩ (.int .u64 R)).setCell ⟨gb, 0, none⟩ (.int .i64 ((c + n : Nat) : Int))) := by
  have HV := Lib.hid hv
  have HV2 := Lib.hid hv2
  clear hv hv2
  go_enter Tryz.func106, Tryz.ntmps106
  go_wp2
  go_still_tail 14, mixed
  still_call (low_still (n : Int) _ (by omega) (by omega))
  rw [Int.toNat_natCast]
  repeat still_step
  refine wpStill_nil ?_
  go_wp2
  go_end0
  rw [HV.out, HV2.out]
  exact ⟨rfl, rfl⟩

/-- What holds while a number is read. -/
def NumI (w : World) (s : Value) (l : List Bool) (a p : Nat) (wr : World) : Prop :=
  wr.cell? ⟨w.heap.size + 1, 0, none⟩ = some (.int .u64 (num ((l.drop a).take (p - a)) : Nat)) ∧ wr.frozen? ⟨w.heap.size + 1, 0, none⟩ = false ∧
  wr.cell? ⟨w.heap.size + 1 + 1, 0, none⟩ = some (.int .i64 (p - a : Nat)) ∧ wr.frozen? ⟨w.heap.size + 1 + 1, 0, none⟩ = false ∧
    wr.cell? ⟨w.heap.size, 1, none⟩ = some s ∧ Below w.heap.size w wr

theorem cell_new (w : World) (cs : Array Value) (t : TypeId) (b i : Nat) (h : b = w.heap.size) : (w.alloc (.cells cs t)).cell? ⟨b, i, none⟩ = cs[i]? := by
  subst h; simp
theorem frozen_new (w : World) (cs : Array Value) (t : TypeId) (b i : Nat) (h : b = w.heap.size) : (w.alloc (.cells cs t)).frozen? ⟨b, i, none⟩ = false := by
  subst h; simp
theorem cell_old (w : World) (o : Obj) (b i : Nat) (h : b < w.heap.size) : (w.alloc o).cell? ⟨b, i, none⟩ = w.cell? ⟨b, i, none⟩ := World.cell?_alloc_lt _ _ _ h
theorem frozen_old (w : World) (o : Obj) (b i : Nat) (h : b < w.heap.size) : (w.alloc o).frozen? ⟨b, i, none⟩ = w.frozen? ⟨b, i, none⟩ := World.frozen?_alloc_old _ _ _ (Nat.ne_of_lt h)

theorem orU (a b : List Bool) (c : Nat) (h : a.length = c) (hb : c + b.length ≤ 64) : bits .or .u64 (num a : Int) (IntKind.u64.wrap ((num b : Int) * 2 ^ c)) = (num (a ++ b) : Int) := by
  subst h
  have e : (num b : Int) * 2 ^ a.length = ((num b * 2 ^ a.length : Nat) : Int) := by simp
  have h1 : num b * 2 ^ a.length < 2 ^ 64 := by
    have h2 := num_lt b
    have h3 : num b * 2 ^ a.length < 2 ^ b.length * 2 ^ a.length := Nat.mul_lt_mul_of_pos_right h2 (Nat.pow_pos (by decide))
    rw [← Nat.pow_add] at h3
    exact Nat.lt_of_lt_of_le h3 (Nat.pow_le_pow_right (by decide) (by omega))
  have h4 : num a < 2 ^ 64 := Nat.lt_of_lt_of_le (num_lt a) (Nat.pow_le_pow_right (by decide) (by omega))
  rw [e, wrapU _ h1, ← num_or]
  exact bits_or_u64_nat _ _ h4 h1

theorem num_step (w : World) (s : Value) (l : List Bool) (a b : Nat) (h : RowAt w s l) (hb : b ≤ l.length) (hab : b ≤ a + 64) :
    Step 106 #[.pointer (some ⟨w.heap.size + 1, 0, none⟩), .pointer (some ⟨w.heap.size, 0, none⟩), .pointer (some ⟨w.heap.size + 1 + 1, 0, none⟩)] (NumI w s l a) a b := by
  intro p n wr x y z h1 h2 h3 h4 hI hx hy hz
  subst hx hy hz
  obtain ⟨i1, i2, i3, i4, i5, i6⟩ := hI
  have hk := h.kept i6
  rcases hk.form with ⟨rfl, rfl⟩ | ⟨g, cap, rfl, g1, g2, g3, g4⟩
  · simp at hb; omega
  · have hw : p / 64 < nw l.length := by unfold nw; omega
    refine (number1_any (w.heap.size + 1) w.heap.size (w.heap.size + 1 + 1) g (nw l.length) cap (p / 64) n (p % 64) (p - a) _ _ _ _ wr i1 i2 i3 i4 (by omega) i5 (g4 _ hw) hw (by omega) (by omega) (by omega) (piece_int l p n h4)
      (orU ((l.drop a).take (p - a)) ((l.drop p).take n) (p - a) (by simp; omega) (by simp; omega))).mono ?_
    rintro e w' ⟨rfl, rfl⟩
    refine ⟨rfl, ?_, ?_, ?_, ?_, ?_, ?_⟩
    · rw [World.cell?_setCell_other _ _ _ _ (by simp), World.cell?_setCell_same _ _ _ (by simpa using i1), take_more l a p n h1]
    · simpa using i2
    · rw [World.cell?_setCell_same _ _ _ (u := .int .i64 (p - a : Nat)) (by rw [World.cell?_setCell_other _ _ _ _ (by simp)]; simpa using i3)]
      rw [show p + n - a = p - a + n by omega]
    · simpa using i4
    · rw [World.cell?_setCell_other _ _ _ _ (by simp), World.cell?_setCell_other _ _ _ _ (by simp)]; simpa using i5
    · exact (i6.drew.setCell (by simp) _).setCell (by simp; omega) _

theorem ret_nums {a b : Int} {k j : IntKind} {c : Int} (h : a = b) : Ending.returned (.tuple #[.int k a, .int j c]) = .returned (.tuple #[.int k b, .int j c]) := by rw [h]

set_option maxHeartbeats 1000000 in
theorem number_in (a0 : Option Addr) (m cap : Nat) (l : List Bool) (a n : Nat) (w : World) (h : RowAt w (.slice a0 m cap) l) (hl : l.length ≤ 1000000000) (hn : n ≤ 64) (han : a + n ≤ l.length) :
    Calls Tryz.prog 79 #[.agg #[.int .i64 (l.length : Int), .slice a0 m cap], .int .i64 (a : Int), .int .i64 (n : Int)] w fun e w' => e = .returned (.tuple #[.int .u64 (num ((l.drop a).take n) : Nat), .int .i64 0]) ∧ Below w.heap.size w w' := by
  have hst := num_step w (.slice a0 m cap) l a (a + n) h han (by omega)
  have h00 : NumI w (.slice a0 m cap) l a a (((w.alloc (Obj.cells #[Value.int IntKind.i64 (l.length : Int), .slice a0 m cap] 31)).alloc (Obj.cells #[Value.int IntKind.u64 0] 103)).alloc (Obj.cells #[Value.int IntKind.i64 0] 3)) := by
    refine ⟨?_, ?_, ?_, ?_, ?_, ?_⟩
    · rw [cell_old _ _ _ _ (by simp), cell_new _ _ _ _ _ (by simp)]; simp [num]
    · rw [frozen_old _ _ _ _ (by simp), frozen_new _ _ _ _ _ (by simp)]
    · rw [cell_new _ _ _ _ _ (by simp)]; simp
    · rw [frozen_new _ _ _ _ _ (by simp)]
    · rw [cell_old _ _ _ _ (by simp; omega), cell_old _ _ _ _ (by simp), cell_new _ _ _ _ _ (by simp)]; simp
    · exact (((Below.refl _ _).alloc (Nat.le_refl _) _).alloc (by simp) _).alloc (by simp; omega) _
  have HS := Lib.hid hst
  have H0 := Lib.hid h00
  clear hst h00 h
  generalize hln : l.length = ln at *
  have HN := Lib.hid hln
  clear hln
  go_enter Tryz.func79, Tryz.ntmps79
  go_wp2_with fail
  refine (eachPiece_int 106 _ _ a (a + n) _ _ _ ent106 (by omega) (by omega) rfl (by omega) H0.out HS.out).mono ?_
  rintro e w' ⟨rfl, i1, -, -, -, -, i6⟩
  have I6 := Lib.hid i6
  clear i6
  go_wp2
  go_ret2
  exact ⟨ret_nums (by simp), I6.out⟩

set_option maxHeartbeats 1000000 in
theorem number_arg (a0 : Option Addr) (m cap n : Nat) (x y : Int) (w : World) (hy : y < 0 ∨ 64 < y) :
    Calls Tryz.prog 79 #[.agg #[.int .i64 (n : Int), .slice a0 m cap], .int .i64 x, .int .i64 y] w fun e w' => e = .returned (.tuple #[.int .u64 0, .int .i64 1]) ∧ Below w.heap.size w w' := by
  by_cases h0 : y < 0
  · clear hy
    go_enter Tryz.func79, Tryz.ntmps79
    go_wp2
    go_ret2
    exact ⟨rfl, (Below.refl _ _).alloc (Nat.le_refl _) _⟩
  · have hy : 64 < y := by omega
    go_enter Tryz.func79, Tryz.ntmps79
    go_wp2
    go_ret2
    exact ⟨rfl, (Below.refl _ _).alloc (Nat.le_refl _) _⟩

set_option maxHeartbeats 1000000 in
theorem number_range (a0 : Option Addr) (m cap n : Nat) (x y : Int) (w : World) (_hl : n ≤ 1000000000) (h1 : 0 ≤ y) (h2 : y ≤ 64) (hx : x < 0 ∨ (n : Int) < x + y) (hxx : x ≤ 9223372036854775807) :
    Calls Tryz.prog 79 #[.agg #[.int .i64 (n : Int), .slice a0 m cap], .int .i64 x, .int .i64 y] w fun e w' => e = .returned (.tuple #[.int .u64 0, .int .i64 13]) ∧ Below w.heap.size w w' := by
  by_cases h0 : x < 0
  · clear hx
    go_enter Tryz.func79, Tryz.ntmps79
    go_wp2
    go_ret2
    exact ⟨rfl, (Below.refl _ _).alloc (Nat.le_refl _) _⟩
  · by_cases h3 : (n : Int) < x
    · clear hx
      go_enter Tryz.func79, Tryz.ntmps79
      go_wp2
      go_ret2
      exact ⟨rfl, (Below.refl _ _).alloc (Nat.le_refl _) _⟩
    · have hx : (n : Int) - x < y := by omega
      go_enter Tryz.func79, Tryz.ntmps79
      go_wp2
      go_ret2
      exact ⟨rfl, (Below.refl _ _).alloc (Nat.le_refl _) _⟩

end Go.Proofs.YtpnjccomngdblaaGreat
end

section
/- The contract of Bytes. -/
namespace Go.Proofs.YtpnjccomngdblaaGreat
open Go.RowKit
open M

theorem info5 : (Tryz.prog.info? 5).map (fun i => (i.zero, i.size, i.bytes)) = some (some (.int .u8 0), 1, 1) := by kernel_rfl

/-- Byte i of a row. -/
def byt (l : List Bool) (i : Nat) : Nat := num ((l.drop (8 * i)).take 8)
/-- The bytes of a row, as numbers. -/
def bytI (l : List Bool) (i : Nat) : List Int := (List.range i).map fun k => (byt l k : Int)

theorem byt_lt (l : List Bool) (i : Nat) : byt l i < 256 := by
  have h := num_lt ((l.drop (8 * i)).take 8)
  have h2 : (2 : Nat) ^ ((l.drop (8 * i)).take 8).length ≤ 2 ^ 8 := Nat.pow_le_pow_right (by decide) (by simp; omega)
  exact Nat.lt_of_lt_of_le h h2

theorem byt_wd (l : List Bool) (i : Nat) : wd l (i * 8 / 64) / 2 ^ (i * 8 % 64) % 256 = byt l i := by
  have h := wd_piece l (i * 8) 8 (by omega)
  rw [show (2 : Nat) ^ 8 - 1 = 2 ^ 8 - 1 from rfl, Nat.and_two_pow_sub_one_eq_mod] at h
  rw [byt, Nat.mul_comm 8 i]
  exact h

theorem byt_int (l : List Bool) (i : Nat) : (wd l (i * 8 / 64) : Int) / 2 ^ (i * 8 % 64) % 256 = (byt l i : Int) := by
  have e : (wd l (i * 8 / 64) : Int) / 2 ^ (i * 8 % 64) = ((wd l (i * 8 / 64) / 2 ^ (i * 8 % 64) : Nat) : Int) := by
    rw [Int.natCast_ediv]; simp
  rw [e, ← byt_wd l i]
  omega

/-- The cells of the first i bytes are written, those behind are 0. -/
def byCells (l : List Bool) (n i : Nat) : List Value := (List.range n).map fun k => Value.int .u8 (if k < i then (byt l k : Int) else 0)

theorem byCells_set (l : List Bool) (n i : Nat) : (byCells l n i).set i (.int .u8 (byt l i : Int)) = byCells l n (i + 1) := by
  apply List.ext_getElem
  · simp [byCells]
  · intro j h1 h2
    simp only [byCells, List.getElem_set, List.getElem_map, List.getElem_range]
    by_cases e : i = j
    · subst e; simp
    · simp only [e, if_false]
      by_cases h : j < i
      · simp [h, show j < i + 1 by omega]
      · simp [h, show ¬ j < i + 1 by omega]

end Go.Proofs.YtpnjccomngdblaaGreat
end

section
/- The contract of Make. -/
namespace Go.Proofs.YtpnjccomngdblaaGreat
open Go.RowKit
open M

/-- A slice that reads as these bits. -/
def BoolsAt (w : World) (a : Option Addr) (l : List Bool) : Prop :=
  l = [] ∨ ∃ b off, a = some ⟨b, off, none⟩ ∧ b < w.heap.size ∧ ∀ j, j < l.length → w.cell? ⟨b, off + j, none⟩ = some (.bool (l.getD j false))

theorem BoolsAt.kept {w w' : World} {a : Option Addr} {l : List Bool} (h : BoolsAt w a l) (hb : Below w.heap.size w w') : BoolsAt w' a l := by
  rcases h with h | ⟨b, off, h1, h2, h3⟩
  · exact .inl h
  · refine .inr ⟨b, off, h1, Nat.lt_of_lt_of_le h2 hb.size, fun j hj => ?_⟩
    rw [hb.cell (p := ⟨b, off + j, none⟩) h2]
    exact h3 j hj

theorem BoolsAt.take {w : World} {a : Option Addr} {l : List Bool} (h : BoolsAt w a l) (n : Nat) : BoolsAt w a (l.take n) := by
  rcases h with h | ⟨b, off, h1, h2, h3⟩
  · subst h; exact .inl (by simp)
  · refine .inr ⟨b, off, h1, h2, fun j hj => ?_⟩
    simp only [List.length_take] at hj
    rw [h3 j (by omega)]
    simp [List.getD_eq_getElem?_getD, show j < n by omega]

theorem wlN_length (l : List Bool) (m : Nat) : (wlN l m).length = m := by simp [wlN]

theorem wlN_false (l : List Bool) (m : Nat) : wlN (l ++ [false]) m = wlN l m := by simp [wlN, wd_snoc_false]

theorem wlN_set (l b : List Bool) (m k : Nat) (hk : k = l.length / 64) (h : l.length % 64 + b.length ≤ 64) : (wlN l m).set k (.int .u64 (wd (l ++ b) k : Nat)) = wlN (l ++ b) m := by
  apply List.ext_getElem
  · simp [wlN]
  · intro j h1 h2
    simp only [wlN, List.getElem_set, List.getElem_map, List.getElem_range]
    by_cases e : k = j
    · subst e; simp
    · simp only [e, if_false]
      rw [wd_append l b j h, if_neg (by omega)]

theorem or1 (l : List Bool) (k q : Nat) (hk : k = l.length / 64) (hq : q = l.length % 64) : bits .or .u64 (wd l k : Int) (IntKind.u64.wrap ((2 : Int) ^ q)) = (wd (l ++ [true]) k : Int) := by
  have h1 : 2 ^ q < 2 ^ 64 := Nat.pow_lt_pow_right (by decide) (by omega)
  have e : ((2 : Int) ^ q) = ((2 ^ q : Nat) : Int) := by simp
  rw [e, wrapU _ h1, bits_or_u64_nat _ _ (wd_lt l k) h1, wd_snoc_true, if_pos hk, hq]

theorem wl_empty (m : Nat) : wlN [] m = List.replicate m (.int .u64 0) := by
  apply List.ext_getElem <;> simp [wlN, wd, num]

theorem take_snoc (l : List Bool) (i : Nat) (b : Bool) (h : i < l.length) (hb : l.getD i false = b) : l.take (i + 1) = l.take i ++ [b] := by
  rw [List.take_succ_eq_append_getElem h]
  simp [List.getD_eq_getElem?_getD, h] at hb
  rw [hb]

theorem grown_setCell (w : World) (a : Addr) (u : Value) : w.grownBy (w.setCell a u) (some a.block) :=
  ⟨rfl, rfl, rfl, by simp, fun k _ hk => Below.heap_setCell _ _ _ _ (by intro e; exact hk (by rw [e]))⟩

theorem grown_trans {a b c : World} {row : Option Nat} (h : a.grownBy b row) (k : b.grownBy c row) : a.grownBy c row :=
  ⟨k.os.trans h.os, k.tape.trans h.tape, k.output.trans h.output, Nat.le_trans h.size k.size, fun i hi hn => (k.block i (Nat.lt_of_lt_of_le hi h.size) hn).trans (h.block i hi hn)⟩

/-- What holds while a row is made. -/
def MakeI (w : World) (l : List Bool) (m i : Nat) (wr : World) : Prop :=
  wr.ownsRow 0 103 1 (.slice (some ⟨w.heap.size + 1, 0, none⟩) m m) m (wlN (l.take i) m) ∧ wr.cell? ⟨w.heap.size, 0, none⟩ = some (.int .i64 0) ∧ wr.cell? ⟨w.heap.size, 1, none⟩ = some (.slice none 0 0) ∧
    wr.frozen? ⟨w.heap.size, 0, none⟩ = false ∧ wr.frozen? ⟨w.heap.size, 1, none⟩ = false ∧ Below w.heap.size w wr

theorem MakeI.drew {w wr : World} {l : List Bool} {m i : Nat} (h : MakeI w l m i wr) : MakeI w l m i wr.drew := by
  obtain ⟨r1, r2, r3, r4, r5, r6⟩ := h
  exact ⟨r1, r2, r3, r4, r5, r6.drew⟩

set_option maxHeartbeats 1000000 in
theorem make_any (a0 : Option Addr) (cap : Nat) (l : List Bool) (w : World) (h : BoolsAt w a0 l) (hl : l.length ≤ 1000000000) :
    Calls Tryz.prog 72 #[.slice a0 l.length cap] w fun e w' => e = .returned (.agg #[.int .i64 (l.length : Int), .slice (some ⟨w.heap.size + 1, 0, none⟩) (nw l.length) (nw l.length)]) ∧
      RowAt w' (.slice (some ⟨w.heap.size + 1, 0, none⟩) (nw l.length) (nw l.length)) l ∧ Below w.heap.size w w' := by
  have HB := Lib.hid h
  clear h
  generalize hn : l.length = n at *
  have HN := Lib.hid hn
  clear hn
  have hem := emptyWords_any (n : Int) 0 (w.alloc (Obj.cells #[Value.int .i64 0, .slice none 0 0] 31)) (by omega) (by omega) (by omega)
  rw [Int.toNat_natCast] at hem
  have HE := Lib.hid hem
  clear hem
  go_enter Tryz.func72, Tryz.ntmps72
  go_wp2_with fail
  refine HE.out.mono ?_
  rintro e w1 ⟨rfl, hown, hgrow⟩
  have hI : MakeI w l (nw n) 0 w1 := by
    refine ⟨by rw [List.take_zero, wl_empty]; simpa using hown, ?_, ?_, ?_, ?_, ?_⟩
    · rw [hgrow.cell_far _ (by simp) (by simp)]; simp
    · rw [hgrow.cell_far _ (by simp) (by simp)]; simp
    · rw [hgrow.frozen_far _ (by simp) (by simp)]; simp
    · rw [hgrow.frozen_far _ (by simp) (by simp)]; simp
    · exact ((Below.refl _ _).alloc (Nat.le_refl _) _).trans ((below_grown hgrow).mono (by simp))
  have HI := Lib.hid hI
  clear hI hown hgrow
  generalize hm : nw n = m at *
  have HM := Lib.hid hm
  clear hm
  go_wp2
  go_loopw [11] (fun v wr => ∃ i : Nat, i ≤ n ∧ v = .int .i64 (i : Int) ∧ MakeI w l m i wr) (fun v _ => n - (intOf v).toNat)
  case atStart => exact ⟨0, Nat.zero_le _, rfl, HI.out⟩
  case round =>
    obtain ⟨i, hi, rfl, hI⟩ := hrel
    by_cases hlt : i < n
    · obtain ⟨r1, r2, r3, r4, r5, r6⟩ := hI
      have hln := HN.out
      have hbool := HB.out.kept r6
      rcases hbool with hnil | ⟨b, off, rfl, hbs, hcs⟩
      · subst hnil; simp at hln; omega
      · have hcb := hcs i (by omega)
        have hts := fun (x : Bool) (hx : l.getD i false = x) => take_snoc l i x (by omega) hx
        generalize hx : l.getD i false = x at *
        cases x
        · have hI2 : MakeI w l m (i + 1) wr := ⟨by rw [hts false rfl, wlN_false]; exact r1, r2, r3, r4, r5, r6⟩
          have HI2 := Lib.hid hI2
          clear hI2 hts r1 r2 r3 r4 r5 r6 hcs hln hx
          go_wp2
          go_roundw
          case rel => exact ⟨i + 1, by omega, by go_num, HI2.out⟩
          case measure => simp [intOf]; omega
        · have hm : i / 64 < m := by have := HM.out; unfold nw at this; omega
          have hli : (l.take i).length = i := by simp; omega
          have hcw : wr.cell? ⟨w.heap.size + 1, i / 64, none⟩ = some (.int .u64 (wd (l.take i) (i / 64) : Nat)) := by
            rw [r1.cellAt (i / 64) (by omega)]; simp [wlN, hm]
          have hfz := r1.frozenAt (i / 64)
          have hor := or1 (l.take i) (i / 64) (i % 64) (by rw [hli]) (by rw [hli])
          have hst := (r1.stored (i / 64) (.int .u64 (wd (l.take i ++ [true]) (i / 64) : Nat))).1
          rw [wlN_set (l.take i) [true] m (i / 64) (by rw [hli]) (by simp; omega), ← hts true rfl] at hst
          rw [← hts true rfl] at hor
          have hI2 : MakeI w l m (i + 1) (wr.setCell ⟨w.heap.size + 1, i / 64, none⟩ (.int .u64 (wd (l.take (i + 1)) (i / 64) : Nat))) := by
            refine ⟨hst, ?_, ?_, ?_, ?_, ?_⟩
            · rw [World.cell?_setCell_other _ _ _ _ (by simp)]; exact r2
            · rw [World.cell?_setCell_other _ _ _ _ (by simp)]; exact r3
            · simpa using r4
            · simpa using r5
            · exact r6.setCell (by simp) _
          have HI2 := Lib.hid (And.intro hI2 hor)
          clear hI2 hor hst hts r1 r2 r3 r4 r5 r6 hcs hln hx hli
          generalize wd (l.take i) (i / 64) = y at *
          go_wp2
          have q1 : IntKind.i64.wrap ((i : Int) / 64) = (i : Int) / 64 := IntWalk.i64_in _ (by omega)
          have q2 : (i : Int).tmod 64 = ((i % 64 : Nat) : Int) := rfl
          have q6 : min (i % 64) 64 = i % 64 := by omega
          have q3 : ((i : Int) / 64).toNat = i / 64 := by omega
          have q4 : (0 : Int) ≤ (i : Int) / 64 := by omega
          have q5 : (i : Int) / 64 < (m : Int) := by omega
          go_still_tail 10, mixed
          clear q1 q2 q3 q4 q5
          go_wp2
          go_roundw
          case rel => exact ⟨i + 1, by omega, by go_num, by rw [HI2.out.2]; exact HI2.out.1.drew⟩
          case measure => simp [intOf]; omega
    · obtain rfl : i = n := by omega
      obtain ⟨r1, r2, r3, r4, r5, r6⟩ := hI
      have R1 := Lib.hid r1
      have R6 := Lib.hid r6
      clear r1 r6
      go_wp2
      refine bodyPost_ret (v := .agg #[.int .i64 (i : Int), .slice (some ⟨w.heap.size + 1, 0, none⟩) m m]) (by simp [results, Tryz.results72, go_sem, r2, r3]) rfl ?_
      have e1 : nw i = m := HM.out
      have e2 : l.length = i := HN.out
      have hr := R1.out
      rw [show l.take i = l by rw [← e2]; simp] at hr
      refine ⟨by rw [e1], ?_, (R6.out.setCell (by simp) _).setCell (by simp) _⟩
      have hg : wr.grownBy ((wr.setCell ⟨w.heap.size, 0, none⟩ (Value.int IntKind.i64 (i : Int))).setCell ⟨w.heap.size, 1, none⟩ (Value.slice (some ⟨w.heap.size + 1, 0, none⟩) m m)) (some w.heap.size) :=
        grown_trans (grown_setCell wr ⟨w.heap.size, 0, none⟩ _) (grown_setCell _ ⟨w.heap.size, 1, none⟩ _)
      have := hr.kept hg (.inr (by simp [Value.ownBlock]))
      unfold RowAt
      rw [e2, e1]
      exact this

end Go.Proofs.YtpnjccomngdblaaGreat
end

section
/- The contracts of sameWords and Same. -/
namespace Go.Proofs.YtpnjccomngdblaaGreat
open Go.RowKit
open M

theorem wd_ext (l1 l2 : List Bool) (h : l1.length = l2.length) (hw : ∀ k, k < nw l1.length → wd l1 k = wd l2 k) : l1 = l2 := by
  apply List.ext_getElem h
  intro i h1 h2
  have e := hw (i / 64) (by unfold nw; omega)
  have b1 := wd_bit l1 (i / 64) (i % 64) (by omega)
  have b2 := wd_bit l2 (i / 64) (i % 64) (by omega)
  rw [show 64 * (i / 64) + i % 64 = i by omega] at b1 b2
  rw [e, b2] at b1
  simpa [List.getD_eq_getElem?_getD, h1, h2] using b1.symm

theorem RowAt.some {w : World} {a0 : Option Addr} {m cap : Nat} {l : List Bool} (h : RowAt w (.slice a0 m cap) l) :
    m = nw l.length ∧ m ≤ cap ∧ cap ≤ maxLen ∧ ∀ k, k < m → ∃ g, a0 = some ⟨g, 0, none⟩ ∧ w.cell? ⟨g, k, none⟩ = some (.int .u64 (wd l k : Nat)) := by
  rcases h.form with ⟨rfl, hs⟩ | ⟨g, cap', hs, g1, g2, g3, g4⟩
  · simp only [Value.slice.injEq] at hs
    obtain ⟨rfl, rfl, rfl⟩ := hs
    exact ⟨rfl, by omega, by unfold maxLen; omega, fun k hk => by omega⟩
  · simp only [Value.slice.injEq] at hs
    obtain ⟨rfl, rfl, rfl⟩ := hs
    exact ⟨rfl, g1, g2, fun k hk => ⟨g, rfl, g4 k hk⟩⟩

theorem ret_bool {b c : Bool} (h : b = c) : Ending.returned (.bool b) = .returned (.bool c) := by rw [h]

theorem boxed2 (w : World) (o1 o2 : Obj) : Below w.heap.size w ((w.alloc o1).alloc o2) := ((Below.refl _ _).alloc (Nat.le_refl _) _).alloc (by simp) _

end Go.Proofs.YtpnjccomngdblaaGreat
end

section
/- The contract of List. -/
namespace Go.Proofs.YtpnjccomngdblaaGreat
open Go.RowKit
open M

theorem info4 : (Tryz.prog.info? 4).map (fun i => (i.zero, i.size, i.bytes)) = some (some (.bool false), 1, 1) := by kernel_rfl

/-- What holds while a row is listed: bb the box of the row, lb that of the list. -/
def ListI (w : World) (bb lb : Nat) (s : Value) (l : List Bool) (p : Nat) (wr : World) : Prop :=
  ∃ v, wr.cell? ⟨lb, 0, none⟩ = some v ∧ wr.frozen? ⟨lb, 0, none⟩ = false ∧ wr.ownsRow w.heap.size 4 1 v p ((l.take p).map Value.bool) ∧ v.ownBlock ≠ some lb ∧ v.ownBlock ≠ some bb ∧
    wr.cell? ⟨bb, 1, none⟩ = some s ∧ lb < wr.heap.size ∧ bb < wr.heap.size ∧ Below w.heap.size w wr

theorem list_next (w wr w1 : World) (bb lb gg p cap : Nat) (s v : Value) (l : List Bool) (o : Obj) (b b' : Bool) (hbb : w.heap.size ≤ bb) (hlb : w.heap.size ≤ lb) (hne : bb ≠ lb)
    (r3 : wr.ownsRow w.heap.size 4 1 v p ((l.take p).map Value.bool)) (r4 : v.ownBlock ≠ some lb) (r5 : v.ownBlock ≠ some bb) (r6 : wr.cell? ⟨bb, 1, none⟩ = some s) (r7 : lb < wr.heap.size) (r8 : bb < wr.heap.size) (r9 : Below w.heap.size w wr)
    (hown : w1.ownsRow w.heap.size 4 1 (.slice (some ⟨gg, 0, none⟩) (p + 1) cap) (p + 1) ((l.take p).map Value.bool ++ [.bool b])) (hgrow : (wr.alloc o).drew.grownBy w1 v.ownBlock) (hat : v.ownBlock = some gg ∨ gg = wr.heap.size + 1)
    (f1 : w1.cell? ⟨lb, 0, none⟩ = some v) (f2 : w1.frozen? ⟨lb, 0, none⟩ = false) (hb : b = b') (ht : l.take (p + 1) = l.take p ++ [b']) :
    ListI w bb lb s l (p + 1) (w1.setCell ⟨lb, 0, none⟩ (.slice (some ⟨gg, 0, none⟩) (p + 1) cap)) := by
  subst hb
  have hgs := hgrow.size
  simp only [World.size_drew, World.size_alloc] at hgs
  have hgl : gg ≠ lb := by rintro rfl; rcases hat with e | e; exact r4 e; omega
  have hgb : gg ≠ bb := by rintro rfl; rcases hat with e | e; exact r5 e; omega
  refine ⟨.slice (some ⟨gg, 0, none⟩) (p + 1) cap, ?_, ?_, ?_, ?_, ?_, ?_, ?_, ?_, ?_⟩
  · rw [World.cell?_setCell_same _ _ _ f1]
  · simpa using f2
  · rw [ht, List.map_append]
    exact hown.kept (grown_setCell w1 ⟨lb, 0, none⟩ _) (.inr (by simpa [Value.ownBlock] using hgl))
  · simpa [Value.ownBlock] using hgl
  · simpa [Value.ownBlock] using hgb
  · rw [World.cell?_setCell_other _ _ _ _ (by simp), hgrow.cell_far _ (by simp; omega) (Ne.symm r5)]
    simp only [World.cell?_drew]
    rw [cell_old _ _ _ _ r8]; exact r6
  · simp; omega
  · simp; omega
  · refine Below.setCell ?_ hlb _
    refine ((r9.alloc r9.size o).drew).grown hgrow ?_ ?_
    · have := r9.size; simp; omega
    · intro k hk; exact (r3.lt k hk).1

/-- A list's slice, out of the row that is owned. -/
theorem bools_of_own {w : World} {base : Nat} {v : Value} {l : List Bool} (h : w.ownsRow base 4 1 v l.length (l.map Value.bool)) : ∃ a cap, v = .slice a l.length cap ∧ BoolsAt w a l := by
  have h' := h
  obtain ⟨h1, h2⟩ := h
  rcases h2 with ⟨rfl, hn⟩ | ⟨g, cap, cur, rfl, hg, hh, hc1, hc2, hc3, hc4⟩
  · exact ⟨none, 0, by rw [hn], .inl (List.eq_nil_of_length_eq_zero hn)⟩
  · refine ⟨_, cap, rfl, .inr ⟨g, 0, rfl, (World.ownsRow.lt h' g rfl).2, fun j hj => ?_⟩⟩
    rw [Nat.zero_add, World.ownsRow.cellAt h' j (by omega)]
    simp [List.getD_eq_getElem?_getD, hj]

end Go.Proofs.YtpnjccomngdblaaGreat
end

section
/- The contract of put: bits put behind a builder's. -/
namespace Go.Proofs.YtpnjccomngdblaaGreat
open Go.RowKit
open M

theorem num_take (l : List Bool) (n : Nat) (h : n ≤ l.length) : num (l.take n) = num l % 2 ^ n ∧ num (l.drop n) = num l / 2 ^ n := by
  have e := num_append (l.take n) (l.drop n)
  rw [List.take_append_drop, List.length_take, Nat.min_eq_left h] at e
  have h1 := num_lt (l.take n)
  rw [List.length_take, Nat.min_eq_left h] at h1
  have hp : 0 < 2 ^ n := Nat.pow_pos (by decide)
  rw [e]
  constructor
  · rw [Nat.add_mul_mod_self_left, Nat.mod_eq_of_lt h1]
  · rw [Nat.add_mul_div_left _ _ hp, Nat.div_eq_of_lt h1, Nat.zero_add]

/-- All that was there is as it was, but for blocks of which X says so. -/
structure Kp (X : Nat → Prop) (w w' : World) : Prop where
  os : w'.os = w.os
  tape : w'.tape = w.tape
  output : w'.output = w.output
  size : w.heap.size ≤ w'.heap.size
  block : ∀ k, k < w.heap.size → ¬ X k → w'.heap[k]? = w.heap[k]?

theorem Kp.refl (X : Nat → Prop) (w : World) : Kp X w w := ⟨rfl, rfl, rfl, Nat.le_refl _, fun _ _ _ => rfl⟩
theorem Kp.drew {X : Nat → Prop} {a w : World} (h : Kp X a w) : Kp X a w.drew := ⟨h.os, h.tape, h.output, h.size, h.block⟩
theorem Kp.trans {X : Nat → Prop} {a b c : World} (h : Kp X a b) (k : Kp X b c) : Kp X a c :=
  ⟨k.os.trans h.os, k.tape.trans h.tape, k.output.trans h.output, Nat.le_trans h.size k.size, fun i hi hx => (k.block i (Nat.lt_of_lt_of_le hi h.size) hx).trans (h.block i hi hx)⟩
theorem Kp.below {X : Nat → Prop} {a b c : World} (h : Kp X a b) (k : Below b.heap.size b c) : Kp X a c :=
  ⟨k.os.trans h.os, k.tape.trans h.tape, k.output.trans h.output, Nat.le_trans h.size k.size, fun i hi hx => (k.block i (Nat.lt_of_lt_of_le hi h.size)).trans (h.block i hi hx)⟩
theorem Kp.alloc {X : Nat → Prop} {a w : World} (h : Kp X a w) (o : Obj) : Kp X a (w.alloc o) := h.below ((Below.refl _ _).alloc (Nat.le_refl _) _)
theorem Kp.setCell {X : Nat → Prop} {a w : World} (h : Kp X a w) {p : Addr} (hp : X p.block ∨ a.heap.size ≤ p.block) (u : Value) : Kp X a (w.setCell p u) :=
  ⟨h.os, h.tape, h.output, by simpa using h.size, fun k hk hx => by
    rw [Below.heap_setCell _ _ _ _ (by rintro rfl; rcases hp with hp | hp; exact hx hp; omega)]; exact h.block k hk hx⟩
theorem Kp.grown {X : Nat → Prop} {a w w' : World} {row : Option Nat} (h : Kp X a w) (hg : w.grownBy w' row) (hr : ∀ k, row = some k → k < a.heap.size → X k) : Kp X a w' :=
  ⟨hg.os.trans h.os, hg.tape.trans h.tape, hg.output.trans h.output, Nat.le_trans h.size hg.size, fun k hk hx => by
    rw [hg.block k (Nat.lt_of_lt_of_le hk h.size) (fun e => hx (hr k e.symm hk))]; exact h.block k hk hx⟩
theorem Kp.cell {X : Nat → Prop} {w w' : World} (h : Kp X w w') {p : Addr} (hp : p.block < w.heap.size) (hx : ¬ X p.block) : w'.cell? p = w.cell? p := World.cell?_of_block (w := w) (h.block p.block hp hx)
theorem Kp.frozen {X : Nat → Prop} {w w' : World} (h : Kp X w w') {p : Addr} (hp : p.block < w.heap.size) (hx : ¬ X p.block) : w'.frozen? p = w.frozen? p := World.frozen?_of_block (w := w) (h.block p.block hp hx)

set_option maxHeartbeats 1000000 in
theorem put1_any (wb nb pb g m cap p n q : Nat) (x y P R : Int) (w : World) (hw : w.cell? ⟨wb, 0, none⟩ = some (.pointer (some ⟨pb, 0, none⟩))) (hs : w.cell? ⟨pb, 1, none⟩ = some (.slice (some ⟨g, 0, none⟩) m cap))
    (hy : w.cell? ⟨g, p, none⟩ = some (.int .u64 y)) (hyz : w.frozen? ⟨g, p, none⟩ = false) (hx : w.cell? ⟨nb, 0, none⟩ = some (.int .u64 x)) (hxz : w.frozen? ⟨nb, 0, none⟩ = false) (hne : g ≠ nb)
    (hp : p < m) (hq : q < 64) (hn : n ≤ 64) 
    (hv : bits .and .u64 x (((2 ^ n - 1 : Nat) : Int)) = P) (hv2 : bits .or .u64 y (IntKind.u64.wrap (P * 2 ^ q)) = R) :
    Calls Tryz.prog 164 #[.int .i64 (p : Int), .int .i64 (q : Int), .int .i64 (n : Int), .pointer (some ⟨wb, 0, none⟩), .pointer (some ⟨nb, 0, none⟩)] w fun e w' => e = .returned (.tuple #[]) ∧
      w' = ((w.drew.setCell ⟨g, p, none⟩ (.int .u64 R)).setCell ⟨nb, 0, none⟩ (.int .u64 (x / 2 ^ n))) := by
  have HV := Lib.hid hv
  have HV2 := Lib.hid hv2
  clear hv hv2
  have q3 : (p : Int) < (m : Int) := by omega
  have q4 : (0 : Int) ≤ (p : Int) := by omega
  go_enter Tryz.func164, Tryz.ntmps164
  go_wp2
  go_still_tail 15, mixed
  still_call (low_still (n : Int) _ (by omega) (by omega))
  rw [Int.toNat_natCast]
  repeat still_step
  refine wpStill_nil ?_
  go_wp2
  go_end0
  rw [HV.out, HV2.out]
  exact ⟨rfl, rfl⟩

end Go.Proofs.YtpnjccomngdblaaGreat
end

section
/- The contract of put: what a builder holds. -/
namespace Go.Proofs.YtpnjccomngdblaaGreat
open Go.RowKit
open M

/-- A builder at block pb that has the bits l; its words lie at s. -/
def BuildAt (w : World) (pb : Nat) (s : Value) (l : List Bool) : Prop :=
  w.cell? ⟨pb, 0, none⟩ = some (.int .i64 (l.length : Int)) ∧ w.cell? ⟨pb, 1, none⟩ = some s ∧ w.frozen? ⟨pb, 0, none⟩ = false ∧ w.frozen? ⟨pb, 1, none⟩ = false ∧ RowAt w s l ∧ s.ownBlock ≠ some pb

/-- The blocks that a put may turn. -/
def PX (pb : Nat) (s : Value) (k : Nat) : Prop := k = pb ∨ s.ownBlock = some k

/-- What holds while bits are put: w the world as the call began, s0 the words then, s the words now. -/
def PutI (w : World) (pb : Nat) (s0 s : Value) (l bs : List Bool) (m p : Nat) (wr : World) : Prop :=
  wr.cell? ⟨w.heap.size, 0, none⟩ = some (.pointer (some ⟨pb, 0, none⟩)) ∧ wr.cell? ⟨pb, 0, none⟩ = some (.int .i64 (l.length : Int)) ∧ wr.cell? ⟨pb, 1, none⟩ = some s ∧ wr.frozen? ⟨pb, 0, none⟩ = false ∧ wr.frozen? ⟨pb, 1, none⟩ = false ∧
  wr.cell? ⟨w.heap.size + 1, 0, none⟩ = some (.int .u64 (num (bs.drop (p - l.length)) : Nat)) ∧ wr.frozen? ⟨w.heap.size + 1, 0, none⟩ = false ∧
  wr.ownsRow 0 103 1 s m (wlN (l ++ bs.take (p - l.length)) m) ∧ Kp (PX pb s0) w wr

theorem orW (l b : List Bool) (k q : Nat) (hk : k = l.length / 64) (hq : q = l.length % 64) (hb : q + b.length ≤ 64) : bits .or .u64 (wd l k : Int) (IntKind.u64.wrap ((num b : Int) * 2 ^ q)) = (wd (l ++ b) k : Int) := by
  have e : (num b : Int) * 2 ^ q = ((num b * 2 ^ q : Nat) : Int) := by simp
  have h1 : num b * 2 ^ q < 2 ^ 64 := by
    have h3 : num b * 2 ^ q < 2 ^ b.length * 2 ^ q := Nat.mul_lt_mul_of_pos_right (num_lt b) (Nat.pow_pos (by decide))
    rw [← Nat.pow_add] at h3
    exact Nat.lt_of_lt_of_le h3 (Nat.pow_le_pow_right (by decide) (by omega))
  rw [e, wrapU _ h1, bits_or_u64_nat _ _ (wd_lt l k) h1, wd_append l b k (by omega), if_pos hk, hq]

theorem andW (b : List Bool) (n : Nat) (hb : b.length ≤ 64) (hn : n ≤ b.length) : bits .and .u64 (num b : Int) (((2 ^ n - 1 : Nat) : Int)) = (num (b.take n) : Int) := by
  have h1 : num b < 2 ^ 64 := Nat.lt_of_lt_of_le (num_lt b) (Nat.pow_le_pow_right (by decide) hb)
  have h2 : 2 ^ n - 1 < 2 ^ 64 := by
    have : (2 : Nat) ^ n ≤ 2 ^ 64 := Nat.pow_le_pow_right (by decide) (by omega)
    have : (0 : Nat) < 2 ^ n := Nat.pow_pos (by decide)
    omega
  rw [andU _ _ h1 h2, Nat.and_two_pow_sub_one_eq_mod, (num_take b n hn).1]

theorem put_step (w : World) (pb : Nat) (s0 s : Value) (l bs : List Bool) (m : Nat) (hpb : pb < w.heap.size) (hm : m = nw (l.length + bs.length)) (hb : bs.length ≤ 64)
    (hs : s.ownBlock ≠ some pb) (hs1 : s.ownBlock ≠ some w.heap.size) (hs2 : s.ownBlock ≠ some (w.heap.size + 1)) (hss : ∀ k, s.ownBlock = some k → k < w.heap.size → s0.ownBlock = some k) :
    Step 164 #[.pointer (some ⟨w.heap.size, 0, none⟩), .pointer (some ⟨w.heap.size + 1, 0, none⟩)] (PutI w pb s0 s l bs m) l.length (l.length + bs.length) := by
  intro p n wr x y z h1 h2 h3 h4 hI hx hy hz
  subst hx hy hz
  obtain ⟨i1, i2, i3, i4, i5, i6, i7, i8, i9⟩ := hI
  have hpm : p / 64 < m := by rw [hm]; unfold nw; omega
  have i8' := i8
  obtain ⟨j1, j2⟩ := i8
  rcases j2 with ⟨-, j2⟩ | ⟨g, cap, cur, rfl, -, -, -, -, -, -⟩
  · omega
  · have hlen : (l ++ bs.take (p - l.length)).length = p := by simp; omega
    have hc : wr.cell? ⟨g, p / 64, none⟩ = some (.int .u64 (wd (l ++ bs.take (p - l.length)) (p / 64) : Nat)) := by
      rw [i8'.cellAt (p / 64) (by omega)]; simp [wlN, hpm]
    have hg1 : g ≠ pb := fun e => hs (by rw [e]; rfl)
    have hg2 : g ≠ w.heap.size := fun e => hs1 (by rw [e]; rfl)
    have hg3 : g ≠ w.heap.size + 1 := fun e => hs2 (by rw [e]; rfl)
    have hdl : (bs.drop (p - l.length)).length = bs.length - (p - l.length) := by simp
    have hX : PX pb s0 g ∨ w.heap.size ≤ g := by
      by_cases e : g < w.heap.size
      · exact .inl (.inr (hss g rfl e))
      · exact .inr (by omega)
    refine (put1_any w.heap.size (w.heap.size + 1) pb g m cap (p / 64) n (p % 64) _ _ _ _ wr i1 i3 hc (i8'.frozenAt _) i6 i7 hg3 hpm (by omega) (by omega)
      (andW (bs.drop (p - l.length)) n (by omega) (by omega)) (orW (l ++ bs.take (p - l.length)) ((bs.drop (p - l.length)).take n) (p / 64) (p % 64) (by rw [hlen]) (by rw [hlen]) (by simp; omega))).mono ?_
    rintro e w' ⟨rfl, rfl⟩
    have hnum : ((num (bs.drop (p - l.length)) : Nat) : Int) / 2 ^ n = ((num (bs.drop (p + n - l.length)) : Nat) : Int) := by
      have e1 := (num_take (bs.drop (p - l.length)) n (by omega)).2
      rw [List.drop_drop, show p - l.length + n = p + n - l.length by omega] at e1
      rw [e1, Int.natCast_ediv]; simp
    have hlist : l ++ bs.take (p - l.length) ++ (bs.drop (p - l.length)).take n = l ++ bs.take (p + n - l.length) := by
      rw [List.append_assoc, ← List.take_add, show p - l.length + n = p + n - l.length by omega]
    rw [hnum, hlist]
    have cell2 : ∀ (a : Addr) (u v v1 v2 : Value), wr.cell? a = some u → a ≠ ⟨g, p / 64, none⟩ → a ≠ ⟨w.heap.size + 1, 0, none⟩ → ((wr.drew.setCell ⟨g, p / 64, none⟩ v1).setCell ⟨w.heap.size + 1, 0, none⟩ v2).cell? a = some u := by
      intro a u v v1 v2 ha n1 n2
      rw [World.cell?_setCell_other _ _ _ _ (Ne.symm n2), World.cell?_setCell_other _ _ _ _ (Ne.symm n1)]; simpa using ha
    refine ⟨rfl, ?_, ?_, ?_, ?_, ?_, ?_, ?_, ?_, ?_⟩
    · exact cell2 _ _ (.int .u64 0) _ _ i1 (by simp) (by simp)
    · exact cell2 _ _ (.int .u64 0) _ _ i2 (by simp) (by intro e; simp at e)
    · exact cell2 _ _ (.int .u64 0) _ _ i3 (by simp) (by simp)
    · simpa using i4
    · simpa using i5
    · rw [World.cell?_setCell_same _ _ _ (u := .int .u64 (num (bs.drop (p - l.length)) : Nat)) (by rw [World.cell?_setCell_other _ _ _ _ (by simp)]; simpa using i6)]
    · simpa using i7
    · have hst := (World.ownsRow.stored (w := wr.drew) i8' (p / 64) (.int .u64 (wd (l ++ bs.take (p + n - l.length)) (p / 64) : Nat))).1
      rw [← hlist, wlN_set (l ++ bs.take (p - l.length)) ((bs.drop (p - l.length)).take n) m (p / 64) (by rw [hlen]) (by rw [hlen]; simp; omega), hlist] at hst
      exact hst.kept (grown_setCell _ ⟨w.heap.size + 1, 0, none⟩ _) (.inr (by simp [Value.ownBlock]; omega))
    · exact (i9.drew.setCell hX _).setCell (.inr (by simp)) _

def PutPost (w : World) (pb : Nat) (s : Value) (L : List Bool) (w' : World) : Prop :=
  ∃ s', BuildAt w' pb s' L ∧ (∀ k, s'.ownBlock = some k → s.ownBlock = some k ∨ w.heap.size ≤ k) ∧ Kp (PX pb s) w w'

theorem PutI.drew {w wr : World} {pb : Nat} {s0 s : Value} {l bs : List Bool} {m p : Nat} (h : PutI w pb s0 s l bs m p wr) : PutI w pb s0 s l bs m p wr.drew := by
  obtain ⟨i1, i2, i3, i4, i5, i6, i7, i8, i9⟩ := h
  exact ⟨i1, i2, i3, i4, i5, i6, i7, i8, i9.drew⟩

theorem put_done (w wr : World) (pb : Nat) (s0 s : Value) (l bs : List Bool) (m : Nat) (hm : m = nw (l.length + bs.length)) (hs : s.ownBlock ≠ some pb) (hss : ∀ k, s.ownBlock = some k → s0.ownBlock = some k ∨ w.heap.size ≤ k)
    (h : PutI w pb s0 s l bs m (l.length + bs.length) wr) : PutPost w pb s0 (l ++ bs) (wr.setCell ⟨pb, 0, none⟩ (.int .i64 ((l.length + bs.length : Nat) : Int))) := by
  obtain ⟨i1, i2, i3, i4, i5, i6, i7, i8, i9⟩ := h
  refine ⟨s, ⟨?_, ?_, ?_, ?_, ?_, hs⟩, hss, i9.setCell (.inl (.inl rfl)) _⟩
  · rw [World.cell?_setCell_same _ _ _ i2]; simp
  · rw [World.cell?_setCell_other _ _ _ _ (by simp)]; exact i3
  · simpa using i4
  · simpa using i5
  · rw [show l.length + bs.length - l.length = bs.length by omega, List.take_length] at i8
    have := i8.kept (grown_setCell wr ⟨pb, 0, none⟩ (.int .i64 ((l.length + bs.length : Nat) : Int))) (.inr hs)
    unfold RowAt
    rw [List.length_append, ← hm]
    exact this

theorem wlN_more (l : List Bool) (m : Nat) (h : m = nw l.length) : wlN l (m + 1) = wlN l m ++ [.int .u64 0] := by
  simp only [wlN, List.range_succ, List.map_append, List.map_cons, List.map_nil]
  rw [wd_out l m (by omega)]
  rfl

/-- A word more, of a builder whose words are full. -/
theorem put_more (w W W2 w1 : World) (pb gg m0 cap cap' : Nat) (a0 : Option Addr) (l bs : List Bool) (hpb : pb < w.heap.size) (hm : m0 = nw l.length) (hs : (Value.slice a0 m0 cap).ownBlock ≠ some pb) (hWs : W.heap.size = w.heap.size + 1 + 1) (hn0 : (Value.slice a0 m0 cap).ownBlock ≠ some w.heap.size) (hn1 : (Value.slice a0 m0 cap).ownBlock ≠ some (w.heap.size + 1))
    (h : PutI w pb (.slice a0 m0 cap) (.slice a0 m0 cap) l bs m0 l.length W) (o : Obj) (hW2 : W2.heap = (W.alloc o).heap) (hos : W2.os = W.os) (htape : W2.tape = W.tape) (hout : W2.output = W.output)
    (hown : w1.ownsRow 0 103 1 (.slice (some ⟨gg, 0, none⟩) (m0 + 1) cap') (m0 + 1) (wlN l m0 ++ [.int .u64 0])) (hgrow : W2.grownBy w1 (Value.slice a0 m0 cap).ownBlock) (hat : (Value.slice a0 m0 cap).ownBlock = some gg ∨ gg = W.heap.size + 1) :
    PutI w pb (.slice a0 m0 cap) (.slice (some ⟨gg, 0, none⟩) (m0 + 1) cap') l bs (m0 + 1) l.length (w1.setCell ⟨pb, 1, none⟩ (.slice (some ⟨gg, 0, none⟩) (m0 + 1) cap')) ∧ gg ≠ pb ∧ gg ≠ w.heap.size ∧ gg ≠ w.heap.size + 1 ∧ w1.cell? ⟨pb, 1, none⟩ = some (.slice a0 m0 cap) ∧ w1.frozen? ⟨pb, 1, none⟩ = false ∧ w1.cell? ⟨w.heap.size, 0, none⟩ = some (.pointer (some ⟨pb, 0, none⟩)) := by
  obtain ⟨i1, i2, i3, i4, i5, i6, i7, i8, i9⟩ := h
  have hlt : ∀ k, (Value.slice a0 m0 cap).ownBlock = some k → k < W.heap.size := fun k hk => (i8.lt k hk).2
  have hsz : W2.heap.size = W.heap.size + 1 := by rw [hW2]; simp
  have far : ∀ (b i : Nat), b < W.heap.size → some b ≠ (Value.slice a0 m0 cap).ownBlock → w1.cell? ⟨b, i, none⟩ = W.cell? ⟨b, i, none⟩ ∧ w1.frozen? ⟨b, i, none⟩ = W.frozen? ⟨b, i, none⟩ := by
    intro b i hb hne
    have hbl : w1.heap[b]? = W.heap[b]? := by
      rw [hgrow.block b (by omega) hne, hW2]; exact Below.heap_alloc _ _ _ hb
    exact ⟨World.cell?_of_block (w := W) (a := ⟨b, i, none⟩) hbl, World.frozen?_of_block (w := W) (a := ⟨b, i, none⟩) hbl⟩
  have n0 : some w.heap.size ≠ (Value.slice a0 m0 cap).ownBlock := fun e => hn0 e.symm
  have n1 : some (w.heap.size + 1) ≠ (Value.slice a0 m0 cap).ownBlock := fun e => hn1 e.symm
  have g0 : gg ≠ pb := by rintro rfl; rcases hat with e | e; exact hs e; omega
  have g1 : gg ≠ w.heap.size := by rintro rfl; rcases hat with e | e; exact hn0 e; omega
  have g2 : gg ≠ w.heap.size + 1 := by rintro rfl; rcases hat with e | e; exact hn1 e; omega
  have p1 := far pb 1 (by omega) (Ne.symm hs)
  have p0 := far pb 0 (by omega) (Ne.symm hs)
  have b0 := far w.heap.size 0 (by omega) n0
  have b1 := far (w.heap.size + 1) 0 (by omega) n1
  refine ⟨⟨?_, ?_, ?_, ?_, ?_, ?_, ?_, ?_, ?_⟩, g0, g1, g2, by rw [p1.1]; exact i3, by rw [p1.2]; exact i5, by rw [b0.1]; exact i1⟩
  · rw [World.cell?_setCell_other _ _ _ _ (by simp), b0.1]; exact i1
  · rw [World.cell?_setCell_other _ _ _ _ (by simp), p0.1]; exact i2
  · rw [World.cell?_setCell_same _ _ _ (u := .slice a0 m0 cap) (by rw [p1.1]; exact i3)]
  · rw [World.frozen?_setCell, p0.2]; exact i4
  · rw [World.frozen?_setCell, p1.2]; exact i5
  · rw [World.cell?_setCell_other _ _ _ _ (by simp), b1.1]; exact i6
  · rw [World.frozen?_setCell, b1.2]; exact i7
  · simp only [Nat.sub_self, List.take_zero, List.append_nil]
    rw [wlN_more l m0 hm]
    exact hown.kept (grown_setCell w1 ⟨pb, 1, none⟩ _) (.inr (by simpa [Value.ownBlock] using g0))
  · refine Kp.setCell ?_ (.inl (.inl rfl)) _
    have k2 : Kp (PX pb (.slice a0 m0 cap)) w W2 := by
      have := i9.alloc o
      exact ⟨hos.trans this.os, htape.trans this.tape, hout.trans this.output, by rw [hW2]; exact this.size, fun k hk hx => by rw [hW2]; exact this.block k hk hx⟩
    exact k2.grown hgrow (fun k hk _ => .inr hk)

theorem parts_still (n : Int) (w : World) (h0 : 0 ≤ n) (h2 : n ≤ 1152921504606846976) :
    Calls Tryz.prog 139 #[.int .i64 n, .int .i64 64] w fun e w' => e = .returned (.int .i64 (nw n.toNat : Nat)) ∧ w' = w := (parts64 n w h0 h2).mono fun _ _ h => ⟨h.1, h.2.symm⟩

set_option maxHeartbeats 1000000 in
theorem put_any (pb : Nat) (a0 : Option Addr) (m0 cap : Nat) (l bs : List Bool) (x : Int) (n : Nat) (w : World) (hB : BuildAt w pb (.slice a0 m0 cap) l) (hx : x = (num bs : Int)) (hn : bs.length = n) (hn64 : n ≤ 64) (hl : l.length + n ≤ 1000000000) :
    Calls Tryz.prog 163 #[.pointer (some ⟨pb, 0, none⟩), .int .u64 x, .int .i64 (n : Int)] w fun e w' => e = .returned (.tuple #[]) ∧ PutPost w pb (.slice a0 m0 cap) (l ++ bs) w' := by
  obtain ⟨b1, b2, b3, b4, b5, b6⟩ := hB
  have hm0 : m0 = nw l.length := b5.some.1
  have hpb := World.block_lt_of_cell? w _ b1
  simp only at hpb
  have HX := Lib.hid hx
  have HN := Lib.hid hn
  have HM := Lib.hid hm0
  have H5 := Lib.hid (And.intro b5 b6)
  clear hx hn b5 b6 hm0
  generalize hln : l.length = ln at *
  have HL := Lib.hid hln
  clear hln
  have hbox : PutI w pb (.slice a0 m0 cap) (.slice a0 m0 cap) l bs m0 l.length ((w.alloc (Obj.cells #[.pointer (some ⟨pb, 0, none⟩)] 152)).alloc (Obj.cells #[.int .u64 x] 103)) := by
    have e : l.length = ln := HL.out
    refine ⟨?_, ?_, ?_, ?_, ?_, ?_, ?_, ?_, ?_⟩
    · rw [cell_old _ _ _ _ (by simp), cell_new _ _ _ _ _ rfl]; simp
    · rw [cell_old _ _ _ _ (by simp; omega), cell_old _ _ _ _ hpb, b1, e]
    · rw [cell_old _ _ _ _ (by simp; omega), cell_old _ _ _ _ hpb, b2]
    · rw [frozen_old _ _ _ _ (by simp; omega), frozen_old _ _ _ _ hpb, b3]
    · rw [frozen_old _ _ _ _ (by simp; omega), frozen_old _ _ _ _ hpb, b4]
    · rw [cell_new _ _ _ _ _ (by simp)]; simp [HX.out]
    · rw [frozen_new _ _ _ _ _ (by simp)]
    · have := H5.out.1
      simp only [Nat.sub_self, List.take_zero, List.append_nil]
      unfold RowAt at this
      rw [e, ← HM.out] at this
      exact (this.alloc _).alloc _
    · exact ((Kp.refl _ _).alloc _).alloc _
  have HP := Lib.hid hbox
  clear hbox
  by_cases hm : m0 < nw (ln + n)
  · have hmm : m0 + 1 = nw (ln + n) := by have := HM.out; unfold nw at *; omega
    obtain ⟨i0, hi, hz0, hz1, hz2⟩ := info_parts info103
    go_enter Tryz.func163, Tryz.ntmps163
    go_wp2
    generalize hW : ((w.alloc (Obj.cells #[.pointer (some ⟨pb, 0, none⟩)] 152)).alloc (Obj.cells #[.int .u64 x] 103)) = W at *
    have hWs : W.heap.size = w.heap.size + 1 + 1 := by rw [← hW]; simp
    have HW := Lib.hid (And.intro hW hWs)
    clear hW b1 b2 b3 b4 hWs
    obtain ⟨c1, c2, c3, c4, c5, c6, c7, c8, c9⟩ := HP.out
    rw [HL.out] at c2
    have C := Lib.hid (And.intro c6 (And.intro c7 (And.intro c8 c9)))
    clear c6 c7 c8 c9
    have q0 : IntKind.i64.wrap ((ln : Int) + (n : Int)) = (ln : Int) + (n : Int) := IntWalk.i64_in _ (by omega)
    have q1 : ((ln : Int) + (n : Int)).toNat = ln + n := by omega
    refine wp_region_still_lit mixed (by kernel_rfl) ?_
    repeat still_step
    still_call (parts_still _ _ (by omega) (by omega))
    rw [q1]
    repeat still_step
    refine wpStill_nil ?_
    clear q0 q1 c1 c2 c3 c4 c5 C
    go_wp2
    change Code.wp _ _ _ _ W.drew
    have hV := HP.out.drew
    have hVs : W.drew.heap.size = w.heap.size + 1 + 1 := HW.out.2
    generalize W.drew = V at *
    clear HP HW
    obtain ⟨c1, c2, c3, c4, c5, c6, c7, c8, c9⟩ := id hV
    simp only [Nat.sub_self, List.take_zero, List.append_nil] at c8
    have hn0 : (Value.slice a0 m0 cap).ownBlock ≠ some w.heap.size := fun e => by have := (H5.out.1.lt _ e).2; omega
    have hn1 : (Value.slice a0 m0 cap).ownBlock ≠ some (w.heap.size + 1) := fun e => by have := (H5.out.1.lt _ e).2; omega
    have C8 := Lib.hid c8
    have HV := Lib.hid (And.intro hV hVs)
    have HNN := Lib.hid (And.intro hn0 hn1)
    have hpV : pb < V.heap.size := by omega
    have hHV : w.heap.size < V.heap.size := by omega
    have hps : m0 + 1 ≤ maxLen := by unfold maxLen; rw [hmm]; unfold nw; omega
    have hpb8 : (m0 + 1) * 8 ≤ 140737488355328 := by rw [hmm]; unfold nw; omega
    have HMM := Lib.hid hmm
    clear c2 c4 c6 c7 c8 c9 hV hVs hn0 hn1 hmm
    go_region_law
      ((refine step_append_lies _ (by rfl) _ _ _ (by rfl) 0 103 i0 _ 1 8 Tryz.underlying29 hi hz0 hz1 hz2 rfl (by omega) (.slice a0 m0 cap) m0 (wlN l m0) (by rfl) ((C8.out.alloc _).drew)
          ⟨V.heap.size, 0, none⟩ 1 1 [.int .u64 0] (by rfl) (by rfl) (World.news_of_block (cs := #[.int .u64 0]) (t := 103) (fr := (0, 0)) (heap_alloc_new V _)) (by simp [Value.oneCell'])
          (by omega) hps hpb8 (by omega) (V.heap.size + 1) (by simp) ?_; intro gg cap' w1 hown1 hgrow hat hlt1
        have hmore := put_more w V ((V.alloc (.cells #[.int .u64 0] 103)).drew) w1 pb gg m0 cap cap' a0 l bs hpb (by rw [HL.out]; exact HM.out) H5.out.2 HV.out.2 HNN.out.1 HNN.out.2 HV.out.1 (.cells #[.int .u64 0] 103) rfl rfl rfl rfl hown1 hgrow hat
        obtain ⟨mm1, mm2, mm3, mm4, mm5, mm6, mm7⟩ := hmore
        have MM := Lib.hid (And.intro mm1 (And.intro mm2 (And.intro mm3 (And.intro mm4 hat))))
        clear hown1 hgrow hat mm1 mm2 mm3 mm4 hlt1))
    all_goals
      obtain ⟨t1, t2, t3, t4, t5⟩ := MM.out
      obtain ⟨d1, d2, d3, d4, d5, d6, d7, d8, d9⟩ := id t1
      have hst := put_step w pb (.slice a0 m0 cap) (.slice (some ⟨gg, 0, none⟩) (m0 + 1) cap') l bs (m0 + 1) hpb (by rw [HL.out, HN.out]; exact HMM.out) (by rw [HN.out]; exact hn64)
        (fun e => t2 (by simpa [Value.ownBlock] using e)) (fun e => t3 (by simpa [Value.ownBlock] using e)) (fun e => t4 (by simpa [Value.ownBlock] using e))
        (fun k hk hlt => by
          have hk : gg = k := by simpa [Value.ownBlock] using hk
          subst hk
          rcases t5 with e | e
          · exact e
          · omega)
      rw [HL.out, HN.out] at hst
      rw [HL.out] at t1 d2
      have T1 := Lib.hid (And.intro t1 hst)
      have hss : ∀ k, (Value.slice (some ⟨gg, 0, none⟩) (m0 + 1) cap').ownBlock = some k → (Value.slice a0 m0 cap).ownBlock = some k ∨ w.heap.size ≤ k := fun k hk => by
        have hk : gg = k := by simpa [Value.ownBlock] using hk
        subst hk
        rcases t5 with e | e
        · exact .inl e
        · exact .inr (by omega)
      have hgp : (Value.slice (some ⟨gg, 0, none⟩) (m0 + 1) cap').ownBlock ≠ some pb := fun e => t2 (by simpa [Value.ownBlock] using e)
      have T2 := Lib.hid (And.intro hss hgp)
      clear t1 t2 t3 t4 t5 d6 d7 d8 d9 hst hss hgp MM mm5 mm6 mm7 c1 c3 c5 C8 HV HNN
      generalize (w1.setCell ⟨pb, 1, none⟩ (.slice (some ⟨gg, 0, none⟩) (m0 + 1) cap')) = U at *
      go_wp2_with fail
      refine (eachPiece_int 164 _ _ ln (ln + n) _ _ _ ent164 (by omega) (by omega) rfl (by omega) T1.out.1 T1.out.2).mono ?_
      clear d1 d2 d3 d4 d5
      rintro e w' ⟨rfl, hI⟩
      obtain ⟨d1, d2, d3, d4, d5, d6, d7, d8, d9⟩ := id hI
      have HI := Lib.hid hI
      clear d6 d7 d8 d9 hI
      go_wp2
      go_end0
      have := put_done w w' pb (.slice a0 m0 cap) (.slice (some ⟨gg, 0, none⟩) (m0 + 1) cap') l bs (m0 + 1) (by rw [HL.out, HN.out]; exact HMM.out) T2.out.2 T2.out.1 (by rw [HL.out, HN.out]; exact HI.out)
      rw [HL.out, HN.out] at this
      exact ⟨rfl, by simpa using this⟩
  · have hmm : m0 = nw (ln + n) := by have := HM.out; unfold nw at *; omega
    go_enter Tryz.func163, Tryz.ntmps163
    go_wp2
    generalize hW : ((w.alloc (Obj.cells #[.pointer (some ⟨pb, 0, none⟩)] 152)).alloc (Obj.cells #[.int .u64 x] 103)) = W at *
    have HW := Lib.hid hW
    clear hW b1 b2 b3 b4
    obtain ⟨c1, c2, c3, c4, c5, c6, c7, c8, c9⟩ := HP.out
    rw [HL.out] at c2
    have C := Lib.hid (And.intro c6 (And.intro c7 (And.intro c8 c9)))
    clear c6 c7 c8 c9
    have q0 : IntKind.i64.wrap ((ln : Int) + (n : Int)) = (ln : Int) + (n : Int) := IntWalk.i64_in _ (by omega)
    have q1 : ((ln : Int) + (n : Int)).toNat = ln + n := by omega
    refine wp_region_still_lit mixed (by kernel_rfl) ?_
    repeat still_step
    still_call (parts_still _ _ (by omega) (by omega))
    rw [q1]
    repeat still_step
    refine wpStill_nil ?_
    clear q0 q1
    go_wp2_with fail
    have hst := put_step w pb (.slice a0 m0 cap) (.slice a0 m0 cap) l bs m0 hpb (by rw [HL.out, HN.out]; exact hmm) (by rw [HN.out]; exact hn64) H5.out.2 ?_ ?_ ?_
    rw [HL.out, HN.out] at hst
    have hpi := HP.out.drew
    rw [HL.out] at hpi
    refine (eachPiece_int 164 _ _ ln (ln + n) _ _ _ ent164 (by omega) (by omega) rfl (by omega) hpi hst).mono ?_
    · clear hpi hst
      rintro e w' ⟨rfl, hI⟩
      obtain ⟨d1, d2, d3, d4, d5, d6, d7, d8, d9⟩ := id hI
      have HI := Lib.hid hI
      clear d6 d7 d8 d9 hI
      go_wp2
      go_end0
      have := put_done w w' pb (.slice a0 m0 cap) (.slice a0 m0 cap) l bs m0 (by rw [HL.out, HN.out]; exact hmm) H5.out.2 (fun k hk => .inl hk) (by rw [HL.out, HN.out]; exact HI.out)
      rw [HL.out, HN.out] at this
      exact ⟨rfl, by simpa using this⟩
    · intro e
      have := (H5.out.1.lt _ e).2
      omega
    · intro e
      have := (H5.out.1.lt _ e).2
      omega
    · intro k hk _; exact hk

end Go.Proofs.YtpnjccomngdblaaGreat
end

section
/- The contracts of New, Add, Put. -/
namespace Go.Proofs.YtpnjccomngdblaaGreat
open Go.RowKit
open M

theorem new_any (w : World) : Calls Tryz.prog 156 #[] w fun e w' => e = .returned (.pointer (some ⟨w.heap.size, 0, none⟩)) ∧ BuildAt w' w.heap.size (.slice none 0 0) [] ∧ Below w.heap.size w w' := by
  go_enter Tryz.func156, Tryz.ntmps156
  go_wp2
  go_ret
  refine ⟨rfl, ⟨by simp, by simp, by simp, by simp, Row_nil _, by simp [Value.ownBlock]⟩, (Below.refl _ _).alloc (Nat.le_refl _) _⟩

theorem put_nil (x y : Int) (w : World) : Calls Tryz.prog 158 #[.pointer none, .int .u64 x, .int .i64 y] w fun e w' => e = .returned (.int .i64 1) ∧ w = w' := by
  go_enter Tryz.func158, Tryz.ntmps158
  go_wp2
  go_ret
  exact ⟨rfl, rfl⟩

set_option maxHeartbeats 1000000 in
theorem put_ok (pb : Nat) (a0 : Option Addr) (m0 cap : Nat) (l bs : List Bool) (x : Int) (n : Nat) (w : World) (hB : BuildAt w pb (.slice a0 m0 cap) l) (hx : x = (num bs : Int)) (hn : bs.length = n) (hn64 : n ≤ 64) (hl : l.length + n ≤ 1000000000) :
    Calls Tryz.prog 158 #[.pointer (some ⟨pb, 0, none⟩), .int .u64 x, .int .i64 (n : Int)] w fun e w' => e = .returned (.int .i64 0) ∧ PutPost w pb (.slice a0 m0 cap) (l ++ bs) w' := by
  have hp := put_any pb a0 m0 cap l bs x n w hB hx hn hn64 hl
  have HP := Lib.hid hp
  have hle : ¬ ((2 ^ n - 1 : Nat) : Int) < x := by have := num_lt bs; rw [hn] at this; omega
  clear hp hB hx hn
  go_enter Tryz.func158, Tryz.ntmps158
  go_wp2_with fail
  refine (low_any (n : Int) _ (by omega) (by omega)).mono ?_
  rintro e w' ⟨rfl, rfl⟩
  rw [Int.toNat_natCast]
  generalize 2 ^ n - 1 = lw at *
  go_wp2_with fail
  refine HP.out.mono ?_
  rintro e w' ⟨rfl, hpost⟩
  have HQ := Lib.hid hpost
  clear hpost
  go_wp2
  go_ret
  exact ⟨rfl, HQ.out⟩

set_option maxHeartbeats 1000000 in
theorem put_no (a : Addr) (x y : Int) (w : World) (h : y < 0 ∨ 64 < y ∨ ((2 ^ y.toNat - 1 : Nat) : Int) < x) :
    Calls Tryz.prog 158 #[.pointer (some a), .int .u64 x, .int .i64 y] w fun e w' => e = .returned (.int .i64 1) ∧ w = w' := by
  by_cases h0 : y < 0
  · clear h
    go_enter Tryz.func158, Tryz.ntmps158
    go_wp2
    go_ret
    exact ⟨rfl, rfl⟩
  · by_cases h1 : 64 < y
    · clear h
      go_enter Tryz.func158, Tryz.ntmps158
      go_wp2
      go_ret
      exact ⟨rfl, rfl⟩
    · have h2 : ((2 ^ y.toNat - 1 : Nat) : Int) < x := by omega
      have H2 := Lib.hid h2
      clear h h2
      go_enter Tryz.func158, Tryz.ntmps158
      go_wp2_with fail
      refine (low_any y _ (by omega) (by omega)).mono ?_
      rintro e w' ⟨rfl, rfl⟩
      have h2 := H2.out
      generalize 2 ^ y.toNat - 1 = lw at *
      go_wp2
      go_ret
      exact ⟨rfl, rfl⟩

end Go.Proofs.YtpnjccomngdblaaGreat
end

section
/- The contract of Bits: the row of a builder. -/
namespace Go.Proofs.YtpnjccomngdblaaGreat
open Go.RowKit
open M

theorem bits_nil (w : World) : Calls Tryz.prog 159 #[.pointer none] w fun e w' => e = .returned (.agg #[.int .i64 0, .slice none 0 0]) ∧ Below w.heap.size w w' := by
  go_enter Tryz.func159, Tryz.ntmps159
  go_wp2
  refine bodyPost_ret (v := .agg #[.int .i64 0, .slice none 0 0]) (by simp [results, Tryz.results159, go_sem]) rfl ⟨rfl, ?_⟩
  exact (Below.refl _ _).alloc (Nat.le_refl _) _

theorem add_zero_addr (g j : Nat) : (⟨g, 0, none⟩ : Addr).add j = ⟨g, j, none⟩ := by
  simp only [Addr.add]
  split
  · rename_i h; simp_all
  · simp

def CSrc (w1 : World) (a0 : Option Addr) (cs : List Value) : Prop := 0 < cs.length → ∃ ad, a0 = some ad ∧ ∀ j v, cs[j]? = some v → w1.cell? (ad.add j) = some v

theorem info103s : (Tryz.prog.info? 103).map (·.size) = some 1 := by kernel_rfl

theorem wl_one (l : List Bool) (m : Nat) : ∀ v ∈ wlN l m, v.oneCell' = true := by
  intro v hv
  obtain ⟨k, -, rfl⟩ := List.mem_map.1 hv
  rfl

set_option maxHeartbeats 1000000 in
theorem bits_any (pb : Nat) (a0 : Option Addr) (m0 cap : Nat) (l : List Bool) (w : World) (hB : BuildAt w pb (.slice a0 m0 cap) l) (hl : l.length ≤ 1000000000) :
    Calls Tryz.prog 159 #[.pointer (some ⟨pb, 0, none⟩)] w fun e w' => e = .returned (.agg #[.int .i64 (l.length : Int), .slice (some ⟨w.heap.size + 1, 0, none⟩) (nw l.length) (nw l.length)]) ∧
      RowAt w' (.slice (some ⟨w.heap.size + 1, 0, none⟩) (nw l.length) (nw l.length)) l ∧ Below w.heap.size w w' := by
  obtain ⟨b1, b2, b3, b4, b5, b6⟩ := hB
  have hm0 : m0 = nw l.length := b5.some.1
  have hpb := World.block_lt_of_cell? w _ b1
  simp only at hpb
  have H5 := Lib.hid b5
  have HM := Lib.hid hm0
  clear b3 b4 b5 b6 hm0
  have hem := emptyWords_any (l.length : Int) 0 (w.alloc (Obj.cells #[Value.int .i64 0, .slice none 0 0] 31)) (by omega) (by omega) (by omega)
  rw [Int.toNat_natCast] at hem
  have HE := Lib.hid hem
  clear hem
  generalize hn : l.length = n at *
  have HN := Lib.hid hn
  clear hn
  go_enter Tryz.func159, Tryz.ntmps159
  go_wp2_with fail
  refine HE.out.mono ?_
  rintro e w1 ⟨rfl, hown, hgrow⟩
  have hbel : Below w.heap.size w w1 := ((Below.refl _ _).alloc (Nat.le_refl _) _).trans ((below_grown hgrow).mono (by simp))
  have r0 : w1.cell? ⟨w.heap.size, 0, none⟩ = some (.int .i64 0) := by rw [hgrow.cell_far _ (by simp) (by simp)]; simp
  have r1 : w1.cell? ⟨w.heap.size, 1, none⟩ = some (.slice none 0 0) := by rw [hgrow.cell_far _ (by simp) (by simp)]; simp
  have z0 : w1.frozen? ⟨w.heap.size, 0, none⟩ = false := by rw [hgrow.frozen_far _ (by simp) (by simp)]; simp
  have z1 : w1.frozen? ⟨w.heap.size, 1, none⟩ = false := by rw [hgrow.frozen_far _ (by simp) (by simp)]; simp
  have d1 : w1.cell? ⟨pb, 0, none⟩ = some (.int .i64 (n : Int)) := by rw [hbel.cell (p := ⟨pb, 0, none⟩) hpb]; exact b1
  have d2 : w1.cell? ⟨pb, 1, none⟩ = some (.slice a0 m0 cap) := by rw [hbel.cell (p := ⟨pb, 1, none⟩) hpb]; exact b2
  have hrow := (H5.out.kept hbel).some
  obtain ⟨cur, hcur, hcl⟩ : ∃ cur : List Value, w1.heap[w.heap.size + 1]? = some (.cells cur.toArray 103 (0, 0)) ∧ cur.length = nw n := by
    obtain ⟨-, h2⟩ := hown
    rcases h2 with ⟨h2, -⟩ | ⟨g, cap, cur, h2, -, hh, -, -, hc, -⟩
    · simp at h2
    · simp only [World.size_alloc, Value.slice.injEq, Option.some.injEq, Addr.mk.injEq, and_true, true_and] at h2
      obtain ⟨rfl, rfl⟩ := h2
      exact ⟨cur.toList, by simpa using hh, by simpa using hc⟩
  have hsrc : CSrc w1 a0 (wlN l m0) := by
    intro hpos
    rw [wlN_length] at hpos
    obtain ⟨g, hg, -⟩ := hrow.2.2.2 0 hpos
    refine ⟨_, hg, fun j v hj => ?_⟩
    have hjm : j < m0 := by
      have := (List.getElem?_eq_some_iff.1 hj).1
      rwa [wlN_length] at this
    obtain ⟨g', hg', hc⟩ := hrow.2.2.2 j hjm
    have : g' = g := by rw [hg] at hg'; simpa using hg'.symm
    subst this
    rw [add_zero_addr, hc, ← hj]
    simp [wlN, hjm]
  have hmn : m0 = nw n := HM.out
  have hwl : (wlN l m0).length = Nat.min m0 (nw n) := by rw [wlN_length, ← hmn]; simp
  have hfit : 0 + (wlN l m0).length ≤ cur.length := by rw [wlN_length, hcl]; omega
  have hbb : Below (w.heap.size + 1) w1 w1 := Below.refl _ _
  have HH := Lib.hid (And.intro hcur (And.intro hsrc (And.intro hwl (And.intro hfit (And.intro hcl hbel)))))
  have HMN := Lib.hid hmn
  clear hcur hsrc hwl hfit hcl hbel hmn hrow hown hgrow hbb b1 b2
  generalize hnw : nw n = m at *
  have HNW := Lib.hid hnw
  clear hnw
  go_wp2_with (refine wpList_copy_splice (o := ⟨some 17, _, _, _, _, _⟩) rfl (.tmp 12) (.tmp 16) 29 29 rfl 103 Tryz.underlying29 info103s (some ⟨w.heap.size + 1, 0, none⟩) a0 m m m0 cap (by rfl) (by rfl) (w.heap.size + 1) 0 cur 103 HH.out.1 (wlN l m0) HH.out.2.2.1 (fun hpos => ⟨rfl, HH.out.2.1 hpos⟩) HH.out.2.2.2.1 (wl_one l m0) (w.heap.size + 1) w1 (Below.refl _ _) (Nat.le_refl _) ?_)
  intro w2 hh2 hb2
  have e0 : w2.cell? ⟨w.heap.size, 0, none⟩ = some (.int .i64 0) := by rw [hb2.cell (p := ⟨w.heap.size, 0, none⟩) (by simp)]; exact r0
  have e1 : w2.cell? ⟨w.heap.size, 1, none⟩ = some (.slice none 0 0) := by rw [hb2.cell (p := ⟨w.heap.size, 1, none⟩) (by simp)]; exact r1
  have y0 : w2.frozen? ⟨w.heap.size, 0, none⟩ = false := by rw [hb2.frozen (p := ⟨w.heap.size, 0, none⟩) (by simp)]; exact z0
  have y1 : w2.frozen? ⟨w.heap.size, 1, none⟩ = false := by rw [hb2.frozen (p := ⟨w.heap.size, 1, none⟩) (by simp)]; exact z1
  have f1 : w2.cell? ⟨pb, 0, none⟩ = some (.int .i64 (n : Int)) := by rw [hb2.cell (p := ⟨pb, 0, none⟩) (by simp; omega)]; exact d1
  have HB2 := Lib.hid hb2
  have HH2 := Lib.hid hh2
  clear hb2 r0 r1 z0 z1 d1 d2 hh2
  go_wp2
  refine bodyPost_ret (v := .agg #[.int .i64 (n : Int), .slice (some ⟨w.heap.size + 1, 0, none⟩) m m]) (by simp [results, Tryz.results159, go_sem, e0, e1]) rfl ?_
  have q1 : nw n = m := HNW.out
  have q2 : l.length = n := HN.out
  have q3 : m0 = m := HMN.out
  subst q3
  obtain ⟨hcur, hsrc, hwl, hfit, hcl, hbel⟩ := HH.out
  have hrow : w2.ownsRow 0 103 1 (.slice (some ⟨w.heap.size + 1, 0, none⟩) m0 m0) m0 (wlN l m0) := by
    have hcell := HH2.out.out
    have hsp : splice cur 0 (wlN l m0) = wlN l m0 := by
      simp only [splice, List.take_zero, List.nil_append, Nat.zero_add]
      rw [List.drop_eq_nil_of_le (by rw [wlN_length, hcl]; omega), List.append_nil]
    rw [hsp] at hcell
    refine ⟨by rw [wlN_length]; omega, .inr ⟨_, m0, _, rfl, Nat.zero_le _, hcell, Nat.le_refl _, ?_, ?_, ?_⟩⟩
    · rw [← q1]; unfold nw maxLen; omega
    · simp [wlN_length]
    · rw [Nat.mul_one, List.take_of_length_le (by simp [wlN_length])]
  refine ⟨by rw [q1], ?_, ?_⟩
  · have hg : w2.grownBy ((w2.setCell ⟨w.heap.size, 0, none⟩ (.int .i64 (n : Int))).setCell ⟨w.heap.size, 1, none⟩ (.slice (some ⟨w.heap.size + 1, 0, none⟩) m0 m0)) (some w.heap.size) :=
      grown_trans (grown_setCell w2 ⟨w.heap.size, 0, none⟩ _) (grown_setCell _ ⟨w.heap.size, 1, none⟩ _)
    have := hrow.kept hg (.inr (by simp [Value.ownBlock]))
    unfold RowAt
    rw [q2, q1]
    exact this
  · exact ((hbel.trans (HB2.out.mono (by omega))).setCell (by simp) _).setCell (by simp) _

end Go.Proofs.YtpnjccomngdblaaGreat
end

section
/- awake answers true. -/
namespace Go.Proofs.YtpnjccomngdblaaGreat
open Go.RowKit
open M

theorem row_kp {w w' : World} {X : Nat → Prop} {s : Value} {l : List Bool} (h : RowAt w s l) (hb : Kp X w w') (hx : ∀ k, s.ownBlock = some k → ¬ X k) : RowAt w' s l := by
  obtain ⟨h1, h2⟩ := h
  refine ⟨h1, ?_⟩
  rcases h2 with h2 | ⟨g, cap, cur, rfl, hg, hh, r⟩
  · exact .inl h2
  · have hlt : g < w.heap.size := by
      rcases Nat.lt_or_ge g w.heap.size with h | h
      · exact h
      · rw [Array.getElem?_eq_none h] at hh; simp at hh
    exact .inr ⟨g, cap, cur, rfl, hg, by rw [hb.block g hlt (hx g rfl)]; exact hh, r⟩

theorem Kp.toBelow {X : Nat → Prop} {B : Nat} {w w' : World} (h : Kp X w w') (hB : B ≤ w.heap.size) (hx : ∀ k, k < B → ¬ X k) : Below B w w' :=
  ⟨h.os, h.tape, h.output, h.size, fun k hk => h.block k (by omega) (hx k hk)⟩

theorem row_lt {w : World} {s : Value} {l : List Bool} (h : RowAt w s l) : ∀ k, s.ownBlock = some k → k < w.heap.size := fun k hk => (World.ownsRow.lt h k hk).2

theorem BuildAt.form {w : World} {pb : Nat} {s : Value} {l : List Bool} (h : BuildAt w pb s l) : ∃ a m c, s = .slice a m c := by
  rcases h.2.2.2.2.1.form with ⟨-, rfl⟩ | ⟨g, cap, rfl, -⟩
  · exact ⟨_, _, _, rfl⟩
  · exact ⟨_, _, _, rfl⟩

theorem BuildAt.kept {w w' : World} {pb : Nat} {s : Value} {l : List Bool} (h : BuildAt w pb s l) (hb : Below w.heap.size w w') : BuildAt w' pb s l := by
  obtain ⟨b1, b2, b3, b4, b5, b6⟩ := h
  have hp := World.block_lt_of_cell? w _ b1
  simp only at hp
  exact ⟨by rw [hb.cell (p := ⟨pb, 0, none⟩) hp]; exact b1, by rw [hb.cell (p := ⟨pb, 1, none⟩) hp]; exact b2, by rw [hb.frozen (p := ⟨pb, 0, none⟩) hp]; exact b3, by rw [hb.frozen (p := ⟨pb, 1, none⟩) hp]; exact b4, b5.kept hb, b6⟩

theorem BuildAt.lt {w : World} {pb : Nat} {s : Value} {l : List Bool} (h : BuildAt w pb s l) : pb < w.heap.size := World.block_lt_of_cell? w _ h.1

def L4 : List Bool := [true, false, true, true]

theorem make4 (b : Nat) (w : World) (h : ∀ j, j < 4 → w.cell? ⟨b, j, none⟩ = some (.bool (L4.getD j false))) (hb : b < w.heap.size) :
    Calls Tryz.prog 72 #[.slice (some ⟨b, 0, none⟩) 4 4] w fun e w' => e = .returned (.agg #[.int .i64 4, .slice (some ⟨w.heap.size + 1, 0, none⟩) 1 1]) ∧ RowAt w' (.slice (some ⟨w.heap.size + 1, 0, none⟩) 1 1) L4 ∧ Below w.heap.size w w' :=
  make_any (some ⟨b, 0, none⟩) 4 L4 w (.inr ⟨b, 0, rfl, hb, fun j hj => by rw [Nat.zero_add]; exact h j hj⟩) (by decide)

/-- The two cells of a boxed row. -/
def Bx (w : World) (b : Nat) (n : Nat) (s : Value) : Prop := w.cell? ⟨b, 0, none⟩ = some (.int .i64 (n : Int)) ∧ w.cell? ⟨b, 1, none⟩ = some s
theorem Bx.lt {w : World} {b n : Nat} {s : Value} (h : Bx w b n s) : b < w.heap.size := World.block_lt_of_cell? w _ h.1
theorem Bx.kept {w w' : World} {b n : Nat} {s : Value} (h : Bx w b n s) (hb : Below w.heap.size w w') : Bx w' b n s :=
  ⟨by rw [hb.cell (p := ⟨b, 0, none⟩) h.lt]; exact h.1, by rw [hb.cell (p := ⟨b, 1, none⟩) h.lt]; exact h.2⟩
theorem Bx.kp {X : Nat → Prop} {w w' : World} {b n : Nat} {s : Value} (h : Bx w b n s) (hb : Kp X w w') (hx : ¬ X b) : Bx w' b n s :=
  ⟨by rw [hb.cell (p := ⟨b, 0, none⟩) h.lt hx]; exact h.1, by rw [hb.cell (p := ⟨b, 1, none⟩) h.lt hx]; exact h.2⟩
theorem Bx.new (w : World) (n : Nat) (s : Value) : Bx (w.alloc (.cells #[.int .i64 (n : Int), s] 31)) w.heap.size n s := ⟨by simp, by simp⟩

/-- What awake has made, up to the builder's row. -/
def AW (w : World) (bb cb : Nat) (sb sc : Value) (wr : World) : Prop := Bx wr bb 4 sb ∧ RowAt wr sb L4 ∧ Bx wr cb 4 sc ∧ RowAt wr sc L4 ∧ Below w.heap.size w wr
theorem AW.kept {w wr w' : World} {bb cb : Nat} {sb sc : Value} (h : AW w bb cb sb sc wr) (hb : Below wr.heap.size wr w') : AW w bb cb sb sc w' :=
  ⟨h.1.kept hb, h.2.1.kept hb, h.2.2.1.kept hb, h.2.2.2.1.kept hb, h.2.2.2.2.trans (hb.mono h.2.2.2.2.size)⟩

theorem bytes4 : bytI L4 (p8 L4.length) = [13] := by decide

end Go.Proofs.YtpnjccomngdblaaGreat
end

section
/- A slice of bits that came in; the contract of few. -/
namespace Go.Proofs.YtpnjccomngdblaaGreat
open Go.RowKit
open M

theorem own : ownKnob Tryz.prog.godebug = none := by kernel_rfl
theorem laidOut : laidOutB Tryz.prog = true := by kernel_rfl
theorem cells4 : Tryz.prog.cellsOf 4 = 1 := by kernel_rfl

/-- What the reading of an argument says of it. -/
theorem bools_in {H : Type} {enc : TypeId × Value → H} {W : World} {a0 : Option Addr} {len cap : Nat} {x : DataW H} {pl : List MemPlace}
    (h : DataW.Trod enc Tryz.prog W 0 (fun _ => true) true 99 (.slice a0 len cap) x pl) : ∃ l : List Bool, l.length = len ∧ len ≤ cap ∧ cap ≤ maxLen ∧ BoolsAt W a0 l := by
  obtain ⟨fuel, hf⟩ := h
  rcases Deep.open_bools Tryz.underlying99 Tryz.underlying4 cells4 hf with ⟨hcs, _⟩ | ⟨a, l, c, B, hcs, _, hl, hm, _, hcell⟩
  · simp [Value.cells] at hcs
    obtain ⟨rfl, rfl, rfl⟩ := hcs
    exact ⟨[], rfl, by omega, by unfold maxLen; omega, .inl rfl⟩
  · simp [Value.cells] at hcs
    obtain ⟨rfl, rfl, rfl⟩ := hcs
    refine ⟨(List.range len).map B, by simp, hl, hm, ?_⟩
    by_cases h0 : len = 0
    · subst h0; exact .inl rfl
    · obtain ⟨b, off, spot⟩ := a
      have hc0 := hcell 0 (by omega)
      have hspot : spot = none := by simpa [Addr.add] using World.cell?_spot hc0
      subst hspot
      have hlt := World.block_lt_of_cell? W _ hc0
      refine .inr ⟨b, off, rfl, by simpa [Addr.add] using hlt, fun j hj => ?_⟩
      have hj' : j < len := by simpa using hj
      have := hcell j (by omega)
      simp only [Addr.add] at this
      have e : (⟨b, off + j, none⟩ : Addr) = if j = 0 then ⟨b, off, none⟩ else ⟨b, off + j, none⟩ := by split <;> simp_all
      rw [e]
      simpa [hj'] using this

end Go.Proofs.YtpnjccomngdblaaGreat
end

section
/- Bits behind bits: append of a slice of bits onto one of the call's own. -/
namespace Go.Proofs.YtpnjccomngdblaaGreat
open Go.RowKit
open M

/-- The slice with the bits l, n of them: a nil one has no room. -/
def SliceOf (w : World) (A : Option Addr) (n c : Nat) (l : List Bool) : Prop := l.length = n ∧ n ≤ c ∧ c ≤ maxLen ∧ BoolsAt w A l ∧ (A = none → n = 0 ∧ c = 0)

theorem slice_in {H : Type} {enc : TypeId × Value → H} {W : World} {a0 : Option Addr} {len cap : Nat} {x : DataW H} {pl : List MemPlace}
    (h : DataW.Trod enc Tryz.prog W 0 (fun _ => true) true 99 (.slice a0 len cap) x pl) : ∃ l : List Bool, SliceOf W a0 len cap l := by
  obtain ⟨l, h1, h2, h3, h4⟩ := bools_in h
  refine ⟨l, h1, h2, h3, h4, ?_⟩
  rintro rfl
  obtain ⟨fuel, hf⟩ := h
  rcases Deep.open_bools Tryz.underlying99 Tryz.underlying4 cells4 hf with ⟨hcs, _⟩ | ⟨a, l, c, B, hcs, _⟩
  · simp [Value.cells] at hcs
    exact hcs
  · simp [Value.cells] at hcs

theorem SliceOf.kept {w w' : World} {A : Option Addr} {n c : Nat} {l : List Bool} (h : SliceOf w A n c l) (hb : Below w.heap.size w w') : SliceOf w' A n c l :=
  ⟨h.1, h.2.1, h.2.2.1, h.2.2.2.1.kept hb, h.2.2.2.2⟩

theorem SliceOf.take {w : World} {A : Option Addr} {n c : Nat} {l : List Bool} (h : SliceOf w A n c l) (k : Nat) : SliceOf w A (min n k) c (l.take k) := by
  obtain ⟨h1, h2, h3, h4, h5⟩ := h
  exact ⟨by simp [h1, Nat.min_comm], by omega, h3, h4.take k, fun e => by have := h5 e; omega⟩

theorem BoolsAt.kp {X : Nat → Prop} {w w' : World} {a : Option Addr} {l : List Bool} (h : BoolsAt w a l) (hb : Kp X w w') (hx : ∀ b o, a = some ⟨b, o, none⟩ → ¬ X b) : BoolsAt w' a l := by
  rcases h with h | ⟨b, off, h1, h2, h3⟩
  · exact .inl h
  · refine .inr ⟨b, off, h1, Nat.lt_of_lt_of_le h2 hb.size, fun j hj => ?_⟩
    rw [hb.cell (p := ⟨b, off + j, none⟩) h2 (hx b off h1)]
    exact h3 j hj

theorem wpList_append_bools {w : World} {ops : Array Oper} {rest : List Oper} {o : Oper} {a : Act} {Q : Exit → Act → World → Prop} (hgd : o.guard = none) (s x : Operand)
    (ho : o.op = .call { callee := .builtin .append, args := #[s, x], argTypes := #[99, 99] }) (base : Nat) (v : Value) (n : Nat) (xs : List Value) (hs : a.eval s = v) (hown : w.ownsRow base 4 1 v n xs)
    (A : Option Addr) (m c : Nat) (l : List Bool) (hx : a.eval x = .slice A m c) (hl : SliceOf w A m c l) (h63 : n + m ≤ 1000000000) (hbase : base ≤ w.heap.size)
    (h : ∀ v' w', w'.ownsRow base 4 1 v' (n + m) (xs ++ l.map Value.bool) → w.grownBy w' v.ownBlock → (v'.ownBlock = v.ownBlock ∨ v'.ownBlock = some w.heap.size) → wpList Tryz.prog ops Q rest (a.put o.dst v') w') :
    wpList Tryz.prog ops Q (o :: rest) a w := by
  obtain ⟨i0, hi, hz0, hz1, hz2⟩ := info_parts info4
  obtain ⟨h1, h2, h3, h4, h5⟩ := hl
  cases A with
  | none =>
    obtain ⟨rfl, rfl⟩ := h5 rfl
    obtain rfl : l = [] := List.eq_nil_of_length_eq_zero h1
    refine wpList_append_own_none hgd s x 99 ho base 4 i0 1 Tryz.underlying99 hi v n xs hs hown hx (h v w (by simpa using hown) ⟨rfl, rfl, rfl, Nat.le_refl _, fun _ _ _ => rfl⟩ (.inl rfl))
  | some ad =>
    refine wpList_append_own_at w hgd s x 99 ho base 4 i0 (.bool false) 1 1 Tryz.underlying99 hi hz0 hz1 hz2 rfl (by omega) v n xs hs hown ad m c (l.map Value.bool) hx (by simp [h1]) ?_ ?_ (by unfold maxLen; omega) (by omega) hbase (fun v' w' k1 k2 _ k4 => h v' w' k1 k2 k4)
    · intro j u hu
      rcases h4 with rfl | ⟨b, off, e, -, hc⟩
      · simp at hu
      · obtain rfl : ad = ⟨b, off, none⟩ := by simpa using e
        obtain ⟨hj, hju⟩ := List.getElem?_eq_some_iff.1 hu
        simp only [List.length_map] at hj
        have := hc j hj
        have ea : (⟨b, off, none⟩ : Addr).add j = ⟨b, off + j, none⟩ := by
          simp only [Addr.add]; split
          · rename_i h; simp_all
          · rfl
        rw [ea, this, ← hju]
        simp [List.getD_eq_getElem?_getD, hj]
    · intro u hu
      obtain ⟨k, -, rfl⟩ := List.mem_map.1 hu
      rfl

/-- A slice of the call's own: the slice that it is. -/
theorem slice_of_own {w : World} {base : Nat} {v : Value} {l : List Bool} (h : w.ownsRow base 4 1 v l.length (l.map Value.bool)) : ∃ a cap, v = .slice a l.length cap ∧ SliceOf w a l.length cap l := by
  have h' := h
  obtain ⟨h1, h2⟩ := h
  rcases h2 with ⟨rfl, hn⟩ | ⟨g, cap, cur, rfl, hg, hh, hc1, hc2, hc3, hc4⟩
  · have hl := List.eq_nil_of_length_eq_zero hn
    subst hl
    exact ⟨none, 0, rfl, rfl, Nat.le_refl _, by unfold maxLen; omega, .inl rfl, fun _ => ⟨rfl, rfl⟩⟩
  · refine ⟨_, cap, rfl, rfl, hc1, hc2, .inr ⟨g, 0, rfl, (World.ownsRow.lt h' g rfl).2, fun j hj => ?_⟩, fun e => by simp at e⟩
    rw [Nat.zero_add, World.ownsRow.cellAt h' j (by omega)]
    simp [List.getD_eq_getElem?_getD, hj]

end Go.Proofs.YtpnjccomngdblaaGreat
end

section
/- The contracts of the document's own answers: Get, Same, Ones. -/
namespace Go.Proofs.YtpnjccomngdblaaGreat
open Go.RowKit
open M

/-- How many of the first i bits are 1 that stand from x on up to y. -/
def cntR (l : List Bool) (x y : Int) : Nat → Nat
  | 0 => 0
  | i + 1 => cntR l x y i + if x ≤ (i : Int) ∧ (i : Int) < y ∧ l.getD i false = true then 1 else 0

theorem cntR_le (l : List Bool) (x y : Int) (i : Nat) : cntR l x y i ≤ i := by
  induction i with
  | zero => simp [cntR]
  | succ i ih => simp only [cntR]; split <;> omega

theorem cntR_eq (l : List Bool) (x y : Int) (i : Nat) (hi' : i ≤ l.length) : cntR l x y i = cnt ((l.take (min i (hi l.length x y))).drop (lo l.length x)) := by
  induction i with
  | zero => simp [cntR, cnt]
  | succ i ih =>
    have ih := ih (by omega)
    have ha : lo l.length x ≤ l.length := by unfold lo; omega
    have hb : lo l.length x ≤ hi l.length x y ∧ hi l.length x y ≤ l.length := by unfold hi; omega
    have hiff : (x ≤ (i : Int) ∧ (i : Int) < y) ↔ (lo l.length x ≤ i ∧ i < hi l.length x y) := by unfold hi lo; omega
    simp only [cntR, ih]
    generalize lo l.length x = a at *
    generalize hi l.length x y = b at *
    by_cases h1 : i < b
    · rw [show min (i + 1) b = i + 1 by omega, show min i b = i by omega, take_snoc l i _ (by omega) rfl]
      by_cases h2 : a ≤ i
      · rw [List.drop_append_of_le_length (by simp; omega), cnt_append]
        have hc : x ≤ (i : Int) ∧ (i : Int) < y := hiff.2 ⟨h2, h1⟩
        simp only [hc.1, hc.2, true_and, cnt]
        simp
      · have e1 : (l.take i ++ [l.getD i false]).drop a = [] := List.drop_eq_nil_of_le (by simp; omega)
        have e2 : (l.take i).drop a = [] := List.drop_eq_nil_of_le (by simp; omega)
        rw [e1, e2]
        simp only [cnt, Nat.zero_add]
        have hc : ¬ (x ≤ (i : Int) ∧ (i : Int) < y) := fun h => h2 (hiff.1 h).1
        rw [if_neg (fun h => hc ⟨h.1, h.2.1⟩)]
    · rw [show min (i + 1) b = b by omega, show min i b = b by omega]
      have hc : ¬ (x ≤ (i : Int) ∧ (i : Int) < y) := fun h => h1 (hiff.1 h).2
      rw [if_neg (fun h => hc ⟨h.1, h.2.1⟩)]
      simp

theorem cntR_all (l : List Bool) (x y : Int) : cntR l x y l.length = onesN l x y := by
  have hb : hi l.length x y ≤ l.length := by unfold hi; omega
  rw [cntR_eq l x y l.length (by omega), show min l.length (hi l.length x y) = hi l.length x y by omega, List.drop_take]
  rfl

end Go.Proofs.YtpnjccomngdblaaGreat
end

section
/- The contracts of the document's own answers: Number, Bytes. -/
namespace Go.Proofs.YtpnjccomngdblaaGreat
open Go.RowKit
open M

theorem num_snoc (l : List Bool) (a i : Nat) (h : a + i < l.length) : num ((l.drop a).take (i + 1)) = num ((l.drop a).take i) + if l.getD (a + i) false = true then 2 ^ i else 0 := by
  rw [take_snoc (l.drop a) i _ (by simp; omega) rfl, num_append]
  have e : (l.drop a).getD i false = l.getD (a + i) false := by simp [List.getD_eq_getElem?_getD]
  rw [e]
  have hl : ((l.drop a).take i).length = i := by simp; omega
  rw [hl]
  simp only [num]
  split <;> simp

theorem num_take_lt (l : List Bool) (a i : Nat) : num ((l.drop a).take i) < 2 ^ i :=
  Nat.lt_of_lt_of_le (num_lt _) (Nat.pow_le_pow_right (by decide) (by simp; omega))

def pw (i : Nat) : Nat := 2 ^ i % 18446744073709551616

theorem pw_lt (i : Nat) : pw i < 18446744073709551616 := Nat.mod_lt _ (by decide)
theorem pw_eq (i : Nat) (h : i < 64) : pw i = 2 ^ i := Nat.mod_eq_of_lt (show 2 ^ i < 2 ^ 64 from Nat.pow_lt_pow_right (by decide) h)
theorem pw_succ (i : Nat) : IntKind.u64.wrap ((pw i : Int) * 2) = (pw (i + 1) : Int) := by
  rw [IntKind.wrap_u64]; unfold pw; rw [Nat.pow_succ]; omega
theorem pw_add (l : List Bool) (a i : Nat) (h : i < 64) : IntKind.u64.wrap ((num ((l.drop a).take i) : Int) + (pw i : Int)) = (num ((l.drop a).take i) : Int) + (pw i : Int) := by
  have h1 := num_take_lt l a i
  have h2 := pw_eq i h
  have h3 : (2 : Nat) ^ i * 2 ≤ 2 ^ 64 := by rw [← Nat.pow_succ]; exact Nat.pow_le_pow_right (by decide) (by omega)
  rw [IntKind.wrap_u64]; omega

/-- A bit behind: what becomes of the bytes. -/
theorem byt_snoc (l : List Bool) (b : Bool) (k : Nat) : byt (l ++ [b]) k = byt l k + if k = l.length / 8 ∧ b = true then 2 ^ (l.length % 8) else 0 := by
  unfold byt
  by_cases h1 : l.length < 8 * k
  · rw [List.drop_eq_nil_of_le (by simp; omega), List.drop_eq_nil_of_le (by omega), if_neg (by omega)]
    rfl
  · rw [List.drop_append_of_le_length (by omega)]
    by_cases h2 : 8 * k + 8 ≤ l.length
    · rw [List.take_append_of_le_length (by simp; omega), if_neg (by omega)]
      simp
    · have hl : (l.drop (8 * k)).length = l.length % 8 := by simp; omega
      rw [List.take_of_length_le (by simp; omega), List.take_of_length_le (by omega), num_append, hl]
      have hk : k = l.length / 8 := by omega
      simp only [num, hk, true_and]
      split <;> simp

theorem byt_snoc_lt (l : List Bool) (b : Bool) (k : Nat) (_h : b = true) : byt (l ++ [b]) k < 256 := byt_lt _ _

def byL (l : List Bool) (n : Nat) : List Value := (List.range n).map fun k => Value.int .u8 (byt l k : Nat)

theorem byL_set (l : List Bool) (n k : Nat) (hk : k = l.length / 8) : (byL l n).set k (.int .u8 (byt (l ++ [true]) k : Nat)) = byL (l ++ [true]) n := by
  apply List.ext_getElem
  · simp [byL]
  · intro j h1 h2
    simp only [byL, List.getElem_set, List.getElem_map, List.getElem_range]
    by_cases e : k = j
    · subst e; simp
    · simp only [e, if_false]
      rw [byt_snoc, if_neg (by omega)]
      simp

theorem byL_false (l : List Bool) (n : Nat) : byL (l ++ [false]) n = byL l n := by simp [byL, byt_snoc]

theorem byte_add (l : List Bool) (k q : Nat) (hk : k = l.length / 8) (hq : q = l.length % 8) : ((byt l k : Int) + 2 ^ q) % 256 = (byt (l ++ [true]) k : Int) := by
  have h := byt_snoc l true k
  rw [if_pos ⟨hk, rfl⟩, ← hq] at h
  have h2 := byt_lt (l ++ [true]) k
  have e : ((2 : Int) ^ q) = ((2 ^ q : Nat) : Int) := by simp
  rw [e]
  omega

end Go.Proofs.YtpnjccomngdblaaGreat
end

section
/- The contracts of Read and of the document's Read. -/
namespace Go.Proofs.YtpnjccomngdblaaGreat
open Go.RowKit
open M

/-- Byte k of a string. -/
def sB (s : ByteArray) (k : Nat) : Nat := (s.data.toList.getD k 0).toNat
theorem sB_lt (s : ByteArray) (k : Nat) : sB s k < 256 := UInt8.toNat_lt _
theorem sB_get (s : ByteArray) (k : Nat) (h : k < s.size) : s[k].toNat = sB s k := by
  have h2 : k < s.data.toList.length := by simpa using h
  simp only [sB, List.getD_eq_getElem?_getD, List.getElem?_eq_getElem h2, Option.getD_some]
  rfl

/-- The first n bits of a string. -/
def sBits (s : ByteArray) (n : Nat) : List Bool := (List.range n).map fun i => (sB s (i / 8)).testBit (i % 8)
theorem sBits_length (s : ByteArray) (n : Nat) : (sBits s n).length = n := by simp [sBits]
theorem sBits_getD (s : ByteArray) (n i : Nat) (h : i < n) : (sBits s n).getD i false = (sB s (i / 8)).testBit (i % 8) := by
  simp [sBits, List.getD_eq_getElem?_getD, h]

theorem bits8 (s : ByteArray) (i : Nat) : sBits s (8 * (i + 1)) = sBits s (8 * i) ++ bitsOf (sB s i) 8 := by
  apply List.ext_getElem
  · simp [sBits, bitsOf_length]; omega
  · intro j h1 h2
    simp only [sBits_length] at h1
    rw [List.getElem_append]
    by_cases hj : j < 8 * i
    · simp [sBits, hj]
    · have h3 := bitsOf_getD (sB s i) 8 (j - 8 * i) (by omega)
      simp only [sBits_length, hj, dif_neg, not_false_eq_true]
      have h4 : j - 8 * i < (bitsOf (sB s i) 8).length := by rw [bitsOf_length]; omega
      rw [List.getD_eq_getElem?_getD, List.getElem?_eq_getElem h4, Option.getD_some] at h3
      rw [h3]
      simp only [sBits, List.getElem_map, List.getElem_range]
      rw [show j / 8 = i by omega, show j % 8 = j - 8 * i by omega]

theorem num8 (s : ByteArray) (i : Nat) : num (bitsOf (sB s i) 8) = sB s i := num_bitsOf _ _ (sB_lt s i)

/-- No bit is 1 from n on, up to the last byte's end. -/
def Clean (s : ByteArray) (n : Nat) : Prop := n % 8 = 0 ∨ sB s (s.size - 1) / 2 ^ (n % 8) = 0

theorem clean_bits (s : ByteArray) (n : Nat) (h : s.size = p8 n) (hc : Clean s n) (i : Nat) (h1 : n ≤ i) (h2 : i < 8 * s.size) : (sB s (i / 8)).testBit (i % 8) = false := by
  unfold p8 at h
  rcases hc with hc | hc
  · omega
  · have e : i / 8 = s.size - 1 := by omega
    rw [e]
    have hlt : sB s (s.size - 1) < 2 ^ (n % 8) := by
      rcases Nat.lt_or_ge (sB s (s.size - 1)) (2 ^ (n % 8)) with h | h
      · exact h
      · have := Nat.div_pos h (Nat.pow_pos (by decide)); omega
    apply Nat.testBit_lt_two_pow
    exact Nat.lt_of_lt_of_le hlt (Nat.pow_le_pow_right (by decide) (by omega))

theorem wd_clean (s : ByteArray) (n k : Nat) (h : s.size = p8 n) (hc : Clean s n) : wd (sBits s (8 * s.size)) k = wd (sBits s n) k := by
  apply Nat.eq_of_testBit_eq
  intro j
  by_cases hj : j < 64
  · rw [wd_bit _ _ _ hj, wd_bit _ _ _ hj]
    by_cases h1 : 64 * k + j < n
    · rw [sBits_getD _ _ _ h1, sBits_getD _ _ _ (by unfold p8 at h; omega)]
    · rw [show (sBits s n).getD (64 * k + j) false = false by rw [List.getD_eq_getElem?_getD, List.getElem?_eq_none (by rw [sBits_length]; omega)]; rfl]
      by_cases h2 : 64 * k + j < 8 * s.size
      · rw [sBits_getD _ _ _ h2]; exact clean_bits s n h hc _ (by omega) h2
      · rw [List.getD_eq_getElem?_getD, List.getElem?_eq_none (by rw [sBits_length]; omega)]; rfl
  · rw [wd_bit_ge _ _ _ (by omega), wd_bit_ge _ _ _ (by omega)]

theorem wrapB (x : UInt8) : IntKind.u64.wrap (x.toNat : Int) = (x.toNat : Int) := wrapU _ (Nat.lt_trans x.toNat_lt (by decide))

/-- What holds while bytes are read. -/
def ReadI (w : World) (s : ByteArray) (m i : Nat) (wr : World) : Prop :=
  wr.ownsRow 0 103 1 (.slice (some ⟨w.heap.size + 1, 0, none⟩) m m) m (wlN (sBits s (8 * i)) m) ∧ wr.cell? ⟨w.heap.size, 0, none⟩ = some (.int .i64 0) ∧ wr.cell? ⟨w.heap.size, 1, none⟩ = some (.slice none 0 0) ∧
    wr.frozen? ⟨w.heap.size, 0, none⟩ = false ∧ wr.frozen? ⟨w.heap.size, 1, none⟩ = false ∧ Below w.heap.size w wr
theorem ReadI.drew {w wr : World} {s : ByteArray} {m i : Nat} (h : ReadI w s m i wr) : ReadI w s m i wr.drew := by
  obtain ⟨r1, r2, r3, r4, r5, r6⟩ := h
  exact ⟨r1, r2, r3, r4, r5, r6.drew⟩

end Go.Proofs.YtpnjccomngdblaaGreat
end

section
/- The contract of the document's Read. -/
namespace Go.Proofs.YtpnjccomngdblaaGreat
open Go.RowKit
open M

theorem bit8_eq (x j : Nat) (h : x < 256) : (bits .and .u8 ((x : Int) / 2 ^ j) 1 == 1) = x.testBit j := by
  have e : (x : Int) / 2 ^ j = ((x / 2 ^ j : Nat) : Int) := by
    rw [Int.natCast_ediv]; simp
  have hd : x / 2 ^ j < 256 := Nat.lt_of_le_of_lt (Nat.div_le_self _ _) h
  have e2 : bits .and .u8 ((x / 2 ^ j : Nat) : Int) 1 = ((x / 2 ^ j &&& 1 : Nat) : Int) := u8_and_nat _ 1 hd (by decide)
  rw [e, e2, Nat.and_one_is_mod, Nat.testBit_eq_decide_div_mod_eq]
  rw [Bool.eq_iff_iff]
  simp
  omega

theorem sBits_snoc (s : ByteArray) (i : Nat) : sBits s (i + 1) = sBits s i ++ [(sB s (i / 8)).testBit (i % 8)] := by
  simp [sBits, List.range_succ]

theorem byt_bit (l : List Bool) (k j : Nat) : (byt l k).testBit j = if j < 8 then l.getD (8 * k + j) false else false := by
  rw [byt, num_testBit]
  simp only [List.getD_eq_getElem?_getD, List.getElem?_take, List.getElem?_drop]
  split <;> simp

theorem byt_clean (s : ByteArray) (n k : Nat) (h : s.size = p8 n) (hc : Clean s n) (hk : k < s.size) : byt (sBits s n) k = sB s k := by
  apply Nat.eq_of_testBit_eq
  intro j
  rw [byt_bit]
  by_cases hj : j < 8
  · rw [if_pos hj]
    by_cases h1 : 8 * k + j < n
    · rw [sBits_getD _ _ _ h1, show (8 * k + j) / 8 = k by omega, show (8 * k + j) % 8 = j by omega]
    · have := clean_bits s n h hc (8 * k + j) (by omega) (by omega)
      rw [show (8 * k + j) / 8 = k by omega, show (8 * k + j) % 8 = j by omega] at this
      rw [this, List.getD_eq_getElem?_getD, List.getElem?_eq_none (by rw [sBits_length]; omega)]; rfl
  · rw [if_neg hj]
    symm
    apply Nat.testBit_lt_two_pow
    exact Nat.lt_of_lt_of_le (sB_lt s k) (show 2 ^ 8 ≤ 2 ^ j from Nat.pow_le_pow_right (by decide) (by omega))

theorem str_list (s : ByteArray) (xs : List Nat) (hx : ∀ x ∈ xs, x < 256) : strOfNums (xs.map fun k : Nat => (k : Int)) = s ↔ xs = (List.range s.size).map (sB s) := by
  have hsz : s.data.toList.length = s.size := by simp
  have hsl : s.data.toList.map (·.toNat) = (List.range s.size).map (sB s) := by
    apply List.ext_getElem
    · simp [hsz]
    · intro i h1 h2
      simp only [List.length_map] at h1
      simp [sB, List.getD_eq_getElem?_getD, List.getElem?_eq_getElem h1]
  have hmap : (strOfNums (xs.map fun k : Nat => (k : Int))).data.toList.map (·.toNat) = xs := by
    rw [strOfNums_data]
    simp only [List.map_map]
    apply List.ext_getElem
    · simp
    · intro i h1 h2
      simp only [List.getElem_map, Function.comp]
      have := hx xs[i] (List.getElem_mem _)
      simp [UInt8.toNat_ofNat', Nat.mod_eq_of_lt this]
  constructor
  · intro h
    rw [h, hsl] at hmap
    exact hmap.symm
  · intro h
    have e : (strOfNums (xs.map fun k : Nat => (k : Int))).data.toList.map (·.toNat) = s.data.toList.map (·.toNat) := by rw [hmap, hsl, h]
    have e2 : (strOfNums (xs.map fun k : Nat => (k : Int))).data.toList = s.data.toList := by
      apply List.ext_getElem
      · have := congrArg List.length e; simpa using this
      · intro i h1 h2
        have := congrArg (fun l => l[i]?) e
        simp only [List.getElem?_map, List.getElem?_eq_getElem h1, List.getElem?_eq_getElem h2, Option.map_some, Option.some.injEq] at this
        exact UInt8.toNat_inj.1 this
    have e3 : (strOfNums (xs.map fun k : Nat => (k : Int))).data = s.data := by
      apply Array.ext'
      exact e2
    cases s; cases hq : strOfNums (xs.map fun k : Nat => (k : Int))
    rw [hq] at e3
    simp only at e3
    rw [e3]

theorem clean_str (s : ByteArray) (n : Nat) (h : s.size = p8 n) : strOfNums (bytI (sBits s n) (p8 n)) = s ↔ Clean s n := by
  have e : bytI (sBits s n) (p8 n) = ((List.range (p8 n)).map (byt (sBits s n))).map fun k : Nat => (k : Int) := by simp [bytI]
  rw [e, str_list s _ (by
    intro x hx
    obtain ⟨k, -, rfl⟩ := List.mem_map.1 hx
    exact byt_lt _ _), ← h]
  constructor
  · intro hh
    by_cases h8 : n % 8 = 0
    · exact .inl h8
    · have hpos : 0 < s.size := by rw [h]; unfold p8; omega
      have := congrArg (fun l => l[s.size - 1]?) hh
      have hlt : s.size - 1 < s.size := by omega
      simp [hlt] at this
      right
      rw [← this]
      apply Nat.div_eq_of_lt
      have hn := num_lt (((sBits s n).drop (8 * (s.size - 1))).take 8)
      refine Nat.lt_of_lt_of_le hn (Nat.pow_le_pow_right (by decide) ?_)
      simp only [List.length_take, List.length_drop, sBits_length]
      unfold p8 at h
      omega
  · intro hc
    apply List.map_congr_left
    intro k hk
    exact byt_clean s n k h hc (by simpa using hk)

theorem toList_ne {A s : ByteArray} (h : A ≠ s) : (A.toList == s.toList) = false := by
  rw [beq_eq_false_iff_ne]
  intro e
  rw [ByteArray.toList_eq, ByteArray.toList_eq] at e
  have e2 : A.data = s.data := Array.ext' e
  cases A; cases s
  simp only at e2
  exact h (by rw [e2])

def RPost (n : Nat) (s : ByteArray) (w : World) (e : Ending) (w' : World) : Prop :=
  ((Clean s n ∧ ∃ a c, e = .returned (.tuple #[.slice a n c, .int .i64 0]) ∧ BoolsAt w' a (sBits s n)) ∨ (¬ Clean s n ∧ e = .returned (.tuple #[.slice none 0 0, .int .i64 10]))) ∧ Below w.heap.size w w'

end Go.Proofs.YtpnjccomngdblaaGreat
end

section
/- Facts for the walks of BitsBack and BitsBuilds: slices of numbers; a builder beside two rows of the call's own. -/
namespace Go.Proofs.YtpnjccomngdblaaGreat
open Go.RowKit
open M

/-- The numbers xs lie at a. -/
def NumsAt (k : IntKind) (w : World) (a : Option Addr) (xs : List Int) : Prop :=
  xs = [] ∨ ∃ b off, a = some ⟨b, off, none⟩ ∧ b < w.heap.size ∧ ∀ j, j < xs.length → w.cell? ⟨b, off + j, none⟩ = some (.int k (xs.getD j 0))

theorem NumsAt.kept {k : IntKind} {w w' : World} {a : Option Addr} {xs : List Int} (h : NumsAt k w a xs) (hb : Below w.heap.size w w') : NumsAt k w' a xs := by
  rcases h with h | ⟨b, off, h1, h2, h3⟩
  · exact .inl h
  · refine .inr ⟨b, off, h1, Nat.lt_of_lt_of_le h2 hb.size, fun j hj => ?_⟩
    rw [hb.cell (p := ⟨b, off + j, none⟩) h2]
    exact h3 j hj

theorem nums_in {H : Type} {enc : TypeId × Value → H} {W : World} {a0 : Option Addr} {len cap : Nat} {x : DataW H} {pl : List MemPlace} {t e : TypeId} {k : IntKind}
    (ht : Tryz.prog.underlying t = some (.slice e)) (he : Tryz.prog.underlying e = some (.int k)) (hc : Tryz.prog.cellsOf e = 1)
    (h : DataW.Trod enc Tryz.prog W 0 (fun _ => true) true t (.slice a0 len cap) x pl) : ∃ xs : List Int, xs.length = len ∧ len ≤ maxLen ∧ NumsAt k W a0 xs ∧ ∀ n ∈ xs, (Lit.int k n).wf = true := by
  obtain ⟨fuel, hf⟩ := h
  rcases Go.ChangeShapes.open_ints ht he hc hf with ⟨hcs, _⟩ | ⟨a, l, c, zs, hcs, _, hl, hm, hz, _, hcell, hwf⟩
  · simp [Value.cells] at hcs
    obtain ⟨rfl, rfl, rfl⟩ := hcs
    exact ⟨[], rfl, by unfold maxLen; omega, .inl rfl, by simp⟩
  · simp [Value.cells] at hcs
    obtain ⟨rfl, rfl, rfl⟩ := hcs
    simp only [if_true] at hz
    refine ⟨zs.take len, by simp; omega, by omega, ?_, fun n hn => hwf n (List.mem_of_mem_take hn)⟩
    by_cases h0 : len = 0
    · subst h0; exact .inl rfl
    · obtain ⟨b, off, spot⟩ := a
      have hc0 := hcell 0 (by omega)
      have hspot : spot = none := by simpa [Addr.add] using World.cell?_spot hc0
      subst hspot
      have hlt := World.block_lt_of_cell? W _ hc0
      refine .inr ⟨b, off, rfl, by simpa [Addr.add] using hlt, fun j hj => ?_⟩
      have hj' : j < len := by simp at hj; omega
      have := hcell j (by omega)
      simp only [Addr.add] at this
      have e : (⟨b, off + j, none⟩ : Addr) = if j = 0 then ⟨b, off, none⟩ else ⟨b, off + j, none⟩ := by split <;> simp_all
      rw [e]
      simpa [List.getD_eq_getElem?_getD, List.getElem?_take, hj'] using this

theorem own_kp {w w' : World} {X : Nat → Prop} {base : Nat} {e : TypeId} {z : Nat} {s : Value} {n : Nat} {xs : List Value} (h : w.ownsRow base e z s n xs) (hb : Kp X w w') (hx : ∀ k, s.ownBlock = some k → ¬ X k) : w'.ownsRow base e z s n xs := by
  obtain ⟨h1, h2⟩ := h
  refine ⟨h1, ?_⟩
  rcases h2 with h2 | ⟨g, cap, cur, rfl, hg, hh, r⟩
  · exact .inl h2
  · have hlt : g < w.heap.size := by
      rcases Nat.lt_or_ge g w.heap.size with h | h
      · exact h
      · rw [Array.getElem?_eq_none h] at hh; simp at hh
    exact .inr ⟨g, cap, cur, rfl, hg, by rw [hb.block g hlt (hx g rfl)]; exact hh, r⟩

theorem own_kept {w w' : World} {base : Nat} {e : TypeId} {z : Nat} {s : Value} {n : Nat} {xs : List Value} (h : w.ownsRow base e z s n xs) (hb : Below w.heap.size w w') : w'.ownsRow base e z s n xs :=
  own_kp (X := fun _ => False) h ⟨hb.os, hb.tape, hb.output, hb.size, fun k hk _ => hb.block k hk⟩ (fun _ _ => id)

theorem BuildAt.kp {X : Nat → Prop} {w w' : World} {pb : Nat} {s : Value} {l : List Bool} (h : BuildAt w pb s l) (hb : Kp X w w') (hp : ¬ X pb) (hx : ∀ k, s.ownBlock = some k → ¬ X k) : BuildAt w' pb s l := by
  have hlt := h.lt
  obtain ⟨b1, b2, b3, b4, b5, b6⟩ := h
  exact ⟨by rw [hb.cell (p := ⟨pb, 0, none⟩) hlt hp]; exact b1, by rw [hb.cell (p := ⟨pb, 1, none⟩) hlt hp]; exact b2, by rw [hb.frozen (p := ⟨pb, 0, none⟩) hlt hp]; exact b3, by rw [hb.frozen (p := ⟨pb, 1, none⟩) hlt hp]; exact b4, row_kp b5 hb hx, b6⟩

/-- The builder zb has the bits L; beside it two rows of the call's own, p and q, that share no memory with it. -/
def BG (w : World) (zb : Nat) (e7 e8 : TypeId) (v7 v8 : Value) (L : List Bool) (p q : List Value) (u : World) : Prop :=
  ∃ s, BuildAt u zb s L ∧ u.ownsRow (zb + 1) e7 1 v7 p.length p ∧ u.ownsRow (zb + 1) e8 1 v8 q.length q ∧ (∀ k, s.ownBlock = some k → zb < k ∧ v7.ownBlock ≠ some k ∧ v8.ownBlock ≠ some k) ∧
    (∀ k, v7.ownBlock = some k → v8.ownBlock ≠ some k) ∧ Below w.heap.size w u ∧ w.heap.size ≤ zb

theorem BG.kept {w u u' : World} {zb : Nat} {e7 e8 : TypeId} {v7 v8 : Value} {L : List Bool} {p q : List Value} (h : BG w zb e7 e8 v7 v8 L p q u) (hb : Below u.heap.size u u') : BG w zb e7 e8 v7 v8 L p q u' := by
  obtain ⟨s, h1, h2, h3, h4, h5, h6, h7⟩ := h
  exact ⟨s, h1.kept hb, own_kept h2 hb, own_kept h3 hb, h4, h5, h6.trans (hb.mono h6.size), h7⟩

theorem BG.alloc {w u : World} {zb : Nat} {e7 e8 : TypeId} {v7 v8 : Value} {L : List Bool} {p q : List Value} (h : BG w zb e7 e8 v7 v8 L p q u) (o : Obj) : BG w zb e7 e8 v7 v8 L p q (u.alloc o) := h.kept ((Below.refl _ _).alloc (Nat.le_refl _) _)

theorem BG.below {w u : World} {zb : Nat} {e7 e8 : TypeId} {v7 v8 : Value} {L : List Bool} {p q : List Value} (h : BG w zb e7 e8 v7 v8 L p q u) : Below w.heap.size w u := h.choose_spec.2.2.2.2.2.1

theorem BG.row7 {w u : World} {zb : Nat} {e7 e8 : TypeId} {v7 v8 : Value} {L : List Bool} {p q : List Value} (h : BG w zb e7 e8 v7 v8 L p q u) : u.ownsRow (zb + 1) e7 1 v7 p.length p := h.choose_spec.2.1
theorem BG.row8 {w u : World} {zb : Nat} {e7 e8 : TypeId} {v7 v8 : Value} {L : List Bool} {p q : List Value} (h : BG w zb e7 e8 v7 v8 L p q u) : u.ownsRow (zb + 1) e8 1 v8 q.length q := h.choose_spec.2.2.1
theorem BG.zlt {w u : World} {zb : Nat} {e7 e8 : TypeId} {v7 v8 : Value} {L : List Bool} {p q : List Value} (h : BG w zb e7 e8 v7 v8 L p q u) : zb < u.heap.size := h.choose_spec.1.lt

theorem BG.put {w u u' : World} {zb : Nat} {e7 e8 : TypeId} {v7 v8 s : Value} {L' : List Bool} {p q : List Value} (h2 : u.ownsRow (zb + 1) e7 1 v7 p.length p) (h3 : u.ownsRow (zb + 1) e8 1 v8 q.length q)
    (h4 : ∀ k, s.ownBlock = some k → zb < k ∧ v7.ownBlock ≠ some k ∧ v8.ownBlock ≠ some k) (h5 : ∀ k, v7.ownBlock = some k → v8.ownBlock ≠ some k) (h6 : Below w.heap.size w u) (h7 : w.heap.size ≤ zb) (hz : zb < u.heap.size)
    (hp : PutPost u zb s L' u') : BG w zb e7 e8 v7 v8 L' p q u' := by
  obtain ⟨s', k1, k2, k3⟩ := hp
  have n7 : ∀ k, v7.ownBlock = some k → ¬ PX zb s k := by
    rintro k hk (e | e)
    · have := (h2.lt k hk).1; omega
    · exact (h4 k e).2.1 hk
  have n8 : ∀ k, v8.ownBlock = some k → ¬ PX zb s k := by
    rintro k hk (e | e)
    · have := (h3.lt k hk).1; omega
    · exact (h4 k e).2.2 hk
  refine ⟨s', k1, own_kp h2 k3 n7, own_kp h3 k3 n8, ?_, h5, h6.trans (k3.toBelow h6.size ?_), h7⟩
  · intro k hk
    rcases k2 k hk with e | e
    · exact h4 k e
    · refine ⟨by omega, fun e7 => ?_, fun e8 => ?_⟩
      · have := (h2.lt k e7).2; omega
      · have := (h3.lt k e8).2; omega
  · rintro k hk (e | e)
    · omega
    · have := (h4 k e).1; omega

theorem put_bg {w u : World} {zb : Nat} {e7 e8 : TypeId} {v7 v8 : Value} {L bs : List Bool} {p q : List Value} (h : BG w zb e7 e8 v7 v8 L p q u) (x : Int) (n : Nat) (hx : x = (num bs : Int)) (hn : bs.length = n) (hn64 : n ≤ 64) (hl : L.length ≤ 10000) :
    Calls Tryz.prog 158 #[.pointer (some ⟨zb, 0, none⟩), .int .u64 x, .int .i64 (n : Int)] u fun e w' => e = .returned (.int .i64 0) ∧ BG w zb e7 e8 v7 v8 (L ++ bs) p q w' := by
  obtain ⟨s, h1, h2, h3, h4, h5, h6, h7⟩ := h
  obtain ⟨a, m, c, rfl⟩ := h1.form
  refine (put_ok zb a m c L bs x n u h1 hx hn hn64 (by omega)).mono ?_
  rintro e u' ⟨rfl, hp⟩
  exact ⟨rfl, BG.put h2 h3 h4 h5 h6 h7 h1.lt hp⟩

theorem bits_bg {w u : World} {zb : Nat} {e7 e8 : TypeId} {v7 v8 : Value} {L : List Bool} {p q : List Value} (h : BG w zb e7 e8 v7 v8 L p q u) (hl : L.length ≤ 10000) :
    Calls Tryz.prog 159 #[.pointer (some ⟨zb, 0, none⟩)] u fun e w' => e = .returned (.agg #[.int .i64 (L.length : Int), .slice (some ⟨u.heap.size + 1, 0, none⟩) (nw L.length) (nw L.length)]) ∧
      RowAt w' (.slice (some ⟨u.heap.size + 1, 0, none⟩) (nw L.length) (nw L.length)) L ∧ BG w zb e7 e8 v7 v8 L p q w' ∧ Below u.heap.size u w' := by
  obtain ⟨s, h1, hr⟩ := id h
  obtain ⟨a, m, c, rfl⟩ := h1.form
  exact (bits_any zb a m c L u h1 (by omega)).mono fun e w' hh => ⟨hh.1, hh.2.1, h.kept hh.2.2, hh.2.2⟩

theorem BG.app7 {w u u' : World} {zb : Nat} {e7 e8 : TypeId} {v7 v8 v7' : Value} {L : List Bool} {p p' q : List Value} (h : BG w zb e7 e8 v7 v8 L p q u) (hown : u'.ownsRow (zb + 1) e7 1 v7' p'.length p')
    (hg : u.grownBy u' v7.ownBlock) (hat : v7'.ownBlock = v7.ownBlock ∨ v7'.ownBlock = some u.heap.size) : BG w zb e7 e8 v7' v8 L p' q u' := by
  obtain ⟨s, h1, h2, h3, h4, h5, h6, h7⟩ := h
  have hz := h1.lt
  have hk : Kp (fun k => v7.ownBlock = some k) u u' := (Kp.refl _ u).grown hg (fun k hk _ => hk)
  refine ⟨s, h1.kp hk (fun e => ?_) (fun k hk e => (h4 k hk).2.1 e), hown, own_kp h3 hk (fun k hk e => h5 k e hk), ?_, ?_, h6.trans (hk.toBelow h6.size ?_), h7⟩
  · have := (h2.lt zb e).1; omega
  · intro k hk
    refine ⟨(h4 k hk).1, fun e => ?_, (h4 k hk).2.2⟩
    rcases hat with ha | ha
    · exact (h4 k hk).2.1 (ha ▸ e)
    · rw [ha] at e; have := row_lt h1.2.2.2.2.1 k hk; simp at e; omega
  · intro k hk e
    rcases hat with ha | ha
    · exact h5 k (ha ▸ hk) e
    · rw [ha] at hk; have := (h3.lt k e).2; simp at hk; omega
  · intro k hk e
    have := (h2.lt k e).1; omega

theorem BG.app8 {w u u' : World} {zb : Nat} {e7 e8 : TypeId} {v7 v8 v8' : Value} {L : List Bool} {p q q' : List Value} (h : BG w zb e7 e8 v7 v8 L p q u) (hown : u'.ownsRow (zb + 1) e8 1 v8' q'.length q')
    (hg : u.grownBy u' v8.ownBlock) (hat : v8'.ownBlock = v8.ownBlock ∨ v8'.ownBlock = some u.heap.size) : BG w zb e7 e8 v7 v8' L p q' u' := by
  obtain ⟨s, h1, h2, h3, h4, h5, h6, h7⟩ := h
  have hz := h1.lt
  have hk : Kp (fun k => v8.ownBlock = some k) u u' := (Kp.refl _ u).grown hg (fun k hk _ => hk)
  refine ⟨s, h1.kp hk (fun e => ?_) (fun k hk e => (h4 k hk).2.2 e), own_kp h2 hk (fun k hk e => h5 k hk e), hown, ?_, ?_, h6.trans (hk.toBelow h6.size ?_), h7⟩
  · have := (h3.lt zb e).1; omega
  · intro k hk
    refine ⟨(h4 k hk).1, (h4 k hk).2.1, fun e => ?_⟩
    rcases hat with ha | ha
    · exact (h4 k hk).2.2 (ha ▸ e)
    · rw [ha] at e; have := row_lt h1.2.2.2.2.1 k hk; simp at e; omega
  · intro k hk e
    rcases hat with ha | ha
    · exact h5 k hk (ha ▸ e)
    · rw [ha] at e; have := (h2.lt k hk).2; simp at e; omega
  · intro k hk e
    have := (h3.lt k e).1; omega

theorem BG.start {w u : World} {zb : Nat} (e7 e8 : TypeId) (h : BuildAt u zb (.slice none 0 0) []) (hb : Below w.heap.size w u) (hz : w.heap.size ≤ zb) : BG w zb e7 e8 (.slice none 0 0) (.slice none 0 0) [] [] [] u :=
  ⟨_, h, World.ownsRow_nil _ _ _ _, World.ownsRow_nil _ _ _ _, fun k hk => by simp [Value.ownBlock] at hk, fun k hk => by simp [Value.ownBlock] at hk, hb, hz⟩

/-- The bytes of a row, read again. -/
theorem back_str (l : List Bool) : (strOfNums (bytI l (p8 l.length))).size = p8 l.length ∧ sBits (strOfNums (bytI l (p8 l.length))) l.length = l ∧ Clean (strOfNums (bytI l (p8 l.length))) l.length := by
  have e : bytI l (p8 l.length) = ((List.range (p8 l.length)).map (byt l)).map fun k : Nat => (k : Int) := by simp [bytI]
  have hS := (str_list (strOfNums (bytI l (p8 l.length))) ((List.range (p8 l.length)).map (byt l)) (by
    intro x hx
    obtain ⟨k, -, rfl⟩ := List.mem_map.1 hx
    exact byt_lt _ _)).1 (by rw [← e])
  have hsz : (strOfNums (bytI l (p8 l.length))).size = p8 l.length := by
    have := congrArg List.length hS
    simpa using this.symm
  rw [hsz] at hS
  have hb : ∀ k, k < p8 l.length → sB (strOfNums (bytI l (p8 l.length))) k = byt l k := by
    intro k hk
    have := congrArg (fun x => x[k]?) hS
    simpa [hk] using this.symm
  have hbits : sBits (strOfNums (bytI l (p8 l.length))) l.length = l := by
    apply List.ext_getElem
    · rw [sBits_length]
    · intro i h1 h2
      have hi8 : i / 8 < p8 l.length := by unfold p8; omega
      simp only [sBits, List.getElem_map, List.getElem_range]
      rw [hb _ hi8, byt_bit, if_pos (by omega), show 8 * (i / 8) + i % 8 = i by omega]
      simp [List.getD_eq_getElem?_getD, h2]
  refine ⟨hsz, hbits, ?_⟩
  rw [← clean_str _ _ hsz, hbits]

theorem flat_step (bs : List (List Bool)) (i : Nat) (h : i < bs.length) :
    ((bs.flatten).drop ((bs.take i).flatten.length)).take (bs.getD i []).length = bs.getD i [] ∧ (bs.take (i + 1)).flatten.length = (bs.take i).flatten.length + (bs.getD i []).length ∧ (bs.take i).flatten.length + (bs.getD i []).length ≤ bs.flatten.length := by
  have hg : bs.getD i [] = bs[i] := by simp [List.getD_eq_getElem?_getD, h]
  have e : bs = bs.take i ++ bs[i] :: bs.drop (i + 1) := by
    rw [← List.drop_eq_getElem_cons h, List.take_append_drop]
  have ef : bs.flatten = (bs.take i).flatten ++ (bs[i] ++ (bs.drop (i + 1)).flatten) := by
    have := congrArg List.flatten e
    rw [List.flatten_append, List.flatten_cons] at this
    exact this
  refine ⟨?_, ?_, ?_⟩
  · rw [hg, ef]; simp
  · rw [List.take_succ_eq_append_getElem h, hg, List.flatten_append, List.length_append]
    simp only [List.flatten_cons, List.flatten_nil, List.append_nil]
  · rw [hg, ef]; simp

theorem flat_le (bs : List (List Bool)) (h : ∀ b ∈ bs, b.length ≤ 64) : bs.flatten.length ≤ 64 * bs.length := by
  induction bs with
  | nil => simp
  | cons b bs ih =>
    have h1 := h b (by simp)
    have h2 := ih (fun x hx => h x (by simp [hx]))
    simp only [List.flatten_cons, List.length_append, List.length_cons]
    omega

end Go.Proofs.YtpnjccomngdblaaGreat
end

section
/- Facts for the walk of BitsBuilds: a script's calls; the contract of the document's Put; a builder, two slices of bits and a row in its box, apart from each other. -/
namespace Go.Proofs.YtpnjccomngdblaaGreat
open Go.RowKit
open M

/-- The calls os lie at a, three cells each. -/
def OpsAt (w : World) (a : Option Addr) (os : List (Bool × Int × Int)) : Prop :=
  os = [] ∨ ∃ b off, a = some ⟨b, off, none⟩ ∧ b < w.heap.size ∧ ∀ j, j < os.length → w.cell? ⟨b, off + j * 3, none⟩ = some (.bool (os.getD j (false, 0, 0)).1) ∧
    w.cell? ⟨b, off + j * 3 + 1, none⟩ = some (.int .u64 (os.getD j (false, 0, 0)).2.1) ∧ w.cell? ⟨b, off + j * 3 + 2, none⟩ = some (.int .i64 (os.getD j (false, 0, 0)).2.2)

theorem OpsAt.kept {w w' : World} {a : Option Addr} {os : List (Bool × Int × Int)} (h : OpsAt w a os) (hb : Below w.heap.size w w') : OpsAt w' a os := by
  rcases h with h | ⟨b, off, h1, h2, h3⟩
  · exact .inl h
  · refine .inr ⟨b, off, h1, Nat.lt_of_lt_of_le h2 hb.size, fun j hj => ?_⟩
    rw [hb.cell (p := ⟨b, off + j * 3, none⟩) h2, hb.cell (p := ⟨b, off + j * 3 + 1, none⟩) h2, hb.cell (p := ⟨b, off + j * 3 + 2, none⟩) h2]
    exact h3 j hj

theorem cellsOf3 : Tryz.prog.cellsOf 3 = 1 := by kernel_rfl
theorem cellsOf34 : Tryz.prog.cellsOf 103 = 1 := by kernel_rfl

theorem add_mk (b off j : Nat) : (⟨b, off, none⟩ : Addr).add j = ⟨b, off + j, none⟩ := by
  simp only [Addr.add]; split
  · rename_i h; simp_all
  · rfl

theorem bitsOf_snoc (x i : Nat) : bitsOf x (i + 1) = bitsOf x i ++ [x.testBit i] := by
  apply List.ext_getElem
  · simp [bitsOf_length]
  · intro j h1 h2
    rw [bitsOf_length] at h1
    have e1 := bitsOf_getD x (i + 1) j h1
    rw [List.getD_eq_getElem?_getD, List.getElem?_eq_getElem (by rw [bitsOf_length]; exact h1), Option.getD_some] at e1
    rw [e1, List.getElem_append]
    split
    · rename_i h3
      rw [bitsOf_length] at h3
      have e2 := bitsOf_getD x i j h3
      rw [List.getD_eq_getElem?_getD, List.getElem?_eq_getElem (by rw [bitsOf_length]; exact h3), Option.getD_some] at e2
      exact e2.symm
    · rename_i h3
      rw [bitsOf_length] at h3
      obtain rfl : j = i := by omega
      simp [bitsOf_length]

theorem own_mono {w : World} {base base' : Nat} {e : TypeId} {z : Nat} {s : Value} {n : Nat} {xs : List Value} (h : w.ownsRow base e z s n xs) (hb : base' ≤ base) : w.ownsRow base' e z s n xs :=
  ⟨h.1, h.2.imp id fun ⟨g, cap, cur, e1, hg, r⟩ => ⟨g, cap, cur, e1, Nat.le_trans hb hg, r⟩⟩

/-- Two values that have no block in common. -/
def Dj (a b : Value) : Prop := ∀ k, a.ownBlock = some k → b.ownBlock ≠ some k
theorem Dj.symm {a b : Value} (h : Dj a b) : Dj b a := fun k hb ha => h k ha hb
/-- a' has a's block, or one that b cannot have. -/
theorem Dj.fresh {a a' b : Value} {n : Nat} (h : Dj a b) (ha : ∀ k, a'.ownBlock = some k → a.ownBlock = some k ∨ n ≤ k) (hb : ∀ k, b.ownBlock = some k → k < n) : Dj a' b := by
  intro k hk e
  rcases ha k hk with e1 | e1
  · exact h k e1 e
  · have := hb k e; omega
theorem ne_fresh {a a' : Value} {n z : Nat} (h : a.ownBlock ≠ some z) (ha : ∀ k, a'.ownBlock = some k → a.ownBlock = some k ∨ n ≤ k) (hz : z < n) : a'.ownBlock ≠ some z := by
  intro e
  rcases ha z e with e1 | e1
  · exact h e1
  · omega

/-- The builder zb has the bits L, with its words at s; v5 is a slice with the bits P and v7 one with W, both the call's own; the box hb has the row R, with its words at hs. No two of them share memory. -/
structure HD (w : World) (zb hb : Nat) (v5 v7 : Value) (L P W R : List Bool) (s hs : Value) (u : World) : Prop where
  bld : BuildAt u zb s L
  r5 : u.ownsRow w.heap.size 4 1 v5 P.length (P.map Value.bool)
  r7 : u.ownsRow w.heap.size 4 1 v7 W.length (W.map Value.bool)
  bx : Bx u hb R.length hs
  z0 : u.frozen? ⟨hb, 0, none⟩ = false
  z1 : u.frozen? ⟨hb, 1, none⟩ = false
  row : RowAt u hs R
  sb : s.ownBlock ≠ some hb
  s5 : Dj s v5
  s7 : Dj s v7
  sh : Dj s hs
  sw : ∀ k, s.ownBlock = some k → w.heap.size ≤ k
  a5z : v5.ownBlock ≠ some zb
  a5b : v5.ownBlock ≠ some hb
  a57 : Dj v5 v7
  a5h : Dj v5 hs
  a7z : v7.ownBlock ≠ some zb
  a7b : v7.ownBlock ≠ some hb
  a7h : Dj v7 hs
  hz : hs.ownBlock ≠ some zb
  hb' : hs.ownBlock ≠ some hb
  zh : zb ≠ hb
  bel : Below w.heap.size w u
  wz : w.heap.size ≤ zb
  wh : w.heap.size ≤ hb

variable {w u u' : World} {zb hb : Nat} {v5 v7 s hs : Value} {L P W R : List Bool}

theorem HD.kept (h : HD w zb hb v5 v7 L P W R s hs u) (hb2 : Below u.heap.size u u') : HD w zb hb v5 v7 L P W R s hs u' :=
  { h with
    bld := h.bld.kept hb2
    r5 := own_kept h.r5 hb2
    r7 := own_kept h.r7 hb2
    bx := h.bx.kept hb2
    z0 := by rw [hb2.frozen (p := ⟨hb, 0, none⟩) h.bx.lt]; exact h.z0
    z1 := by rw [hb2.frozen (p := ⟨hb, 1, none⟩) h.bx.lt]; exact h.z1
    row := h.row.kept hb2
    bel := h.bel.trans (hb2.mono h.bel.size) }

theorem HD.alloc (h : HD w zb hb v5 v7 L P W R s hs u) (o : Obj) : HD w zb hb v5 v7 L P W R s hs (u.alloc o) := h.kept ((Below.refl _ _).alloc (Nat.le_refl _) _)

theorem HD.lt5 (h : HD w zb hb v5 v7 L P W R s hs u) : ∀ k, v5.ownBlock = some k → k < u.heap.size := fun k hk => (h.r5.lt k hk).2
theorem HD.lt7 (h : HD w zb hb v5 v7 L P W R s hs u) : ∀ k, v7.ownBlock = some k → k < u.heap.size := fun k hk => (h.r7.lt k hk).2
theorem HD.lth (h : HD w zb hb v5 v7 L P W R s hs u) : ∀ k, hs.ownBlock = some k → k < u.heap.size := row_lt h.row
theorem HD.lts (h : HD w zb hb v5 v7 L P W R s hs u) : ∀ k, s.ownBlock = some k → k < u.heap.size := row_lt h.bld.2.2.2.2.1

theorem HD.put {L' : List Bool} (h : HD w zb hb v5 v7 L P W R s hs u) (hp : PutPost u zb s L' u') : ∃ s', HD w zb hb v5 v7 L' P W R s' hs u' := by
  obtain ⟨s', k1, k2, k3⟩ := hp
  have X5 : ∀ k, v5.ownBlock = some k → ¬ PX zb s k := by
    rintro k hk (rfl | e)
    · exact h.a5z hk
    · exact h.s5 k e hk
  have X7 : ∀ k, v7.ownBlock = some k → ¬ PX zb s k := by
    rintro k hk (rfl | e)
    · exact h.a7z hk
    · exact h.s7 k e hk
  have Xh : ∀ k, hs.ownBlock = some k → ¬ PX zb s k := by
    rintro k hk (rfl | e)
    · exact h.hz hk
    · exact h.sh k e hk
  have Xb : ¬ PX zb s hb := by
    rintro (e | e)
    · exact h.zh e.symm
    · exact h.sb e
  refine ⟨s', { h with
    bld := k1
    r5 := own_kp h.r5 k3 X5
    r7 := own_kp h.r7 k3 X7
    bx := h.bx.kp k3 Xb
    z0 := by rw [k3.frozen (p := ⟨hb, 0, none⟩) h.bx.lt Xb]; exact h.z0
    z1 := by rw [k3.frozen (p := ⟨hb, 1, none⟩) h.bx.lt Xb]; exact h.z1
    row := row_kp h.row k3 Xh
    sb := ne_fresh h.sb k2 h.bx.lt
    s5 := h.s5.fresh k2 h.lt5
    s7 := h.s7.fresh k2 h.lt7
    sh := h.sh.fresh k2 h.lth
    sw := ?_
    bel := h.bel.trans (k3.toBelow h.bel.size ?_) }⟩
  · intro k hk
    rcases k2 k hk with e | e
    · exact h.sw k e
    · have := h.bel.size; omega
  · rintro k hk (e | e)
    · have := h.wz; omega
    · have := h.sw k e; omega

/-- A new slice in v5's place. -/
theorem HD.new5 {v' : Value} {P' : List Bool} (h : HD w zb hb v5 v7 L P W R s hs u) (hown : u'.ownsRow u.heap.size 4 1 v' P'.length (P'.map Value.bool)) (hb2 : Below u.heap.size u u') : HD w zb hb v' v7 L P' W R s hs u' := by
  have hf : ∀ k, v'.ownBlock = some k → v5.ownBlock = some k ∨ u.heap.size ≤ k := fun k hk => .inr (hown.lt k hk).1
  have g := h.kept hb2
  exact { g with
    r5 := own_mono hown h.bel.size
    s5 := (h.s5.symm.fresh hf h.lts).symm
    a5z := ne_fresh h.a5z hf h.bld.lt
    a5b := ne_fresh h.a5b hf h.bx.lt
    a57 := h.a57.fresh hf h.lt7
    a5h := h.a5h.fresh hf h.lth }

theorem HD.app5 {v' : Value} {P' : List Bool} (h : HD w zb hb v5 v7 L P W R s hs u) (hown : u'.ownsRow w.heap.size 4 1 v' P'.length (P'.map Value.bool)) (hg : u.grownBy u' v5.ownBlock) (hat : v'.ownBlock = v5.ownBlock ∨ v'.ownBlock = some u.heap.size) : HD w zb hb v' v7 L P' W R s hs u' := by
  have hk : Kp (fun k => v5.ownBlock = some k) u u' := (Kp.refl _ u).grown hg (fun k hk _ => hk)
  have hf : ∀ k, v'.ownBlock = some k → v5.ownBlock = some k ∨ u.heap.size ≤ k := by
    intro k hk
    rcases hat with e | e
    · exact .inl (e ▸ hk)
    · rw [e] at hk; simp at hk; exact .inr (by omega)
  exact { h with
    bld := h.bld.kp hk h.a5z (fun k e e5 => h.s5 k e e5)
    r5 := hown
    r7 := own_kp h.r7 hk (fun k e e5 => h.a57 k e5 e)
    bx := h.bx.kp hk h.a5b
    z0 := by rw [hk.frozen (p := ⟨hb, 0, none⟩) h.bx.lt h.a5b]; exact h.z0
    z1 := by rw [hk.frozen (p := ⟨hb, 1, none⟩) h.bx.lt h.a5b]; exact h.z1
    row := row_kp h.row hk (fun k e e5 => h.a5h k e5 e)
    s5 := (h.s5.symm.fresh hf h.lts).symm
    a5z := ne_fresh h.a5z hf h.bld.lt
    a5b := ne_fresh h.a5b hf h.bx.lt
    a57 := h.a57.fresh hf h.lt7
    a5h := h.a5h.fresh hf h.lth
    bel := h.bel.trans (hk.toBelow h.bel.size (fun k hlt e => by have := (h.r5.lt k e).1; omega)) }

theorem HD.app7 {v' : Value} {W' : List Bool} (h : HD w zb hb v5 v7 L P W R s hs u) (hown : u'.ownsRow w.heap.size 4 1 v' W'.length (W'.map Value.bool)) (hg : u.grownBy u' v7.ownBlock) (hat : v'.ownBlock = v7.ownBlock ∨ v'.ownBlock = some u.heap.size) : HD w zb hb v5 v' L P W' R s hs u' := by
  have hk : Kp (fun k => v7.ownBlock = some k) u u' := (Kp.refl _ u).grown hg (fun k hk _ => hk)
  have hf : ∀ k, v'.ownBlock = some k → v7.ownBlock = some k ∨ u.heap.size ≤ k := by
    intro k hk
    rcases hat with e | e
    · exact .inl (e ▸ hk)
    · rw [e] at hk; simp at hk; exact .inr (by omega)
  exact { h with
    bld := h.bld.kp hk h.a7z (fun k e e7 => h.s7 k e e7)
    r5 := own_kp h.r5 hk (fun k e e7 => h.a57 k e e7)
    r7 := hown
    bx := h.bx.kp hk h.a7b
    z0 := by rw [hk.frozen (p := ⟨hb, 0, none⟩) h.bx.lt h.a7b]; exact h.z0
    z1 := by rw [hk.frozen (p := ⟨hb, 1, none⟩) h.bx.lt h.a7b]; exact h.z1
    row := row_kp h.row hk (fun k e e7 => h.a7h k e7 e)
    s7 := (h.s7.symm.fresh hf h.lts).symm
    a57 := (h.a57.symm.fresh hf h.lt5).symm
    a7z := ne_fresh h.a7z hf h.bld.lt
    a7b := ne_fresh h.a7b hf h.bx.lt
    a7h := h.a7h.fresh hf h.lth
    bel := h.bel.trans (hk.toBelow h.bel.size (fun k hlt e => by have := (h.r7.lt k e).1; omega)) }

/-- A new row in the box. -/
theorem HD.seth {hs' : Value} {R' : List Bool} (h : HD w zb hb v5 v7 L P W R s hs u) (hrow : RowAt u' hs' R') (hb2 : Below u.heap.size u u') (hf : ∀ k, hs'.ownBlock = some k → u.heap.size ≤ k) :
    HD w zb hb v5 v7 L P W R' s hs' ((u'.setCell ⟨hb, 0, none⟩ (.int .i64 (R'.length : Int))).setCell ⟨hb, 1, none⟩ hs') := by
  have g := h.kept hb2
  have hk : Kp (fun k => k = hb) u' ((u'.setCell ⟨hb, 0, none⟩ (.int .i64 (R'.length : Int))).setCell ⟨hb, 1, none⟩ hs') := Kp.setCell (p := ⟨hb, 1, none⟩) (Kp.setCell (p := ⟨hb, 0, none⟩) (Kp.refl (fun k => k = hb) u') (.inl rfl) _) (.inl rfl) _
  have c1 : (u'.setCell ⟨hb, 0, none⟩ (.int .i64 (R'.length : Int))).cell? ⟨hb, 1, none⟩ = some hs := by
    rw [World.cell?_setCell_other _ _ _ _ (by simp)]; exact g.bx.2
  have hlt := h.bx.lt
  have hne : ∀ {a : Value}, (∀ k, a.ownBlock = some k → k < u.heap.size) → Dj a hs' := fun ha k e1 e2 => by
    have := ha k e1; have := hf k e2; omega
  exact { g with
    bld := g.bld.kp hk h.zh (fun k e ek => h.sb (ek ▸ e))
    r5 := own_kp g.r5 hk (fun k e ek => h.a5b (ek ▸ e))
    r7 := own_kp g.r7 hk (fun k e ek => h.a7b (ek ▸ e))
    bx := ⟨by rw [World.cell?_setCell_other _ _ _ _ (by simp)]; exact World.cell?_setCell_same' _ _ _ (by rw [g.bx.1]; rfl), World.cell?_setCell_same' _ _ _ (by rw [c1]; rfl)⟩
    z0 := by simpa using g.z0
    z1 := by simpa using g.z1
    row := row_kp hrow hk (fun k e ek => by have := hf k e; omega)
    sh := hne h.lts
    a5h := hne h.lt5
    a7h := hne h.lt7
    hz := fun e => by have := hf _ e; have := h.bld.lt; omega
    hb' := fun e => by have := hf _ e; omega
    bel := g.bel.trans (hk.toBelow g.bel.size (fun k hk2 e => by have := h.wh; omega)) }

theorem HD.start (hB : BuildAt u zb (.slice none 0 0) []) (hbel : Below w.heap.size w u) (hz : w.heap.size ≤ zb) : HD w zb u.heap.size (.slice none 0 0) (.slice none 0 0) [] [] [] [] (.slice none 0 0) (.slice none 0 0) (u.alloc (.cells #[.int .i64 0, .slice none 0 0] 31)) := by
  have hal : Below u.heap.size u (u.alloc (.cells #[.int .i64 0, .slice none 0 0] 31)) := (Below.refl _ _).alloc (Nat.le_refl _) _
  have hlt := hB.lt
  have hd : ∀ a : Value, Dj (.slice none 0 0) a := fun a k e => by simp [Value.ownBlock] at e
  have hn : ∀ n : Nat, (Value.slice none 0 0).ownBlock ≠ some n := fun n e => by simp [Value.ownBlock] at e
  exact ⟨hB.kept hal, World.ownsRow_nil _ _ _ _, World.ownsRow_nil _ _ _ _, Bx.new u 0 _, by simp, by simp, Row_nil _, hn _, hd _, hd _, hd _, fun k e => absurd e (hn k), hn _, hn _, hd _, hd _, hn _, hn _, hd _, hn _, hn _, by omega, hbel.trans (hal.mono hbel.size), hz, hbel.size⟩

theorem put_hd (h : HD w zb hb v5 v7 L P W R s hs u) (bs : List Bool) (x : Int) (n : Nat) (hx : x = (num bs : Int)) (hn : bs.length = n) (hn64 : n ≤ 64) (hl : L.length ≤ 10000) :
    Calls Tryz.prog 158 #[.pointer (some ⟨zb, 0, none⟩), .int .u64 x, .int .i64 (n : Int)] u fun e w' => e = .returned (.int .i64 0) ∧ ∃ s', HD w zb hb v5 v7 (L ++ bs) P W R s' hs w' := by
  obtain ⟨a, m, c, rfl⟩ := h.bld.form
  exact (put_ok zb a m c L bs x n u h.bld hx hn hn64 (by omega)).mono fun e u' hh => ⟨hh.1, h.put hh.2⟩

theorem bits_hd (h : HD w zb hb v5 v7 L P W R s hs u) (N g : Nat) (hN : L.length = N) (hl : N ≤ 10000) (hg : u.heap.size + 1 = g) :
    Calls Tryz.prog 159 #[.pointer (some ⟨zb, 0, none⟩)] u fun e w' => e = .returned (.agg #[.int .i64 (N : Int), .slice (some ⟨g, 0, none⟩) (nw N) (nw N)]) ∧
      RowAt w' (.slice (some ⟨g, 0, none⟩) (nw N) (nw N)) L ∧ Below u.heap.size u w' := by
  subst hN hg
  obtain ⟨a, m, c, rfl⟩ := h.bld.form
  exact bits_any zb a m c L u h.bld (by omega)

/-- A call's own copy of one of the script's calls. -/
def Ox (ob : Nat) (b : Bool) (x y : Int) (u : World) : Prop := u.cell? ⟨ob, 0, none⟩ = some (.bool b) ∧ u.cell? ⟨ob, 1, none⟩ = some (.int .u64 x) ∧ u.cell? ⟨ob, 2, none⟩ = some (.int .i64 y)
theorem Ox.lt {ob : Nat} {b : Bool} {x y : Int} {u : World} (h : Ox ob b x y u) : ob < u.heap.size := World.block_lt_of_cell? u _ h.1
theorem Ox.kp {X : Nat → Prop} {ob : Nat} {b : Bool} {x y : Int} {u u' : World} (h : Ox ob b x y u) (hb : Kp X u u') (hx : ¬ X ob) : Ox ob b x y u' :=
  ⟨by rw [hb.cell (p := ⟨ob, 0, none⟩) h.lt hx]; exact h.1, by rw [hb.cell (p := ⟨ob, 1, none⟩) h.lt hx]; exact h.2.1, by rw [hb.cell (p := ⟨ob, 2, none⟩) h.lt hx]; exact h.2.2⟩
theorem Ox.kept {ob : Nat} {b : Bool} {x y : Int} {u u' : World} (h : Ox ob b x y u) (hb : Below u.heap.size u u') : Ox ob b x y u' :=
  h.kp (X := fun _ => False) ⟨hb.os, hb.tape, hb.output, hb.size, fun k hk _ => hb.block k hk⟩ id
end Go.Proofs.YtpnjccomngdblaaGreat
end
