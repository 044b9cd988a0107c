/- Counting side by side in ever wider fields of a word tells how many of its bits are 1: plain numbers, no program is named here. -/
import Derived.Test.YtfhlcclbjagdmaaM
namespace Go.Proofs.Ytfhlcclbjagdmaa.M

def val : List Nat → Nat
  | [] => 0
  | b :: r => b + 256 * val r

def msk (c : Nat) : Nat → Nat
  | 0 => 0
  | n + 1 => c + 256 * msk c n

theorem and256 (a c A C : Nat) (ha : a < 256) (hc : c < 256) : (a + 256 * A) &&& (c + 256 * C) = (a &&& c) + 256 * (A &&& C) := by
  have h1 : a &&& c < 2 ^ 8 := Nat.and_lt_two_pow _ hc
  apply Nat.eq_of_testBit_eq
  intro i
  have e := fun (x y : Nat) (h : x < 2 ^ 8) => Nat.testBit_two_pow_mul_add y h i
  rw [Nat.testBit_and, show a + 256 * A = 2 ^ 8 * A + a by omega, show c + 256 * C = 2 ^ 8 * C + c by omega, show (a &&& c) + 256 * (A &&& C) = 2 ^ 8 * (A &&& C) + (a &&& c) by omega,
    e a A ha, e c C hc, e _ _ h1]
  split <;> simp [Nat.testBit_and]

theorem half_byte : ∀ b, b < 256 → ∀ t, t < 2 → ((b / 2 + 128 * t) &&& 0x55) = ((b / 2) &&& 0x55) := by decide +kernel
theorem quarter_byte : ∀ b, b < 256 → ∀ t, t < 4 → ((b / 4 + 64 * t) &&& 0x33) = ((b / 4) &&& 0x33) := by decide +kernel
def s1 (b : Nat) : Nat := b - ((b / 2) &&& 0x55)
def s2 (b : Nat) : Nat := (s1 b &&& 0x33) + ((s1 b / 4) &&& 0x33)
def s3 (b : Nat) : Nat := (s2 b + s2 b / 16) &&& 0x0f
theorem f1_le : ∀ b, b < 256 → ((b / 2) &&& 0x55) ≤ b := by decide +kernel
theorem s1_lt : ∀ b, b < 256 → s1 b < 256 := by decide +kernel
theorem s2_le : ∀ b, b < 256 → s2 b ≤ 68 ∧ s2 b % 16 ≤ 4 := by decide +kernel
theorem nib_byte : ∀ b, b < 256 → ∀ t, t < 5 → ((s2 b + s2 b / 16 + 16 * t) &&& 0x0f) = s3 b := by decide +kernel

theorem step1 (bs : List Nat) (h : ∀ b ∈ bs, b < 256) : (val bs / 2) &&& msk 0x55 bs.length = val (bs.map fun b => (b / 2) &&& 0x55) := by
  induction bs with
  | nil => rfl
  | cons b r ih =>
    have hb := h b (by simp)
    have ih := ih fun x hx => h x (by simp [hx])
    simp only [val, msk, List.length_cons, List.map_cons]
    have e : (b + 256 * val r) / 2 = (b / 2 + 128 * (val r % 2)) + 256 * (val r / 2) := by omega
    rw [e, and256 _ _ _ _ (by omega) (by decide), half_byte b hb _ (by omega), ih]

theorem val_sub (bs : List Nat) (f : Nat → Nat) (h : ∀ b ∈ bs, f b ≤ b) : val (bs.map f) ≤ val bs ∧ val bs - val (bs.map f) = val (bs.map fun b => b - f b) := by
  induction bs with
  | nil => exact ⟨Nat.le_refl _, rfl⟩
  | cons b r ih =>
    have hb := h b (by simp)
    have ih := ih fun x hx => h x (by simp [hx])
    simp only [val, List.map_cons]
    omega

theorem val_add (bs : List Nat) (f g : Nat → Nat) : val (bs.map f) + val (bs.map g) = val (bs.map fun b => f b + g b) := by
  induction bs with
  | nil => rfl
  | cons b r ih => simp only [val, List.map_cons]; omega

theorem step2a (bs : List Nat) (h : ∀ b ∈ bs, b < 256) (c : Nat) (hc : c < 256) : val bs &&& msk c bs.length = val (bs.map fun b => b &&& c) := by
  induction bs with
  | nil => simp [val, msk]
  | cons b r ih =>
    have hb := h b (by simp)
    have ih := ih fun x hx => h x (by simp [hx])
    simp only [val, msk, List.length_cons, List.map_cons]
    rw [and256 _ _ _ _ hb hc, ih]

theorem step2b (bs : List Nat) (h : ∀ b ∈ bs, b < 256) : (val bs / 4) &&& msk 0x33 bs.length = val (bs.map fun b => (b / 4) &&& 0x33) := by
  induction bs with
  | nil => rfl
  | cons b r ih =>
    have hb := h b (by simp)
    have ih := ih fun x hx => h x (by simp [hx])
    simp only [val, msk, List.length_cons, List.map_cons]
    have e : (b + 256 * val r) / 4 = (b / 4 + 64 * (val r % 4)) + 256 * (val r / 4) := by omega
    rw [e, and256 _ _ _ _ (by omega) (by decide), quarter_byte b hb _ (by omega), ih]

theorem s2_nib (bs : List Nat) (h : ∀ b ∈ bs, b < 256) : val (bs.map s2) % 16 < 5 := by
  cases bs with
  | nil => decide
  | cons b r => have := s2_le b (h b (by simp)); simp only [val, List.map_cons]; omega

theorem step3 (bs : List Nat) (h : ∀ b ∈ bs, b < 256) : (val (bs.map s2) + val (bs.map s2) / 16) &&& msk 0x0f bs.length = val (bs.map s3) := by
  induction bs with
  | nil => rfl
  | cons b r ih =>
    have hb := h b (by simp)
    have h' : ∀ x ∈ r, x < 256 := fun x hx => h x (by simp [hx])
    have ih := ih h'
    have hn := s2_nib r h'
    have hs := s2_le b hb
    simp only [val, msk, List.length_cons, List.map_cons]
    have e : s2 b + 256 * val (r.map s2) + (s2 b + 256 * val (r.map s2)) / 16 = (s2 b + s2 b / 16 + 16 * (val (r.map s2) % 16)) + 256 * (val (r.map s2) + val (r.map s2) / 16) := by omega
    rw [e, and256 _ _ _ _ (by omega) (by decide), nib_byte b hb _ hn, ih]

/-- The word, counted: as the program has it. -/
def swar (x : Nat) : Nat :=
  let y := x - ((x / 2) &&& 6148914691236517205)
  let z := (y &&& 3689348814741910323) + ((y / 4) &&& 3689348814741910323)
  let u := (z + z / 16) &&& 1085102592571150095
  u * 72340172838076673 % 18446744073709551616 / 72057594037927936

theorem msk55 : msk 0x55 8 = 6148914691236517205 := by decide
theorem msk33 : msk 0x33 8 = 3689348814741910323 := by decide
theorem msk0f : msk 0x0f 8 = 1085102592571150095 := by decide

theorem lt_val (bs : List Nat) (h : ∀ b ∈ bs, b < 256) : val bs < 256 ^ bs.length := by
  induction bs with
  | nil => decide
  | cons b r ih =>
    have hb := h b (by simp)
    have ih := ih fun x hx => h x (by simp [hx])
    simp only [val, List.length_cons, Nat.pow_succ]
    omega

theorem swar_vals (bs : List Nat) (hl : bs.length = 8) (h : ∀ b ∈ bs, b < 256) :
    ((val bs / 2) &&& 6148914691236517205 ≤ val bs ∧ val bs - ((val bs / 2) &&& 6148914691236517205) = val (bs.map s1)) ∧
    ((val (bs.map s1) &&& 3689348814741910323) + ((val (bs.map s1) / 4) &&& 3689348814741910323) = val (bs.map s2)) ∧
    ((val (bs.map s2) + val (bs.map s2) / 16) &&& 1085102592571150095 = val (bs.map s3)) := by
  have a1 := step1 bs h
  rw [hl, msk55] at a1
  have a2 := val_sub bs (fun b => (b / 2) &&& 0x55) fun b hb => f1_le b (h b hb)
  have h1 : ∀ b ∈ bs.map s1, b < 256 := by
    intro b hb
    obtain ⟨c, hc, rfl⟩ := List.mem_map.1 hb
    exact s1_lt c (h c hc)
  have a3 := step2a (bs.map s1) h1 0x33 (by decide)
  have a4 := step2b (bs.map s1) h1
  rw [List.length_map, hl, msk33] at a3 a4
  have a5 := step3 bs h
  rw [hl, msk0f] at a5
  refine ⟨⟨by rw [a1]; exact a2.1, by rw [a1]; exact a2.2⟩, ?_, a5⟩
  rw [a3, a4, List.map_map, List.map_map, val_add]
  rfl

theorem s3_le : ∀ b, b < 256 → s3 b ≤ 8 := by decide +kernel

theorem div_parts (Q S R : Nat) (hS : S < 256) (hR : R < 72057594037927936) : (18446744073709551616 * Q + 72057594037927936 * S + R) % 18446744073709551616 / 72057594037927936 = S := by omega

theorem mul_top (c0 c1 c2 c3 c4 c5 c6 c7 : Nat) (h0 : c0 ≤ 8) (h1 : c1 ≤ 8) (h2 : c2 ≤ 8) (h3 : c3 ≤ 8) (h4 : c4 ≤ 8) (h5 : c5 ≤ 8) (h6 : c6 ≤ 8) (h7 : c7 ≤ 8) :
    (c0 + 256 * (c1 + 256 * (c2 + 256 * (c3 + 256 * (c4 + 256 * (c5 + 256 * (c6 + 256 * (c7 + 256 * 0)))))))) * 72340172838076673 % 18446744073709551616 / 72057594037927936 = c0 + c1 + c2 + c3 + c4 + c5 + c6 + c7 := by
  have e : (c0 + 256 * (c1 + 256 * (c2 + 256 * (c3 + 256 * (c4 + 256 * (c5 + 256 * (c6 + 256 * (c7 + 256 * 0)))))))) * 72340172838076673 = 18446744073709551616 * (c1 + c2 + c3 + c4 + c5 + c6 + c7 + 256 * (c2 + c3 + c4 + c5 + c6 + c7) + 65536 * (c3 + c4 + c5 + c6 + c7) + 16777216 * (c4 + c5 + c6 + c7) + 4294967296 * (c5 + c6 + c7) + 1099511627776 * (c6 + c7) + 281474976710656 * (c7)) + 72057594037927936 * (c0 + c1 + c2 + c3 + c4 + c5 + c6 + c7) + (c0 + 256 * (c0 + c1) + 65536 * (c0 + c1 + c2) + 16777216 * (c0 + c1 + c2 + c3) + 4294967296 * (c0 + c1 + c2 + c3 + c4) + 1099511627776 * (c0 + c1 + c2 + c3 + c4 + c5) + 281474976710656 * (c0 + c1 + c2 + c3 + c4 + c5 + c6)) := by omega
  rw [e]
  exact div_parts _ _ _ (by omega) (by omega)

theorem swar_sum (b0 b1 b2 b3 b4 b5 b6 b7 : Nat) (h0 : b0 < 256) (h1 : b1 < 256) (h2 : b2 < 256) (h3 : b3 < 256) (h4 : b4 < 256) (h5 : b5 < 256) (h6 : b6 < 256) (h7 : b7 < 256) :
    swar (val [b0, b1, b2, b3, b4, b5, b6, b7]) = s3 b0 + s3 b1 + s3 b2 + s3 b3 + s3 b4 + s3 b5 + s3 b6 + s3 b7 := by
  have hv := swar_vals [b0, b1, b2, b3, b4, b5, b6, b7] rfl (by simp; omega)
  simp only [swar]
  rw [hv.1.2, hv.2.1, hv.2.2]
  have c0 := s3_le b0 h0
  have c1 := s3_le b1 h1
  have c2 := s3_le b2 h2
  have c3 := s3_le b3 h3
  have c4 := s3_le b4 h4
  have c5 := s3_le b5 h5
  have c6 := s3_le b6 h6
  have c7 := s3_le b7 h7
  simp only [List.map_cons, List.map_nil, val]
  exact mul_top (s3 b0) (s3 b1) (s3 b2) (s3 b3) (s3 b4) (s3 b5) (s3 b6) (s3 b7) c0 c1 c2 c3 c4 c5 c6 c7

theorem s3_num : ∀ a b c d e f g h : Bool, s3 (num [a, b, c, d, e, f, g, h]) = cnt [a, b, c, d, e, f, g, h] := by decide +kernel

theorem eight (l : List Bool) (h : l.length = 8) : s3 (num l) = cnt l ∧ num l < 256 := by
  refine ⟨?_, by have := num_lt l; rw [h] at this; exact this⟩
  match l, h with
  | [a, b, c, d, e, f, g, i], _ => exact s3_num a b c d e f g i

theorem num_eight (l : List Bool) (h : l.length = 64) :
    num l = val [num (l.take 8), num ((l.drop 8).take 8), num ((l.drop 16).take 8), num ((l.drop 24).take 8), num ((l.drop 32).take 8), num ((l.drop 40).take 8), num ((l.drop 48).take 8), num (l.drop 56)] ∧
    cnt l = cnt (l.take 8) + cnt ((l.drop 8).take 8) + cnt ((l.drop 16).take 8) + cnt ((l.drop 24).take 8) + cnt ((l.drop 32).take 8) + cnt ((l.drop 40).take 8) + cnt ((l.drop 48).take 8) + cnt (l.drop 56) := by
  have cut : ∀ k, k + 8 ≤ 64 → num (l.drop k) = num ((l.drop k).take 8) + 256 * num (l.drop (k + 8)) ∧ cnt (l.drop k) = cnt ((l.drop k).take 8) + cnt (l.drop (k + 8)) := by
    intro k hk
    have e : l.drop k = (l.drop k).take 8 ++ l.drop (k + 8) := by
      rw [← List.drop_drop, List.take_append_drop]
    have hlen : ((l.drop k).take 8).length = 8 := by simp; omega
    constructor
    · conv => lhs; rw [e]
      rw [num_append, hlen]
    · conv => lhs; rw [e]
      rw [cnt_append]
  have c0 := cut 0 (by omega)
  have c1 := cut 8 (by omega)
  have c2 := cut 16 (by omega)
  have c3 := cut 24 (by omega)
  have c4 := cut 32 (by omega)
  have c5 := cut 40 (by omega)
  have c6 := cut 48 (by omega)
  simp only [List.drop_zero, Nat.zero_add, Nat.reduceAdd] at c0 c1 c2 c3 c4 c5 c6
  simp only [val]
  omega

theorem swar_num (l : List Bool) (h : l.length = 64) : swar (num l) = cnt l := by
  obtain ⟨e1, e2⟩ := num_eight l h
  have k := fun i (hi : i + 8 ≤ 64) => eight ((l.drop i).take 8) (by simp; omega)
  have k0 := eight (l.take 8) (by simp; omega)
  have k7 := eight (l.drop 56) (by simp; omega)
  have k1 := k 8 (by omega)
  have k2 := k 16 (by omega)
  have k3 := k 24 (by omega)
  have k4 := k 32 (by omega)
  have k5 := k 40 (by omega)
  have k6 := k 48 (by omega)
  rw [e1, e2, swar_sum _ _ _ _ _ _ _ _ k0.2 k1.2 k2.2 k3.2 k4.2 k5.2 k6.2 k7.2, k0.1, k1.1, k2.1, k3.1, k4.1, k5.1, k6.1, k7.1]

/-- Of fewer bits. -/
theorem swar_few (l : List Bool) (h : l.length ≤ 64) : swar (num l) = cnt l := by
  have e : num (l ++ List.replicate (64 - l.length) false) = num l ∧ cnt (l ++ List.replicate (64 - l.length) false) = cnt l := by
    have z : ∀ n, num (List.replicate n false) = 0 ∧ cnt (List.replicate n false) = 0 := by
      intro n
      induction n with
      | zero => exact ⟨rfl, rfl⟩
      | succ n ih => simp [List.replicate_succ, num, cnt, ih]
    rw [num_append, cnt_append, (z _).1, (z _).2]
    simp
  rw [← e.1, swar_num _ (by simp; omega), e.2]

end Go.Proofs.Ytfhlcclbjagdmaa.M
