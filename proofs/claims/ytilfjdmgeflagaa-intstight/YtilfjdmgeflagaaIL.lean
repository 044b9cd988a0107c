/- The contract of Read. -/
import Derived.Test.YtilfjdmgeflagaaIK
namespace Go.Proofs.Ytilfjdmgeflagaa
open Go.RowKit
open M

theorem bitsOf_num (l : List Bool) : bitsOf (num l) l.length = l :=
  num_inj _ _ (bitsOf_length _ _) (num_bitsOf _ _ (num_lt l))

/-- The n numbers of W bits each that these bits are. -/
def numsOf : List Bool → Nat → Nat → List Int
  | _, 0, _ => []
  | l, n + 1, W => (num (l.take W) : Int) :: numsOf (l.drop W) n W

theorem numsOf_length (l : List Bool) (n W : Nat) : (numsOf l n W).length = n := by
  induction n generalizing l with
  | zero => rfl
  | succ n ih => simp [numsOf, ih]

theorem numsOf_row (l : List Bool) (n W : Nat) (h : l.length = n * W) : rowB (numsOf l n W) W = l := by
  induction n generalizing l with
  | zero => simp [numsOf, rowB]; exact List.eq_nil_of_length_eq_zero (by simpa using h)
  | succ n ih =>
    rw [Nat.succ_mul] at h
    have hl : (l.take W).length = W := by simp; omega
    have e := bitsOf_num (l.take W)
    rw [hl] at e
    rw [numsOf, rowB_cons, Int.toNat_natCast, e, ih (l.drop W) (by simp; omega), List.take_append_drop]

theorem numsOf_fits (l : List Bool) (n W : Nat) : Fits (numsOf l n W) W := by
  induction n generalizing l with
  | zero => intro x hx; simp [numsOf] at hx
  | succ n ih =>
    intro x hx
    rw [numsOf] at hx
    rcases List.mem_cons.1 hx with e | e
    · subst e
      have h1 : num (l.take W) < 2 ^ W := Nat.lt_of_lt_of_le (num_lt _) (Nat.pow_le_pow_right (by decide) (by simp; omega))
      have e2 : ((2 : Int) ^ W) = ((2 ^ W : Nat) : Int) := by simp
      rw [e2]
      omega
    · exact ih _ x e

theorem numsOf_at (l : List Bool) (n W i : Nat) (h : i < n) : (numsOf l n W).getD i 0 = (num ((l.drop (i * W)).take W) : Int) := by
  induction n generalizing l i with
  | zero => omega
  | succ n ih =>
    cases i with
    | zero => simp [numsOf]
    | succ i =>
      rw [numsOf, List.getD_cons_succ, ih (l.drop W) i (by omega), List.drop_drop, Nat.succ_mul, Nat.add_comm W]

/-- What Read's box is while it reads. -/
theorem rbox (w : World) : ∀ u, Below (w.alloc (.cells #[.int .i64 0, .int .i64 0, .int .i64 0, .slice none 0 0] 31)).heap.size (w.alloc (.cells #[.int .i64 0, .int .i64 0, .int .i64 0, .slice none 0 0] 31)) u → TG w none [] u :=
  fun _ hb => (TG.start w none [] (.inl rfl)).kept hb

set_option maxHeartbeats 1000000 in
theorem iread_arg (n y : Int) (s : ByteArray) (w : World) (h : ¬ (0 ≤ n ∧ n ≤ 16777216 ∧ 0 ≤ y ∧ y ≤ 62)) :
    Calls Try.prog 24 #[.int .i64 n, .int .i64 y, .string s] w fun e w' => e = .returned (.tuple #[noInts, .int .i64 10]) ∧ Below w.heap.size w w' := by
  by_cases h0 : n < 0
  · clear h
    go_enter Try.func24, Try.ntmps24
    go_wp2
    refine bodyPost_ret (v := .tuple #[noInts, .int .i64 10]) (by simp [results, Try.results24, go_sem, noInts]) rfl ⟨rfl, ?_⟩
    exact (Below.refl _ _).alloc (Nat.le_refl _) _
  · by_cases h1 : 16777216 < n
    · clear h
      go_enter Try.func24, Try.ntmps24
      go_wp2
      refine bodyPost_ret (v := .tuple #[noInts, .int .i64 10]) (by simp [results, Try.results24, go_sem, noInts]) rfl ⟨rfl, ?_⟩
      exact (Below.refl _ _).alloc (Nat.le_refl _) _
    · have hw := fun u => isWidth_any y u
      rw [decide_eq_false (by omega)] at hw
      have HW := Lib.hid hw
      clear hw h
      go_enter Try.func24, Try.ntmps24
      go_wp2_with fail
      refine (HW.out _).mono ?_
      rintro e w' ⟨rfl, rfl⟩
      go_wp2
      refine bodyPost_ret (v := .tuple #[noInts, .int .i64 10]) (by simp [results, Try.results24, go_sem, noInts]) rfl ⟨rfl, ?_⟩
      exact (Below.refl _ _).alloc (Nat.le_refl _) _

set_option maxHeartbeats 1000000 in
theorem iread_err (n W N : Nat) (s : ByteArray) (w : World) (hn : n ≤ 16777216) (hW : W ≤ 62) (hN : n * W = N)
    (hc : ∀ u, Calls Try.prog 38 #[.int .i64 (N : Int), .string s] u fun e w' => e = .returned (.tuple #[.agg #[.int .i64 0, .slice none 0 0], .int .i64 10]) ∧ Below u.heap.size u w') :
    Calls Try.prog 24 #[.int .i64 (n : Int), .int .i64 (W : Int), .string s] w fun e w' => e = .returned (.tuple #[noInts, .int .i64 10]) ∧ Below w.heap.size w w' := by
  have hw := fun u => isWidth_any (W : Int) u
  rw [decide_eq_true (by omega)] at hw
  have HW := Lib.hid (And.intro hw hc)
  have hNb : N ≤ 16777216 * 62 := by rw [← hN]; exact Nat.mul_le_mul hn hW
  have q1 : (n : Int) * (W : Int) = (N : Int) := by rw [← hN]; simp
  clear hw hc hN
  go_enter Try.func24, Try.ntmps24
  go_wp2_with fail
  refine (HW.out.1 _).mono ?_
  rintro e w' ⟨rfl, rfl⟩
  go_wp2_with fail
  refine (HW.out.2 _).mono ?_
  rintro e w3 ⟨rfl, hb⟩
  obtain ⟨r0, r1, r2, r3, z0, z1, z2, z3, -, hbel⟩ := rbox w _ hb
  have hlt := World.block_lt_of_cell? w3 _ r0
  simp only at hlt
  have HF := Lib.hid hbel
  clear hb hbel HW
  go_wp2
  refine bodyPost_ret (v := .tuple #[noInts, .int .i64 10]) (by simp [results, Try.results24, go_sem, r0, r1, r2, r3, noInts, hlt]) rfl ?_
  have hB := below_set4 HF.out (Nat.le_refl _) (.int .i64 0) (.int .i64 0) (.int .i64 0) (.slice none 0 0)
  exact ⟨rfl, hB.alloc hB.size _⟩

set_option maxHeartbeats 1000000 in
theorem iread_ok (n W N : Nat) (s : ByteArray) (w : World) (hn : n ≤ 16777216) (hW : W ≤ 62) (hN : n * W = N) (hs : s.size ≤ 1000) (h : s.size = p8 N) (hc : Clean s N) :
    Calls Try.prog 24 #[.int .i64 (n : Int), .int .i64 (W : Int), .string s] w fun e w' => ∃ g m : Nat, e = .returned (.tuple #[intsV n W N (.slice (some ⟨g, 0, none⟩) m m), .int .i64 0]) ∧
      RowAt w' (.slice (some ⟨g, 0, none⟩) m m) (sBits s N) ∧ Below w.heap.size w w' := by
  have hw := fun u => isWidth_any (W : Int) u
  rw [decide_eq_true (by omega)] at hw
  have hrd := fun u => read_ok N s u hs h hc
  have HW := Lib.hid (And.intro hw hrd)
  have hNb : N ≤ 16777216 * 62 := by rw [← hN]; exact Nat.mul_le_mul hn hW
  have q1 : (n : Int) * (W : Int) = (N : Int) := by rw [← hN]; simp
  clear hw hc hN hrd h
  go_enter Try.func24, Try.ntmps24
  go_wp2_with fail
  refine (HW.out.1 _).mono ?_
  rintro e w' ⟨rfl, rfl⟩
  go_wp2_with fail
  refine (HW.out.2 _).mono ?_
  rintro e w3 ⟨rfl, hrow, hb⟩
  simp only [World.size_alloc] at hrow ⊢
  obtain ⟨r0, r1, r2, r3, z0, z1, z2, z3, -, hbel⟩ := rbox w _ hb
  have hlt := World.block_lt_of_cell? w3 _ r0
  simp only at hlt
  have HF := Lib.hid (And.intro hbel hrow)
  clear hb hbel HW hrow
  generalize nw N = m at *
  go_wp2
  refine bodyPost_ret (v := .tuple #[intsV n W N (.slice (some ⟨w.heap.size + 1 + 1, 0, none⟩) m m), .int .i64 0]) (by simp [results, Try.results24, go_sem, r0, r1, r2, r3, intsV, hlt]) rfl ?_
  have hB := below_set4 HF.out.1 (Nat.le_refl _) (.int .i64 (n : Int)) (.int .i64 (W : Int)) (.int .i64 (N : Int)) (.slice (some ⟨w.heap.size + 1 + 1, 0, none⟩) m m)
  have hR := row_set4 (b := w.heap.size) HF.out.2 (by omega) (.int .i64 (n : Int)) (.int .i64 (W : Int)) (.int .i64 (N : Int)) (.slice (some ⟨w.heap.size + 1 + 1, 0, none⟩) m m)
  exact ⟨_, m, rfl, hR.kept ((Below.refl _ _).alloc (Nat.le_refl _) _), hB.alloc hB.size _⟩

end Go.Proofs.Ytilfjdmgeflagaa
