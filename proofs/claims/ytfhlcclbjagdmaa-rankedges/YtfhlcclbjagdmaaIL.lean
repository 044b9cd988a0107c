/- The contract of Read. -/
import Derived.Test.YtfhlcclbjagdmaaIK
namespace Go.Proofs.Ytfhlcclbjagdmaa
open Go.RowKit
open M

theorem bitsOf_num (l : List Bool) : bitsOf (num l) l.length = l :=
  num_inj _ _ (bitsOf_length _ _) (num_bitsOf _ _ (num_lt l))

/-- The n numbers of W bits each that these bits are. -/
def numsOf : List Bool → Nat → Nat → List Int
  | _, 0, _ => []
  | l, n + 1, W => (num (l.take W) : Int) :: numsOf (l.drop W) n W

theorem numsOf_length (l : List Bool) (n W : Nat) : (numsOf l n W).length = n := by
  induction n generalizing l with
  | zero => rfl
  | succ n ih => simp [numsOf, ih]

theorem numsOf_row (l : List Bool) (n W : Nat) (h : l.length = n * W) : rowB (numsOf l n W) W = l := by
  induction n generalizing l with
  | zero => simp [numsOf, rowB]; exact List.eq_nil_of_length_eq_zero (by simpa using h)
  | succ n ih =>
    rw [Nat.succ_mul] at h
    have hl : (l.take W).length = W := by simp; omega
    have e := bitsOf_num (l.take W)
    rw [hl] at e
    rw [numsOf, rowB_cons, Int.toNat_natCast, e, ih (l.drop W) (by simp; omega), List.take_append_drop]

theorem numsOf_fits (l : List Bool) (n W : Nat) : Fits (numsOf l n W) W := by
  induction n generalizing l with
  | zero => intro x hx; simp [numsOf] at hx
  | succ n ih =>
    intro x hx
    rw [numsOf] at hx
    rcases List.mem_cons.1 hx with e | e
    · subst e
      have h1 : num (l.take W) < 2 ^ W := Nat.lt_of_lt_of_le (num_lt _) (Nat.pow_le_pow_right (by decide) (by simp; omega))
      have e2 : ((2 : Int) ^ W) = ((2 ^ W : Nat) : Int) := by simp
      rw [e2]
      omega
    · exact ih _ x e

theorem numsOf_at (l : List Bool) (n W i : Nat) (h : i < n) : (numsOf l n W).getD i 0 = (num ((l.drop (i * W)).take W) : Int) := by
  induction n generalizing l i with
  | zero => omega
  | succ n ih =>
    cases i with
    | zero => simp [numsOf]
    | succ i =>
      rw [numsOf, List.getD_cons_succ, ih (l.drop W) i (by omega), List.drop_drop, Nat.succ_mul, Nat.add_comm W]

/-- What Read's box is while it reads. -/
theorem rbox (w : World) : ∀ u, Below (w.alloc (.cells #[.int .i64 0, .int .i64 0, .int .i64 0, .slice none 0 0] 33)).heap.size (w.alloc (.cells #[.int .i64 0, .int .i64 0, .int .i64 0, .slice none 0 0] 33)) u → TG w none [] u :=
  fun _ hb => (TG.start w none [] (.inl rfl)).kept hb

end Go.Proofs.Ytfhlcclbjagdmaa
