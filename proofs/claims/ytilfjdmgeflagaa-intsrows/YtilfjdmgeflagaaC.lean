import Derived.Test.YtilfjdmgeflagaaB
import Derived.StillTailTactics
import Derived.Deep.QuietTactic
import Derived.BigQuiet
import Derived.Deep.RegionHeld3
import Derived.Deep.DrawnRows
namespace Go.Proofs.Ytilfjdmgeflagaa
open Go.RowKit
open M
attribute [local go_sem ↓] Go.wp_at_zero Go.wp_at_succ


theorem low_still (n : Int) (w : World) (h0 : 0 ≤ n) (h1 : n ≤ 64) :
    Calls Try.prog 42 #[.int .i64 n] w fun e w' => e = .returned (.int .u64 ((2 ^ n.toNat - 1 : Nat) : Int)) ∧ w' = w := (low_any n w h0 h1).mono fun _ _ h => ⟨h.1, h.2.symm⟩
theorem mixed : Try.prog.follows .mixedOrders = true := by kernel_rfl

/-- Where a count of bits begins and ends, of a row of n bits. -/
def lo (n : Nat) (x : Int) : Nat := (min (max x 0) (n : Int)).toNat
def hi (n : Nat) (x y : Int) : Nat := (min (max y (lo n x : Int)) (n : Int)).toNat
/-- How many of the bits from x on up to y are 1. -/
def onesN (l : List Bool) (x y : Int) : Nat := cnt ((l.drop (lo l.length x)).take (hi l.length x y - lo l.length x))

theorem eachPiece_int (f : Nat) (caps : Array Value) (I : Nat → World → Prop) (a b : Nat) (x y : Int) (w : World) (hf : ∀ (args : Array Value) (w : World), (callFunc f args).run Try.prog w = .ok (.enter f args) w)
    (hab : a ≤ b) (hb : b ≤ 1000000000) (hx : x = (a : Int)) (hy : y = (b : Int)) (h0 : I a w) (hs : Step f caps I a b) :
    Calls Try.prog 45 #[.int .i64 x, .int .i64 y, .func (.func f) #[] caps] w fun e w' => e = .returned (.tuple #[]) ∧ I b w' := by
  subst hx hy
  exact eachPiece_any f caps I a b w hf hab hb h0 hs

theorem take_more (l : List Bool) (a p n : Nat) (h : a ≤ p) : (l.drop a).take (p + n - a) = (l.drop a).take (p - a) ++ (l.drop p).take n := by
  rw [show p + n - a = (p - a) + n by omega, List.take_add, List.drop_drop, show a + (p - a) = p by omega]

theorem piece_int (l : List Bool) (p n : Nat) (h : p % 64 + n ≤ 64) :
    bits .and .u64 ((wd l (p / 64) : Int) / 2 ^ (p % 64)) (((2 ^ n - 1 : Nat) : Int)) = (num ((l.drop p).take n) : Int) := by
  have e : (wd l (p / 64) : Int) / 2 ^ (p % 64) = ((wd l (p / 64) / 2 ^ (p % 64) : Nat) : Int) := by
    rw [Int.natCast_ediv]; simp
  have hd : wd l (p / 64) / 2 ^ (p % 64) < 2 ^ 64 := Nat.lt_of_le_of_lt (Nat.div_le_self _ _) (wd_lt _ _)
  have hn : 2 ^ n - 1 < 2 ^ 64 := by
    have : (2 : Nat) ^ n ≤ 2 ^ 64 := Nat.pow_le_pow_right (by decide) (by omega)
    have : (0 : Nat) < 2 ^ n := Nat.pow_pos (by decide)
    omega
  rw [e, andU _ _ hd hn, wd_piece l p n h]

/-- What holds while ones are counted: the box of the count, the box of the row, all that was there. -/
def OnesI (w : World) (s : Value) (l : List Bool) (a p : Nat) (wr : World) : Prop :=
  wr.cell? ⟨w.heap.size + 1, 0, none⟩ = some (.int .i64 (cnt ((l.drop a).take (p - a)) : Nat)) ∧ wr.frozen? ⟨w.heap.size + 1, 0, none⟩ = false ∧
    wr.cell? ⟨w.heap.size, 1, none⟩ = some s ∧ Below w.heap.size w wr

theorem cnt_take_le (l : List Bool) (a n : Nat) : cnt ((l.drop a).take n) ≤ l.length := Nat.le_trans (cnt_le _) (by simp; omega)

end Go.Proofs.Ytilfjdmgeflagaa
