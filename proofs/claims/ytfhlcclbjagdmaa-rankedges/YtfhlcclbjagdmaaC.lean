import Derived.Test.YtfhlcclbjagdmaaB
import Derived.StillTailTactics
import Derived.Deep.QuietTactic
import Derived.BigQuiet
import Derived.Deep.RegionHeld3
import Derived.Deep.DrawnRows
namespace Go.Proofs.Ytfhlcclbjagdmaa
open Go.RowKit
open M
attribute [local go_sem ↓] Go.wp_at_zero Go.wp_at_succ


theorem low_still (n : Int) (w : World) (h0 : 0 ≤ n) (h1 : n ≤ 64) :
    Calls Try.prog 41 #[.int .i64 n] w fun e w' => e = .returned (.int .u64 ((2 ^ n.toNat - 1 : Nat) : Int)) ∧ w' = w := (low_any n w h0 h1).mono fun _ _ h => ⟨h.1, h.2.symm⟩
theorem onesOf_still (x : Int) (l : List Bool) (w : World) (hl : l.length ≤ 64) (hx : x = (num l : Int)) :
    Calls Try.prog 40 #[.int .u64 x] w fun e w' => e = .returned (.int .i64 (cnt l : Nat)) ∧ w' = w := (onesOf_any x l w hl hx).mono fun _ _ h => ⟨h.1, h.2.symm⟩
theorem mixed : Try.prog.follows .mixedOrders = true := by kernel_rfl

set_option maxHeartbeats 1000000 in
theorem ones1_any (cb bb g m cap p n q c : Nat) (b : List Bool) (x : Int) (w : World) (hc : w.cell? ⟨cb, 0, none⟩ = some (.int .i64 (c : Int))) (hfz : w.frozen? ⟨cb, 0, none⟩ = false)
    (hb : w.cell? ⟨bb, 1, none⟩ = some (.slice (some ⟨g, 0, none⟩) m cap))
    (hx : w.cell? ⟨g, p, none⟩ = some (.int .u64 x)) (hp : p < m) (hq : q < 64) (hn : n ≤ 64) (hcc : c ≤ 1000000000) (hbl : b.length ≤ 64)
    (hv : bits .and .u64 (x / 2 ^ q) (((2 ^ n - 1 : Nat) : Int)) = (num b : Int)) :
    Calls Try.prog 39 #[.int .i64 (p : Int), .int .i64 (q : Int), .int .i64 (n : Int), .pointer (some ⟨cb, 0, none⟩), .pointer (some ⟨bb, 0, none⟩)] w fun e w' => e = .returned (.tuple #[]) ∧ w' = w.drew.setCell ⟨cb, 0, none⟩ (.int .i64 ((c + cnt b : Nat) : Int)) := by
  have HV := Lib.hid hv
  have hcn := cnt_le b
  clear hv
  go_enter Try.func39, Try.ntmps39
  go_wp2
  go_still_tail 13, mixed
  still_call (low_still (n : Int) _ (by omega) (by omega))
  repeat still_step
  still_call (onesOf_still _ b _ hbl HV.out)
  repeat still_step
  refine wpStill_nil ?_
  go_wp2
  go_end0
  exact ⟨rfl, rfl⟩

/-- Where a count of bits begins and ends, of a row of n bits. -/
def lo (n : Nat) (x : Int) : Nat := (min (max x 0) (n : Int)).toNat
def hi (n : Nat) (x y : Int) : Nat := (min (max y (lo n x : Int)) (n : Int)).toNat
/-- How many of the bits from x on up to y are 1. -/
def onesN (l : List Bool) (x y : Int) : Nat := cnt ((l.drop (lo l.length x)).take (hi l.length x y - lo l.length x))

theorem eachPiece_int (f : Nat) (caps : Array Value) (I : Nat → World → Prop) (a b : Nat) (x y : Int) (w : World) (hf : ∀ (args : Array Value) (w : World), (callFunc f args).run Try.prog w = .ok (.enter f args) w)
    (hab : a ≤ b) (hb : b ≤ 1000000000) (hx : x = (a : Int)) (hy : y = (b : Int)) (h0 : I a w) (hs : Step f caps I a b) :
    Calls Try.prog 38 #[.int .i64 x, .int .i64 y, .func (.func f) #[] caps] w fun e w' => e = .returned (.tuple #[]) ∧ I b w' := by
  subst hx hy
  exact eachPiece_any f caps I a b w hf hab hb h0 hs

theorem take_more (l : List Bool) (a p n : Nat) (h : a ≤ p) : (l.drop a).take (p + n - a) = (l.drop a).take (p - a) ++ (l.drop p).take n := by
  rw [show p + n - a = (p - a) + n by omega, List.take_add, List.drop_drop, show a + (p - a) = p by omega]

theorem piece_int (l : List Bool) (p n : Nat) (h : p % 64 + n ≤ 64) :
    bits .and .u64 ((wd l (p / 64) : Int) / 2 ^ (p % 64)) (((2 ^ n - 1 : Nat) : Int)) = (num ((l.drop p).take n) : Int) := by
  have e : (wd l (p / 64) : Int) / 2 ^ (p % 64) = ((wd l (p / 64) / 2 ^ (p % 64) : Nat) : Int) := by
    rw [Int.natCast_ediv]; simp
  have hd : wd l (p / 64) / 2 ^ (p % 64) < 2 ^ 64 := Nat.lt_of_le_of_lt (Nat.div_le_self _ _) (wd_lt _ _)
  have hn : 2 ^ n - 1 < 2 ^ 64 := by
    have : (2 : Nat) ^ n ≤ 2 ^ 64 := Nat.pow_le_pow_right (by decide) (by omega)
    have : (0 : Nat) < 2 ^ n := Nat.pow_pos (by decide)
    omega
  rw [e, andU _ _ hd hn, wd_piece l p n h]

/-- What holds while ones are counted: the box of the count, the box of the row, all that was there. -/
def OnesI (w : World) (s : Value) (l : List Bool) (a p : Nat) (wr : World) : Prop :=
  wr.cell? ⟨w.heap.size + 1, 0, none⟩ = some (.int .i64 (cnt ((l.drop a).take (p - a)) : Nat)) ∧ wr.frozen? ⟨w.heap.size + 1, 0, none⟩ = false ∧
    wr.cell? ⟨w.heap.size, 1, none⟩ = some s ∧ Below w.heap.size w wr

theorem cnt_take_le (l : List Bool) (a n : Nat) : cnt ((l.drop a).take n) ≤ l.length := Nat.le_trans (cnt_le _) (by simp; omega)

theorem ones_step (w : World) (s : Value) (l : List Bool) (a b : Nat) (h : RowAt w s l) (hl : l.length ≤ 1000000000) (hb : b ≤ l.length) :
    Step 39 #[.pointer (some ⟨w.heap.size + 1, 0, none⟩), .pointer (some ⟨w.heap.size, 0, none⟩)] (OnesI w s l a) a b := by
  intro p n wr x y z h1 h2 h3 h4 hI hx hy hz
  subst hx hy hz
  obtain ⟨i1, i2, i3, i4⟩ := hI
  have hk := h.kept i4
  rcases hk.form with ⟨rfl, rfl⟩ | ⟨g, cap, rfl, g1, g2, g3, g4⟩
  · simp at hb; omega
  · have hw : p / 64 < nw l.length := by unfold nw; omega
    refine (ones1_any (w.heap.size + 1) w.heap.size g (nw l.length) cap (p / 64) n (p % 64) (cnt ((l.drop a).take (p - a))) ((l.drop p).take n) _ wr i1 i2 i3 (g4 _ hw) hw (by omega) (by omega) ?_ (by simp; omega) (piece_int l p n h4)).mono ?_
    · have := cnt_take_le l a (p - a); omega
    · rintro e w' ⟨rfl, rfl⟩
      refine ⟨rfl, ?_, ?_, ?_, ?_⟩
      · rw [World.cell?_setCell_same _ _ _ (by simpa using i1), take_more l a p n h1, cnt_append]
      · simpa using i2
      · rw [World.cell?_setCell_other _ _ _ _ (by simp)]; simpa using i3
      · exact i4.drew.setCell (by simp) _

set_option maxHeartbeats 1000000 in
theorem ones_any (a0 : Option Addr) (m cap : Nat) (l : List Bool) (x y : Int) (w : World) (h : RowAt w (.slice a0 m cap) l) (hl : l.length ≤ 1000000000) :
    Calls Try.prog 30 #[.agg #[.int .i64 (l.length : Int), .slice a0 m cap], .int .i64 x, .int .i64 y] w fun e w' => e = .returned (.int .i64 (onesN l x y : Nat)) ∧ Below w.heap.size w w' := by
  have hlo : lo l.length x ≤ l.length := by unfold lo; omega
  have hhi : lo l.length x ≤ hi l.length x y ∧ hi l.length x y ≤ l.length := by unfold hi; omega
  have hst := ones_step w (.slice a0 m cap) l (lo l.length x) (hi l.length x y) h hl hhi.2
  have h00 : OnesI w (.slice a0 m cap) l (lo l.length x) (lo l.length x) ((w.alloc (Obj.cells #[Value.int IntKind.i64 (l.length : Int), .slice a0 m cap] 30)).alloc (Obj.cells #[Value.int IntKind.i64 0] 3)) := by
    refine ⟨?_, ?_, ?_, ?_⟩
    · simp [cnt]
    · simp
    · simp
    · exact ((Below.refl _ _).alloc (Nat.le_refl _) _).alloc (by simp) _
  have HS := Lib.hid hst
  have H0 := Lib.hid h00
  have HH := Lib.hid hhi
  have HL := Lib.hid hl
  clear hst h00 hhi hlo h
  generalize hn : l.length = n at *
  have HN := Lib.hid hn
  clear hn
  go_enter Try.func30, Try.ntmps30
  go_wp2_with fail
  all_goals
    refine (eachPiece_int 39 _ _ _ _ _ _ _ ent39 HH.out.1 (by have := HH.out.2; omega) ?hx ?hy H0.out HS.out).mono ?_
    case hx => unfold lo; omega
    case hy => unfold hi lo; omega
    rintro e w' ⟨rfl, i1, -, -, i4⟩
    go_wp2
    go_ret
    exact ⟨ret_int (by unfold onesN; rw [HN.out]), i4⟩

end Go.Proofs.Ytfhlcclbjagdmaa
