/- The contract of Number. -/
import Derived.Test.YtfhlcclbjagdmaaC
namespace Go.Proofs.Ytfhlcclbjagdmaa
open Go.RowKit
open M
attribute [local go_sem ↓] Go.wp_at_zero Go.wp_at_succ

set_option maxHeartbeats 1000000 in
theorem number1_any (nb bb gb g m cap p n q c : Nat) (v P R : Int) (x : Int) (w : World) (hc : w.cell? ⟨nb, 0, none⟩ = some (.int .u64 v)) (hfz : w.frozen? ⟨nb, 0, none⟩ = false)
    (hg : w.cell? ⟨gb, 0, none⟩ = some (.int .i64 (c : Int))) (hgz : w.frozen? ⟨gb, 0, none⟩ = false) (hne : nb < gb)
    (hb : w.cell? ⟨bb, 1, none⟩ = some (.slice (some ⟨g, 0, none⟩) m cap))
    (hx : w.cell? ⟨g, p, none⟩ = some (.int .u64 x)) (hp : p < m) (hq : q < 64) (hn : n ≤ 64) (hcc : c ≤ 64)
    (hv : bits .and .u64 (x / 2 ^ q) (((2 ^ n - 1 : Nat) : Int)) = P) (hv2 : bits .or .u64 v (IntKind.u64.wrap (P * 2 ^ c)) = R) :
    Calls Try.prog 53 #[.int .i64 (p : Int), .int .i64 (q : Int), .int .i64 (n : Int), .pointer (some ⟨nb, 0, none⟩), .pointer (some ⟨bb, 0, none⟩), .pointer (some ⟨gb, 0, none⟩)] w fun e w' => e = .returned (.tuple #[]) ∧
      w' = ((w.drew.setCell ⟨nb, 0, none⟩ (.int .u64 R)).setCell ⟨gb, 0, none⟩ (.int .i64 ((c + n : Nat) : Int))) := by
  have HV := Lib.hid hv
  have HV2 := Lib.hid hv2
  clear hv hv2
  go_enter Try.func53, Try.ntmps53
  go_wp2
  go_still_tail 14, mixed
  still_call (low_still (n : Int) _ (by omega) (by omega))
  rw [Int.toNat_natCast]
  repeat still_step
  refine wpStill_nil ?_
  go_wp2
  go_end0
  rw [HV.out, HV2.out]
  exact ⟨rfl, rfl⟩

/-- What holds while a number is read. -/
def NumI (w : World) (s : Value) (l : List Bool) (a p : Nat) (wr : World) : Prop :=
  wr.cell? ⟨w.heap.size + 1, 0, none⟩ = some (.int .u64 (num ((l.drop a).take (p - a)) : Nat)) ∧ wr.frozen? ⟨w.heap.size + 1, 0, none⟩ = false ∧
  wr.cell? ⟨w.heap.size + 1 + 1, 0, none⟩ = some (.int .i64 (p - a : Nat)) ∧ wr.frozen? ⟨w.heap.size + 1 + 1, 0, none⟩ = false ∧
    wr.cell? ⟨w.heap.size, 1, none⟩ = some s ∧ Below w.heap.size w wr

theorem cell_new (w : World) (cs : Array Value) (t : TypeId) (b i : Nat) (h : b = w.heap.size) : (w.alloc (.cells cs t)).cell? ⟨b, i, none⟩ = cs[i]? := by
  subst h; simp
theorem frozen_new (w : World) (cs : Array Value) (t : TypeId) (b i : Nat) (h : b = w.heap.size) : (w.alloc (.cells cs t)).frozen? ⟨b, i, none⟩ = false := by
  subst h; simp
theorem cell_old (w : World) (o : Obj) (b i : Nat) (h : b < w.heap.size) : (w.alloc o).cell? ⟨b, i, none⟩ = w.cell? ⟨b, i, none⟩ := World.cell?_alloc_lt _ _ _ h
theorem frozen_old (w : World) (o : Obj) (b i : Nat) (h : b < w.heap.size) : (w.alloc o).frozen? ⟨b, i, none⟩ = w.frozen? ⟨b, i, none⟩ := World.frozen?_alloc_old _ _ _ (Nat.ne_of_lt h)

theorem orU (a b : List Bool) (c : Nat) (h : a.length = c) (hb : c + b.length ≤ 64) : bits .or .u64 (num a : Int) (IntKind.u64.wrap ((num b : Int) * 2 ^ c)) = (num (a ++ b) : Int) := by
  subst h
  have e : (num b : Int) * 2 ^ a.length = ((num b * 2 ^ a.length : Nat) : Int) := by simp
  have h1 : num b * 2 ^ a.length < 2 ^ 64 := by
    have h2 := num_lt b
    have h3 : num b * 2 ^ a.length < 2 ^ b.length * 2 ^ a.length := Nat.mul_lt_mul_of_pos_right h2 (Nat.pow_pos (by decide))
    rw [← Nat.pow_add] at h3
    exact Nat.lt_of_lt_of_le h3 (Nat.pow_le_pow_right (by decide) (by omega))
  have h4 : num a < 2 ^ 64 := Nat.lt_of_lt_of_le (num_lt a) (Nat.pow_le_pow_right (by decide) (by omega))
  rw [e, wrapU _ h1, ← num_or]
  exact bits_or_u64_nat _ _ h4 h1

theorem num_step (w : World) (s : Value) (l : List Bool) (a b : Nat) (h : RowAt w s l) (hb : b ≤ l.length) (hab : b ≤ a + 64) :
    Step 53 #[.pointer (some ⟨w.heap.size + 1, 0, none⟩), .pointer (some ⟨w.heap.size, 0, none⟩), .pointer (some ⟨w.heap.size + 1 + 1, 0, none⟩)] (NumI w s l a) a b := by
  intro p n wr x y z h1 h2 h3 h4 hI hx hy hz
  subst hx hy hz
  obtain ⟨i1, i2, i3, i4, i5, i6⟩ := hI
  have hk := h.kept i6
  rcases hk.form with ⟨rfl, rfl⟩ | ⟨g, cap, rfl, g1, g2, g3, g4⟩
  · simp at hb; omega
  · have hw : p / 64 < nw l.length := by unfold nw; omega
    refine (number1_any (w.heap.size + 1) w.heap.size (w.heap.size + 1 + 1) g (nw l.length) cap (p / 64) n (p % 64) (p - a) _ _ _ _ wr i1 i2 i3 i4 (by omega) i5 (g4 _ hw) hw (by omega) (by omega) (by omega) (piece_int l p n h4)
      (orU ((l.drop a).take (p - a)) ((l.drop p).take n) (p - a) (by simp; omega) (by simp; omega))).mono ?_
    rintro e w' ⟨rfl, rfl⟩
    refine ⟨rfl, ?_, ?_, ?_, ?_, ?_, ?_⟩
    · rw [World.cell?_setCell_other _ _ _ _ (by simp), World.cell?_setCell_same _ _ _ (by simpa using i1), take_more l a p n h1]
    · simpa using i2
    · rw [World.cell?_setCell_same _ _ _ (u := .int .i64 (p - a : Nat)) (by rw [World.cell?_setCell_other _ _ _ _ (by simp)]; simpa using i3)]
      rw [show p + n - a = p - a + n by omega]
    · simpa using i4
    · rw [World.cell?_setCell_other _ _ _ _ (by simp), World.cell?_setCell_other _ _ _ _ (by simp)]; simpa using i5
    · exact (i6.drew.setCell (by simp) _).setCell (by simp; omega) _

theorem ret_nums {a b : Int} {k j : IntKind} {c : Int} (h : a = b) : Ending.returned (.tuple #[.int k a, .int j c]) = .returned (.tuple #[.int k b, .int j c]) := by rw [h]

set_option maxHeartbeats 1000000 in
theorem number_in (a0 : Option Addr) (m cap : Nat) (l : List Bool) (a n : Nat) (w : World) (h : RowAt w (.slice a0 m cap) l) (hl : l.length ≤ 1000000000) (hn : n ≤ 64) (han : a + n ≤ l.length) :
    Calls Try.prog 44 #[.agg #[.int .i64 (l.length : Int), .slice a0 m cap], .int .i64 (a : Int), .int .i64 (n : Int)] w fun e w' => e = .returned (.tuple #[.int .u64 (num ((l.drop a).take n) : Nat), .int .i64 0]) ∧ Below w.heap.size w w' := by
  have hst := num_step w (.slice a0 m cap) l a (a + n) h han (by omega)
  have h00 : NumI w (.slice a0 m cap) l a a (((w.alloc (Obj.cells #[Value.int IntKind.i64 (l.length : Int), .slice a0 m cap] 30)).alloc (Obj.cells #[Value.int IntKind.u64 0] 47)).alloc (Obj.cells #[Value.int IntKind.i64 0] 3)) := by
    refine ⟨?_, ?_, ?_, ?_, ?_, ?_⟩
    · rw [cell_old _ _ _ _ (by simp), cell_new _ _ _ _ _ (by simp)]; simp [num]
    · rw [frozen_old _ _ _ _ (by simp), frozen_new _ _ _ _ _ (by simp)]
    · rw [cell_new _ _ _ _ _ (by simp)]; simp
    · rw [frozen_new _ _ _ _ _ (by simp)]
    · rw [cell_old _ _ _ _ (by simp; omega), cell_old _ _ _ _ (by simp), cell_new _ _ _ _ _ (by simp)]; simp
    · exact (((Below.refl _ _).alloc (Nat.le_refl _) _).alloc (by simp) _).alloc (by simp; omega) _
  have HS := Lib.hid hst
  have H0 := Lib.hid h00
  clear hst h00 h
  generalize hln : l.length = ln at *
  have HN := Lib.hid hln
  clear hln
  go_enter Try.func44, Try.ntmps44
  go_wp2_with fail
  refine (eachPiece_int 53 _ _ a (a + n) _ _ _ ent53 (by omega) (by omega) rfl (by omega) H0.out HS.out).mono ?_
  rintro e w' ⟨rfl, i1, -, -, -, -, i6⟩
  have I6 := Lib.hid i6
  clear i6
  go_wp2
  go_ret2
  exact ⟨ret_nums (by simp), I6.out⟩

set_option maxHeartbeats 1000000 in
theorem number_arg (a0 : Option Addr) (m cap n : Nat) (x y : Int) (w : World) (hy : y < 0 ∨ 64 < y) :
    Calls Try.prog 44 #[.agg #[.int .i64 (n : Int), .slice a0 m cap], .int .i64 x, .int .i64 y] w fun e w' => e = .returned (.tuple #[.int .u64 0, .int .i64 1]) ∧ Below w.heap.size w w' := by
  by_cases h0 : y < 0
  · clear hy
    go_enter Try.func44, Try.ntmps44
    go_wp2
    go_ret2
    exact ⟨rfl, (Below.refl _ _).alloc (Nat.le_refl _) _⟩
  · have hy : 64 < y := by omega
    go_enter Try.func44, Try.ntmps44
    go_wp2
    go_ret2
    exact ⟨rfl, (Below.refl _ _).alloc (Nat.le_refl _) _⟩

set_option maxHeartbeats 1000000 in
theorem number_range (a0 : Option Addr) (m cap n : Nat) (x y : Int) (w : World) (_hl : n ≤ 1000000000) (h1 : 0 ≤ y) (h2 : y ≤ 64) (hx : x < 0 ∨ (n : Int) < x + y) (hxx : x ≤ 9223372036854775807) :
    Calls Try.prog 44 #[.agg #[.int .i64 (n : Int), .slice a0 m cap], .int .i64 x, .int .i64 y] w fun e w' => e = .returned (.tuple #[.int .u64 0, .int .i64 13]) ∧ Below w.heap.size w w' := by
  by_cases h0 : x < 0
  · clear hx
    go_enter Try.func44, Try.ntmps44
    go_wp2
    go_ret2
    exact ⟨rfl, (Below.refl _ _).alloc (Nat.le_refl _) _⟩
  · by_cases h3 : (n : Int) < x
    · clear hx
      go_enter Try.func44, Try.ntmps44
      go_wp2
      go_ret2
      exact ⟨rfl, (Below.refl _ _).alloc (Nat.le_refl _) _⟩
    · have hx : (n : Int) - x < y := by omega
      go_enter Try.func44, Try.ntmps44
      go_wp2
      go_ret2
      exact ⟨rfl, (Below.refl _ _).alloc (Nat.le_refl _) _⟩

end Go.Proofs.Ytfhlcclbjagdmaa
