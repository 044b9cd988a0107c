/- What ValuesOwn asks. -/
import Derived.Test.YtpnjccomngdblaaGreatVW
set_option maxRecDepth 100000
namespace Go.Proofs.YtpnjccomngdblaaGreat
open Go.RowKit
open M
attribute [local go_sem ↓] Go.wp_at_zero Go.wp_at_succ

variable {w u w' : World} {b c : Nat} {F : FQ} {E : Option Addr} {ss : List ByteArray}
/-- Three numbers, in their box. -/
structure TR3 (u : World) (b : Nat) (x0 x1 x2 : Int) : Prop where
  c0 : u.cell? ⟨b, 0, none⟩ = some (.int .i64 x0)
  c1 : u.cell? ⟨b, 1, none⟩ = some (.int .i64 x1)
  c2 : u.cell? ⟨b, 2, none⟩ = some (.int .i64 x2)
theorem TR3.kept {u u' : World} {b : Nat} {x0 x1 x2 : Int} (h : TR3 u b x0 x1 x2) (hb : Below u.heap.size u u') : TR3 u' b x0 x1 x2 := by
  have hlt := World.block_lt_of_cell? u _ h.c0
  have cl : ∀ o, u'.cell? ⟨b, o, none⟩ = u.cell? ⟨b, o, none⟩ := fun o => hb.cell (p := ⟨b, o, none⟩) hlt
  exact ⟨by rw [cl]; exact h.c0, by rw [cl]; exact h.c1, by rw [cl]; exact h.c2⟩
theorem TR3.new (w : World) (x0 x1 x2 : Int) : TR3 (w.alloc (.cells #[.int .i64 x0, .int .i64 x1, .int .i64 x2] 67)) w.heap.size x0 x1 x2 := ⟨by simp, by simp, by simp⟩
structure LQ3 (w : World) (b : Nat) (F : FQ) (E : Option Addr) (c : Nat) (B : Option Addr) (ss : List ByteArray) (qb : Nat) (x0 x1 x2 : Int) (u : World) : Prop where
  lq : LQV w b F E c B ss u
  qv : TR3 u qb x0 x1 x2
theorem LQ3.kept {u' : World} {B : Option Addr} {qb : Nat} {x0 x1 x2 : Int} (h : LQ3 w b F E c B ss qb x0 x1 x2 u) (hb : Below u.heap.size u u') : LQ3 w b F E c B ss qb x0 x1 x2 u' := ⟨h.lq.kept hb, h.qv.kept hb⟩
/-- Does it lie among the first ones? -/
def hasA (E : List Int) (a : Int) (i : Nat) : Bool := (E.take i).any fun x => decide (x = a)
theorem hasA_succ {E : List Int} {a : Int} {i : Nat} (h : i < E.length) : hasA E a (i + 1) = (hasA E a i || decide (E.getD i 0 = a)) := by
  unfold hasA
  rw [List.getD_eq_getElem?_getD, List.getElem?_eq_getElem h, List.take_add_one, List.getElem?_eq_getElem h, List.any_append]
  simp
theorem hasA_all {E : List Int} {a : Int} (h : a ∈ E) : hasA E a E.length = true := by
  unfold hasA
  rw [List.take_length, List.any_eq_true]
  exact ⟨a, h, by simp⟩
/-- A number brought below L. -/
theorem brought0 (x : Int) (L : Nat) (h0 : 0 < L) (hn : L ≤ 1000) : IntKind.i64.wrap (x.tmod (L : Int) + (L : Int)) = x.tmod (L : Int) + (L : Int) ∧ ∃ a : Nat, a < L ∧ (x.tmod (L : Int) + (L : Int)).tmod (L : Int) = (a : Int) := by
  have t1 := Int.tmod_lt_of_pos x (b := (L : Int)) (by omega)
  have t2 := Int.lt_tmod_of_pos x (b := (L : Int)) (by omega)
  obtain ⟨y, hy⟩ : ∃ y, x.tmod (L : Int) = y := ⟨_, rfl⟩
  rw [hy] at t1 t2 ⊢
  have u1 := Int.tmod_lt_of_pos (y + (L : Int)) (b := (L : Int)) (by omega)
  have u2 := Int.tmod_nonneg (a := y + (L : Int)) (L : Int) (by omega)
  exact ⟨IntWalk.i64_in _ (by omega), ((y + (L : Int)).tmod (L : Int)).toNat, by omega, by omega⟩
theorem brought1 (x : Int) (n : Nat) (hn : n ≤ 60) : IntKind.i64.wrap ((n : Int) + 1) = (n : Int) + 1 ∧ IntKind.i64.wrap (x.tmod ((n : Int) + 1) + (n : Int)) = x.tmod ((n : Int) + 1) + (n : Int) ∧ IntKind.i64.wrap (x.tmod ((n : Int) + 1) + (n : Int) + 1) = x.tmod ((n : Int) + 1) + (n : Int) + 1 ∧ ∃ a : Nat, a ≤ n ∧ (x.tmod ((n : Int) + 1) + (n : Int) + 1).tmod ((n : Int) + 1) = (a : Int) := by
  have t1 := Int.tmod_lt_of_pos x (b := (n : Int) + 1) (by omega)
  have t2 := Int.lt_tmod_of_pos x (b := (n : Int) + 1) (by omega)
  obtain ⟨y, hy⟩ : ∃ y, x.tmod ((n : Int) + 1) = y := ⟨_, rfl⟩
  rw [hy] at t1 t2 ⊢
  have u1 := Int.tmod_lt_of_pos (y + (n : Int) + 1) (b := (n : Int) + 1) (by omega)
  have u2 := Int.tmod_nonneg (a := y + (n : Int) + 1) ((n : Int) + 1) (by omega)
  exact ⟨IntWalk.i64_in _ (by omega), IntWalk.i64_in _ (by omega), IntWalk.i64_in _ (by omega), ((y + (n : Int) + 1).tmod ((n : Int) + 1)).toNat, by omega, by omega⟩
theorem brought2 (x : Int) (n a : Nat) (hn : n ≤ 60) (ha : a ≤ n) : IntKind.i64.wrap ((n : Int) - (a : Int)) = (n : Int) - (a : Int) ∧ IntKind.i64.wrap ((n : Int) - (a : Int) + 1) = (n : Int) - (a : Int) + 1 ∧ IntKind.i64.wrap (x.tmod ((n : Int) - (a : Int) + 1) + (n : Int)) = x.tmod ((n : Int) - (a : Int) + 1) + (n : Int) ∧ IntKind.i64.wrap (x.tmod ((n : Int) - (a : Int) + 1) + (n : Int) - (a : Int)) = x.tmod ((n : Int) - (a : Int) + 1) + (n : Int) - (a : Int) ∧
    IntKind.i64.wrap (x.tmod ((n : Int) - (a : Int) + 1) + (n : Int) - (a : Int) + 1) = x.tmod ((n : Int) - (a : Int) + 1) + (n : Int) - (a : Int) + 1 ∧ ∃ k : Nat, a + k ≤ n ∧ (x.tmod ((n : Int) - (a : Int) + 1) + (n : Int) - (a : Int) + 1).tmod ((n : Int) - (a : Int) + 1) = (k : Int) := by
  have t1 := Int.tmod_lt_of_pos x (b := (n : Int) - (a : Int) + 1) (by omega)
  have t2 := Int.lt_tmod_of_pos x (b := (n : Int) - (a : Int) + 1) (by omega)
  obtain ⟨y, hy⟩ : ∃ y, x.tmod ((n : Int) - (a : Int) + 1) = y := ⟨_, rfl⟩
  rw [hy] at t1 t2 ⊢
  have u1 := Int.tmod_lt_of_pos (y + (n : Int) - (a : Int) + 1) (b := (n : Int) - (a : Int) + 1) (by omega)
  have u2 := Int.tmod_nonneg (a := y + (n : Int) - (a : Int) + 1) ((n : Int) - (a : Int) + 1) (by omega)
  exact ⟨IntWalk.i64_in _ (by omega), IntWalk.i64_in _ (by omega), IntWalk.i64_in _ (by omega), IntWalk.i64_in _ (by omega), IntWalk.i64_in _ (by omega), ((y + (n : Int) - (a : Int) + 1).tmod ((n : Int) - (a : Int) + 1)).toNat, by omega, by omega⟩
theorem ids_cn (ss : List ByteArray) (p : ByteArray) : ∀ i, (idN ss p i).length ≤ cnV ss p i := by
  intro i
  induction i with
  | zero => exact Nat.le_refl _
  | succ i ih =>
    rw [idN_succ, List.length_append, cnV]
    by_cases h : hasN (tV ss i) p ((tV ss i).size + 1) = true
    · rw [if_pos h]
      have : 0 < (List.range ((tV ss i).size + 1)).countP (inT (tV ss i) p) := by
        rw [List.countP_pos_iff]
        unfold hasN at h
        rwa [List.any_eq_true] at h
      simp
      omega
    · rw [if_neg h]
      simp
      omega
theorem part_own (ss : List ByteArray) {i a k : Nat} (hi : i < ss.length) (hk : a + k ≤ (tV ss i).size) : prV (tV ss i) (a : Int) (k : Int) = (tV ss i).extract a (a + k) ∧ (i : Int) ∈ idsV ss ((tV ss i).extract a (a + k)) ∧ (i : Int) ∈ eqV ss (tV ss i) ∧ ((tV ss i).extract a (a + k)).size = k := by
  have hs := ba_ex_size (tV ss i) (a := a) hk
  refine ⟨?_, ids_mem.2 ⟨i, rfl, hi, (hasT_iff _ _).2 ⟨a, by omega, (inT_ex _ _ _).2 ⟨by omega, by rw [hs, show a + (a + k - a) = a + k by omega]⟩⟩⟩, eq_mem.2 ⟨i, rfl, hi, rfl⟩, by omega⟩
  unfold prV
  rw [lo_at _ _ (by omega), Int.toNat_natCast, Nat.min_eq_left (by omega)]

end Go.Proofs.YtpnjccomngdblaaGreat
