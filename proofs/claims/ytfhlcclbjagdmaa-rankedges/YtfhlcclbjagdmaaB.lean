/- Rows of bits in memory; the contracts of Len, Get, One. -/
import Derived.Test.YtfhlcclbjagdmaaE
import Derived.Deep.AppendLies
namespace Go.Proofs.Ytfhlcclbjagdmaa
open Go.RowKit
open M

/-- The first m words of a row. -/
def wlN (l : List Bool) (m : Nat) : List Value := (List.range m).map fun k => Value.int .u64 (wd l k : Nat)

/-- The words of the row l lie at s. -/
def RowAt (w : World) (s : Value) (l : List Bool) : Prop := w.ownsRow 0 47 1 s (nw l.length) (wlN l (nw l.length))

theorem Below.grownBy {w w' : World} (h : Below w.heap.size w w') (row : Option Nat) : w.grownBy w' row :=
  ⟨h.os, h.tape, h.output, h.size, fun k hk _ => h.block k hk⟩

theorem below_grown {w w' : World} (h : w.grownBy w' none) : Below w.heap.size w w' :=
  ⟨h.os, h.tape, h.output, h.size, fun k hk => h.block k hk (by simp)⟩

theorem RowAt.kept {w w' : World} {s : Value} {l : List Bool} (h : RowAt w s l) (hb : Below w.heap.size w w') : RowAt w' s l := by
  refine World.ownsRow.kept h (Below.grownBy hb none) ?_
  cases hs : s.ownBlock with
  | none => exact .inl rfl
  | some k => exact .inr (by simp)

theorem RowAt.form {w : World} {s : Value} {l : List Bool} (h : RowAt w s l) :
    (l = [] ∧ s = .slice none 0 0) ∨ ∃ g cap, s = .slice (some ⟨g, 0, none⟩) (nw l.length) cap ∧ nw l.length ≤ cap ∧ cap ≤ maxLen ∧ g < w.heap.size ∧ ∀ k, k < nw l.length → w.cell? ⟨g, k, none⟩ = some (.int .u64 (wd l k : Nat)) := by
  have h' := h
  obtain ⟨h1, h2⟩ := h
  rcases h2 with ⟨rfl, hn⟩ | ⟨g, cap, cur, rfl, hg, hh, hc1, hc2, hc3, hc4⟩
  · refine .inl ⟨?_, rfl⟩
    unfold nw at hn
    exact List.eq_nil_of_length_eq_zero (by omega)
  · refine .inr ⟨g, cap, rfl, hc1, hc2, ?_, ?_⟩
    · exact (World.ownsRow.lt h' g rfl).2
    · intro k hk
      rw [World.ownsRow.cellAt h' k (by omega)]
      simp [wlN, hk]

theorem Row_nil (w : World) : RowAt w (.slice none 0 0) [] := World.ownsRow_nil _ _ _ _

def getB (l : List Bool) (i : Int) : Bool := decide (0 ≤ i) && l.getD i.toNat false

theorem len_any (s : Value) (l : List Bool) (w : World) (h : RowAt w s l) :
    Calls Try.prog 29 #[.agg #[.int .i64 (l.length : Int), s]] w fun e w' => e = .returned (.int .i64 (l.length : Int)) ∧ Below w.heap.size w w' := by
  rcases h.form with ⟨rfl, rfl⟩ | ⟨g, cap, rfl, -⟩
  · go_enter Try.func29, Try.ntmps29
    go_wp2
    go_ret
    exact ⟨rfl, (Below.refl _ _).alloc (Nat.le_refl _) _⟩
  · generalize l.length = n
    go_enter Try.func29, Try.ntmps29
    go_wp2
    go_ret
    exact ⟨rfl, (Below.refl _ _).alloc (Nat.le_refl _) _⟩

theorem bit_eq (x j : Nat) (h : x < 2 ^ 64) : (bits .and .u64 ((x : Int) / 2 ^ j) 1 == 1) = x.testBit j := by
  have e : (x : Int) / 2 ^ j = ((x / 2 ^ j : Nat) : Int) := by
    rw [Int.natCast_ediv]; simp
  have hd : x / 2 ^ j < 2 ^ 64 := Nat.lt_of_le_of_lt (Nat.div_le_self _ _) h
  have e2 : bits .and .u64 ((x / 2 ^ j : Nat) : Int) 1 = ((x / 2 ^ j &&& 1 : Nat) : Int) := andU _ 1 hd (by decide)
  rw [e, e2, Nat.and_one_is_mod, Nat.testBit_eq_decide_div_mod_eq]
  rw [Bool.eq_iff_iff]
  simp
  omega

theorem ret_tup {b c : Bool} {v : Value} (h : b = c) : Ending.returned (.tuple #[.bool b, v]) = .returned (.tuple #[.bool c, v]) := by rw [h]

set_option maxHeartbeats 400000 in
theorem get_in (s : Value) (l : List Bool) (i : Nat) (w : World) (h : RowAt w s l) (hi : i < l.length) (hl : l.length ≤ 1000000000) :
    Calls Try.prog 45 #[.agg #[.int .i64 (l.length : Int), s], .int .i64 (i : Int)] w fun e w' => e = .returned (.tuple #[.bool (l.getD i false), .int .i64 0]) ∧ Below w.heap.size w w' := by
  rcases h.form with ⟨rfl, rfl⟩ | ⟨g, cap, rfl, h1, h2, h3, h4⟩
  · simp at hi
  · have hk : i / 64 < nw l.length := by unfold nw; omega
    have hc := h4 (i / 64) hk
    clear h4 h
    unfold maxLen at h2
    have hb : (bits .and .u64 ((wd l (i / 64) : Int) / 2 ^ (i % 64)) 1 == 1) = l.getD i false := by
      rw [bit_eq _ _ (wd_lt _ _), wd_bit _ _ _ (by omega)]
      rw [show 64 * (i / 64) + i % 64 = i by omega]
    have HB := Lib.hid hb
    generalize wd l (i / 64) = x at *
    generalize l.length = n at *
    generalize nw n = m at *
    clear hb
    go_enter Try.func45, Try.ntmps45
    go_wp2
    go_ret2
    exact ⟨ret_tup HB.out, (Below.refl _ _).alloc (Nat.le_refl _) _⟩

set_option maxHeartbeats 400000 in
theorem get_out (s : Value) (l : List Bool) (i : Int) (w : World) (h : RowAt w s l) (hi : i < 0 ∨ (l.length : Int) ≤ i) (hl : l.length ≤ 1000000000) :
    Calls Try.prog 45 #[.agg #[.int .i64 (l.length : Int), s], .int .i64 i] w fun e w' => e = .returned (.tuple #[.bool false, .int .i64 13]) ∧ Below w.heap.size w w' := by
  have key : ∀ (a : Option Addr) (n m c : Nat), n ≤ 1000000000 → (i < 0 ∨ (n : Int) ≤ i) → Calls Try.prog 45 #[.agg #[.int .i64 (n : Int), .slice a m c], .int .i64 i] w fun e w' => e = .returned (.tuple #[.bool false, .int .i64 13]) ∧ Below w.heap.size w w' := by
    intro a n m c hn hi
    by_cases h0 : i < 0
    · clear hi
      go_enter Try.func45, Try.ntmps45
      go_wp2
      go_ret2
      exact ⟨rfl, (Below.refl _ _).alloc (Nat.le_refl _) _⟩
    · have hi : (n : Int) ≤ i := by omega
      go_enter Try.func45, Try.ntmps45
      go_wp2
      go_ret2
      exact ⟨rfl, (Below.refl _ _).alloc (Nat.le_refl _) _⟩
  rcases h.form with ⟨rfl, rfl⟩ | ⟨g, cap, rfl, -⟩
  · exact key _ 0 0 0 (by omega) (by simpa using hi)
  · exact key _ _ _ _ hl hi

def oneI (l : List Bool) (i : Int) : Int := if getB l i then 1 else 0

theorem boxed (w : World) (n : Nat) (s : Value) : Below w.heap.size w (w.alloc (.cells #[.int .i64 (n : Int), s] 30)) := (Below.refl _ _).alloc (Nat.le_refl _) _

set_option maxHeartbeats 400000 in
theorem one_any (s : Value) (l : List Bool) (i : Int) (w : World) (h : RowAt w s l) (hl : l.length ≤ 1000000000) :
    Calls Try.prog 34 #[.agg #[.int .i64 (l.length : Int), s], .int .i64 i] w fun e w' => e = .returned (.int .i64 (oneI l i)) ∧ Below w.heap.size w w' := by
  have hform := h.form
  by_cases hi : i < 0 ∨ (l.length : Int) ≤ i
  · have hv : oneI l i = 0 := by
      unfold oneI getB
      rcases hi with hi | hi
      · simp [Int.not_le.2 hi]
      · rw [List.getD_eq_getElem?_getD, List.getElem?_eq_none (by omega)]; simp
    have HV := Lib.hid hv
    have hget := fun w1 (hb : Below w.heap.size w w1) => get_out s l i w1 (h.kept hb) hi hl
    have HG := Lib.hid hget
    clear hget hv hi
    have hbox := boxed w l.length s
    have HB := Lib.hid hbox
    clear hbox h
    rcases hform with ⟨rfl, rfl⟩ | ⟨g, cap, rfl, -⟩
    all_goals
      go_enter Try.func34, Try.ntmps34
      go_wp2_with fail
      refine (HG.out _ HB.out).mono ?_
      rintro e w' ⟨rfl, hb⟩
      go_wp2
      go_ret
      exact ⟨ret_int HV.out.symm, HB.out.trans (hb.mono (by simp))⟩
  · obtain ⟨k, rfl⟩ := Int.eq_ofNat_of_zero_le (a := i) (by omega)
    have hk : k < l.length := by omega
    have hv : oneI l k = if l.getD k false then 1 else 0 := by simp [oneI, getB]
    have HV := Lib.hid hv
    have hget := fun w1 (hb : Below w.heap.size w w1) => get_in s l k w1 (h.kept hb) hk hl
    have HG := Lib.hid hget
    clear hget hv hi hk
    have hbox := boxed w l.length s
    have HB := Lib.hid hbox
    clear hbox h
    generalize l.getD k false = b at *
    cases b
    all_goals
      rcases hform with ⟨rfl, rfl⟩ | ⟨g, cap, rfl, -⟩
      all_goals
        go_enter Try.func34, Try.ntmps34
        go_wp2_with fail
        refine (HG.out _ HB.out).mono ?_
        rintro e w' ⟨rfl, hb⟩
        go_wp2
        go_ret
        exact ⟨ret_int (by rw [HV.out]; rfl), HB.out.trans (hb.mono (by simp))⟩

end Go.Proofs.Ytfhlcclbjagdmaa
