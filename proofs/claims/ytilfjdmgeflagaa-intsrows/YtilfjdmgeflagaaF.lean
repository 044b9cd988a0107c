/- The contract of Bytes. -/
import Derived.Test.YtilfjdmgeflagaaD
import Derived.Laws.BytesArg
namespace Go.Proofs.Ytilfjdmgeflagaa
open Go.RowKit
open M

theorem info5 : (Try.prog.info? 5).map (fun i => (i.zero, i.size, i.bytes)) = some (some (.int .u8 0), 1, 1) := by kernel_rfl

/-- Byte i of a row. -/
def byt (l : List Bool) (i : Nat) : Nat := num ((l.drop (8 * i)).take 8)
/-- The bytes of a row, as numbers. -/
def bytI (l : List Bool) (i : Nat) : List Int := (List.range i).map fun k => (byt l k : Int)

theorem byt_lt (l : List Bool) (i : Nat) : byt l i < 256 := by
  have h := num_lt ((l.drop (8 * i)).take 8)
  have h2 : (2 : Nat) ^ ((l.drop (8 * i)).take 8).length ≤ 2 ^ 8 := Nat.pow_le_pow_right (by decide) (by simp; omega)
  exact Nat.lt_of_lt_of_le h h2

theorem byt_wd (l : List Bool) (i : Nat) : wd l (i * 8 / 64) / 2 ^ (i * 8 % 64) % 256 = byt l i := by
  have h := wd_piece l (i * 8) 8 (by omega)
  rw [show (2 : Nat) ^ 8 - 1 = 2 ^ 8 - 1 from rfl, Nat.and_two_pow_sub_one_eq_mod] at h
  rw [byt, Nat.mul_comm 8 i]
  exact h

theorem byt_int (l : List Bool) (i : Nat) : (wd l (i * 8 / 64) : Int) / 2 ^ (i * 8 % 64) % 256 = (byt l i : Int) := by
  have e : (wd l (i * 8 / 64) : Int) / 2 ^ (i * 8 % 64) = ((wd l (i * 8 / 64) / 2 ^ (i * 8 % 64) : Nat) : Int) := by
    rw [Int.natCast_ediv]; simp
  rw [e, ← byt_wd l i]
  omega

/-- The cells of the first i bytes are written, those behind are 0. -/
def byCells (l : List Bool) (n i : Nat) : List Value := (List.range n).map fun k => Value.int .u8 (if k < i then (byt l k : Int) else 0)

theorem byCells_set (l : List Bool) (n i : Nat) : (byCells l n i).set i (.int .u8 (byt l i : Int)) = byCells l n (i + 1) := by
  apply List.ext_getElem
  · simp [byCells]
  · intro j h1 h2
    simp only [byCells, List.getElem_set, List.getElem_map, List.getElem_range]
    by_cases e : i = j
    · subst e; simp
    · simp only [e, if_false]
      by_cases h : j < i
      · simp [h, show j < i + 1 by omega]
      · simp [h, show ¬ j < i + 1 by omega]

set_option maxHeartbeats 1000000 in
theorem bytes_any (a0 : Option Addr) (m cap : Nat) (l : List Bool) (w : World) (h : RowAt w (.slice a0 m cap) l) (hl : l.length ≤ 1000000000) :
    Calls Try.prog 36 #[.agg #[.int .i64 (l.length : Int), .slice a0 m cap]] w fun e w' => e = .returned (.string (strOfNums (bytI l (p8 l.length)))) ∧ Below w.heap.size w w' := by
  obtain ⟨i0, hi, hz0, hz1, hz2⟩ := info_parts info5
  have hp8 : p8 l.length ≤ 1000000000 := by unfold p8; omega
  have HR := Lib.hid h
  clear h
  generalize hn : l.length = n at *
  have HN := Lib.hid hn
  clear hn
  go_enter Try.func36, Try.ntmps36
  go_wp2_with fail
  refine (parts8 (n : Int) _ (by omega) (by omega)).mono ?_
  rintro e w' ⟨rfl, rfl⟩
  rw [Int.toNat_natCast]
  generalize hp : p8 n = k at *
  have HP := Lib.hid hp
  clear hp
  go_wp2_with (first | (at_make; refine wpList_make_full _ rfl _ _ 55 rfl (w.heap.size + 1) 5 i0 (.int .u8 0) 1 Try.underlying55 hi hz0 hz1 _ _ _ _ k rfl rfl rfl rfl ?b2 ?b3 ?b4 ?_))
  case b2 => rw [hz2]; omega
  case b3 => unfold maxLen; omega
  case b4 => simp
  intro w1 hown hgrow
  have hown0 : w1.ownsRow (w.heap.size + 1) 5 1 (Value.slice (some ⟨w.heap.size + 1, 0, none⟩) k k) k (byCells l k 0) := by
    rw [toList_madeCells_one] at hown
    rw [show byCells l k 0 = List.replicate k (Value.int .u8 0) from ?_]
    · exact hown
    · apply List.ext_getElem <;> simp [byCells]
  have hbox : w1.cell? ⟨w.heap.size, 1, none⟩ = some (.slice a0 m cap) := by
    rw [hgrow.cell_far _ (by simp) (by simp)]; simp
  have hbel : Below w.heap.size w w1 := (((Below.refl _ _).alloc (Nat.le_refl _) _).trans ((below_grown hgrow).mono (by simp)))
  clear hown hgrow
  have H1 := Lib.hid (And.intro hown0 (And.intro hbox hbel))
  clear hown0 hbox hbel
  go_wp2
  go_loopw [12] (fun v wr => ∃ i : Nat, i ≤ k ∧ v = .int .i64 (i : Int) ∧ wr.ownsRow (w.heap.size + 1) 5 1 (Value.slice (some ⟨w.heap.size + 1, 0, none⟩) k k) k (byCells l k i) ∧ wr.cell? ⟨w.heap.size, 1, none⟩ = some (.slice a0 m cap) ∧ Below w.heap.size w wr) (fun v _ => k - (intOf v).toNat)
  case atStart => exact ⟨0, Nat.zero_le _, rfl, H1.out⟩
  case round =>
    obtain ⟨i, hik, rfl, r1, r2, r3⟩ := hrel
    by_cases hlt : i < k
    · have hrow := HR.out.kept r3
      have hform := hrow.form
      rcases hform with ⟨hnil, -⟩ | ⟨g, cap', hs, g1, g2, g3, g4⟩
      · exfalso
        subst hnil
        have := HN.out
        have := HP.out
        simp at *
        subst_vars
        simp [p8] at *
      · have hn2 : i * 8 / 64 < nw l.length := by have := HP.out; have := HN.out; unfold p8 at *; unfold nw; omega
        have hc := g4 _ hn2
        have hfz := r1.frozenAt i
        have hcw : wr.cell? ⟨w.heap.size + 1, i, none⟩ = some (.int .u8 0) := by
          rw [r1.cellAt i (by omega)]; simp [byCells, hlt]
        have hst := (r1.stored i (.int .u8 (byt l i : Int))).1
        rw [byCells_set l k i] at hst
        have hbox2 : (wr.setCell ⟨w.heap.size + 1, i, none⟩ (.int .u8 (byt l i : Int))).cell? ⟨w.heap.size, 1, none⟩ = some (.slice a0 m cap) := by
          rw [World.cell?_setCell_other _ _ _ _ (by simp)]; exact r2
        have hb2 : Below w.heap.size w (wr.setCell ⟨w.heap.size + 1, i, none⟩ (.int .u8 (byt l i : Int))) := r3.setCell (by simp) _
        have HX := Lib.hid (And.intro hst (And.intro hbox2 hb2))
        have HV := Lib.hid (byt_int l i)
        clear hst hbox2 hb2 g4 hrow r1 r3
        simp only [Value.slice.injEq] at hs
        obtain ⟨rfl, rfl, rfl⟩ := hs
        unfold maxLen at g2
        generalize wd l (i * 8 / 64) = x at *
        generalize nw l.length = m at *
        go_wp2
        go_roundw
        case rel => exact ⟨i + 1, by omega, by go_num, by rw [HV.out]; exact HX.out⟩
        case measure => simp [intOf]; omega
    · obtain rfl : i = k := by omega
      have hcv := run_convert_bytes_arg (P := Try.prog) wr 55 5 Try.underlying55 Try.underlying5 (w.heap.size + 1) 0 i i (bytI l i) (by simp [bytI]) (by
        intro j hj
        rw [Nat.zero_add, r1.cellAt j (by omega)]
        simp [byCells, bytI, hj]) 9 Try.underlying9
      have R3 := Lib.hid r3
      clear r1 r2 r3
      go_wp2
      go_ret
      exact ⟨by rw [HP.out]; rfl, R3.out⟩

end Go.Proofs.Ytilfjdmgeflagaa
