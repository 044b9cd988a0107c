/- The contract of Make. -/
import Derived.Test.YtfhlcclbjagdmaaF
namespace Go.Proofs.Ytfhlcclbjagdmaa
open Go.RowKit
open M

/-- A slice that reads as these bits. -/
def BoolsAt (w : World) (a : Option Addr) (l : List Bool) : Prop :=
  l = [] ∨ ∃ b off, a = some ⟨b, off, none⟩ ∧ b < w.heap.size ∧ ∀ j, j < l.length → w.cell? ⟨b, off + j, none⟩ = some (.bool (l.getD j false))

theorem BoolsAt.kept {w w' : World} {a : Option Addr} {l : List Bool} (h : BoolsAt w a l) (hb : Below w.heap.size w w') : BoolsAt w' a l := by
  rcases h with h | ⟨b, off, h1, h2, h3⟩
  · exact .inl h
  · refine .inr ⟨b, off, h1, Nat.lt_of_lt_of_le h2 hb.size, fun j hj => ?_⟩
    rw [hb.cell (p := ⟨b, off + j, none⟩) h2]
    exact h3 j hj

theorem BoolsAt.take {w : World} {a : Option Addr} {l : List Bool} (h : BoolsAt w a l) (n : Nat) : BoolsAt w a (l.take n) := by
  rcases h with h | ⟨b, off, h1, h2, h3⟩
  · subst h; exact .inl (by simp)
  · refine .inr ⟨b, off, h1, h2, fun j hj => ?_⟩
    simp only [List.length_take] at hj
    rw [h3 j (by omega)]
    simp [List.getD_eq_getElem?_getD, show j < n by omega]

theorem wlN_length (l : List Bool) (m : Nat) : (wlN l m).length = m := by simp [wlN]

theorem wlN_false (l : List Bool) (m : Nat) : wlN (l ++ [false]) m = wlN l m := by simp [wlN, wd_snoc_false]

theorem wlN_set (l b : List Bool) (m k : Nat) (hk : k = l.length / 64) (h : l.length % 64 + b.length ≤ 64) : (wlN l m).set k (.int .u64 (wd (l ++ b) k : Nat)) = wlN (l ++ b) m := by
  apply List.ext_getElem
  · simp [wlN]
  · intro j h1 h2
    simp only [wlN, List.getElem_set, List.getElem_map, List.getElem_range]
    by_cases e : k = j
    · subst e; simp
    · simp only [e, if_false]
      rw [wd_append l b j h, if_neg (by omega)]

theorem or1 (l : List Bool) (k q : Nat) (hk : k = l.length / 64) (hq : q = l.length % 64) : bits .or .u64 (wd l k : Int) (IntKind.u64.wrap ((2 : Int) ^ q)) = (wd (l ++ [true]) k : Int) := by
  have h1 : 2 ^ q < 2 ^ 64 := Nat.pow_lt_pow_right (by decide) (by omega)
  have e : ((2 : Int) ^ q) = ((2 ^ q : Nat) : Int) := by simp
  rw [e, wrapU _ h1, bits_or_u64_nat _ _ (wd_lt l k) h1, wd_snoc_true, if_pos hk, hq]

theorem wl_empty (m : Nat) : wlN [] m = List.replicate m (.int .u64 0) := by
  apply List.ext_getElem <;> simp [wlN, wd, num]

theorem take_snoc (l : List Bool) (i : Nat) (b : Bool) (h : i < l.length) (hb : l.getD i false = b) : l.take (i + 1) = l.take i ++ [b] := by
  rw [List.take_succ_eq_append_getElem h]
  simp [List.getD_eq_getElem?_getD, h] at hb
  rw [hb]

theorem grown_setCell (w : World) (a : Addr) (u : Value) : w.grownBy (w.setCell a u) (some a.block) :=
  ⟨rfl, rfl, rfl, by simp, fun k _ hk => Below.heap_setCell _ _ _ _ (by intro e; exact hk (by rw [e]))⟩

theorem grown_trans {a b c : World} {row : Option Nat} (h : a.grownBy b row) (k : b.grownBy c row) : a.grownBy c row :=
  ⟨k.os.trans h.os, k.tape.trans h.tape, k.output.trans h.output, Nat.le_trans h.size k.size, fun i hi hn => (k.block i (Nat.lt_of_lt_of_le hi h.size) hn).trans (h.block i hi hn)⟩

/-- What holds while a row is made. -/
def MakeI (w : World) (l : List Bool) (m i : Nat) (wr : World) : Prop :=
  wr.ownsRow 0 47 1 (.slice (some ⟨w.heap.size + 1, 0, none⟩) m m) m (wlN (l.take i) m) ∧ wr.cell? ⟨w.heap.size, 0, none⟩ = some (.int .i64 0) ∧ wr.cell? ⟨w.heap.size, 1, none⟩ = some (.slice none 0 0) ∧
    wr.frozen? ⟨w.heap.size, 0, none⟩ = false ∧ wr.frozen? ⟨w.heap.size, 1, none⟩ = false ∧ Below w.heap.size w wr

theorem MakeI.drew {w wr : World} {l : List Bool} {m i : Nat} (h : MakeI w l m i wr) : MakeI w l m i wr.drew := by
  obtain ⟨r1, r2, r3, r4, r5, r6⟩ := h
  exact ⟨r1, r2, r3, r4, r5, r6.drew⟩

set_option maxHeartbeats 1000000 in
theorem make_any (a0 : Option Addr) (cap : Nat) (l : List Bool) (w : World) (h : BoolsAt w a0 l) (hl : l.length ≤ 1000000000) :
    Calls Try.prog 11 #[.slice a0 l.length cap] w fun e w' => e = .returned (.agg #[.int .i64 (l.length : Int), .slice (some ⟨w.heap.size + 1, 0, none⟩) (nw l.length) (nw l.length)]) ∧
      RowAt w' (.slice (some ⟨w.heap.size + 1, 0, none⟩) (nw l.length) (nw l.length)) l ∧ Below w.heap.size w w' := by
  have HB := Lib.hid h
  clear h
  generalize hn : l.length = n at *
  have HN := Lib.hid hn
  clear hn
  have hem := emptyWords_any (n : Int) 0 (w.alloc (Obj.cells #[Value.int .i64 0, .slice none 0 0] 30)) (by omega) (by omega) (by omega)
  rw [Int.toNat_natCast] at hem
  have HE := Lib.hid hem
  clear hem
  go_enter Try.func11, Try.ntmps11
  go_wp2_with fail
  refine HE.out.mono ?_
  rintro e w1 ⟨rfl, hown, hgrow⟩
  have hI : MakeI w l (nw n) 0 w1 := by
    refine ⟨by rw [List.take_zero, wl_empty]; simpa using hown, ?_, ?_, ?_, ?_, ?_⟩
    · rw [hgrow.cell_far _ (by simp) (by simp)]; simp
    · rw [hgrow.cell_far _ (by simp) (by simp)]; simp
    · rw [hgrow.frozen_far _ (by simp) (by simp)]; simp
    · rw [hgrow.frozen_far _ (by simp) (by simp)]; simp
    · exact ((Below.refl _ _).alloc (Nat.le_refl _) _).trans ((below_grown hgrow).mono (by simp))
  have HI := Lib.hid hI
  clear hI hown hgrow
  generalize hm : nw n = m at *
  have HM := Lib.hid hm
  clear hm
  go_wp2
  go_loopw [11] (fun v wr => ∃ i : Nat, i ≤ n ∧ v = .int .i64 (i : Int) ∧ MakeI w l m i wr) (fun v _ => n - (intOf v).toNat)
  case atStart => exact ⟨0, Nat.zero_le _, rfl, HI.out⟩
  case round =>
    obtain ⟨i, hi, rfl, hI⟩ := hrel
    by_cases hlt : i < n
    · obtain ⟨r1, r2, r3, r4, r5, r6⟩ := hI
      have hln := HN.out
      have hbool := HB.out.kept r6
      rcases hbool with hnil | ⟨b, off, rfl, hbs, hcs⟩
      · subst hnil; simp at hln; omega
      · have hcb := hcs i (by omega)
        have hts := fun (x : Bool) (hx : l.getD i false = x) => take_snoc l i x (by omega) hx
        generalize hx : l.getD i false = x at *
        cases x
        · have hI2 : MakeI w l m (i + 1) wr := ⟨by rw [hts false rfl, wlN_false]; exact r1, r2, r3, r4, r5, r6⟩
          have HI2 := Lib.hid hI2
          clear hI2 hts r1 r2 r3 r4 r5 r6 hcs hln hx
          go_wp2
          go_roundw
          case rel => exact ⟨i + 1, by omega, by go_num, HI2.out⟩
          case measure => simp [intOf]; omega
        · have hm : i / 64 < m := by have := HM.out; unfold nw at this; omega
          have hli : (l.take i).length = i := by simp; omega
          have hcw : wr.cell? ⟨w.heap.size + 1, i / 64, none⟩ = some (.int .u64 (wd (l.take i) (i / 64) : Nat)) := by
            rw [r1.cellAt (i / 64) (by omega)]; simp [wlN, hm]
          have hfz := r1.frozenAt (i / 64)
          have hor := or1 (l.take i) (i / 64) (i % 64) (by rw [hli]) (by rw [hli])
          have hst := (r1.stored (i / 64) (.int .u64 (wd (l.take i ++ [true]) (i / 64) : Nat))).1
          rw [wlN_set (l.take i) [true] m (i / 64) (by rw [hli]) (by simp; omega), ← hts true rfl] at hst
          rw [← hts true rfl] at hor
          have hI2 : MakeI w l m (i + 1) (wr.setCell ⟨w.heap.size + 1, i / 64, none⟩ (.int .u64 (wd (l.take (i + 1)) (i / 64) : Nat))) := by
            refine ⟨hst, ?_, ?_, ?_, ?_, ?_⟩
            · rw [World.cell?_setCell_other _ _ _ _ (by simp)]; exact r2
            · rw [World.cell?_setCell_other _ _ _ _ (by simp)]; exact r3
            · simpa using r4
            · simpa using r5
            · exact r6.setCell (by simp) _
          have HI2 := Lib.hid (And.intro hI2 hor)
          clear hI2 hor hst hts r1 r2 r3 r4 r5 r6 hcs hln hx hli
          generalize wd (l.take i) (i / 64) = y at *
          go_wp2
          have q1 : IntKind.i64.wrap ((i : Int) / 64) = (i : Int) / 64 := IntWalk.i64_in _ (by omega)
          have q2 : (i : Int).tmod 64 = ((i % 64 : Nat) : Int) := rfl
          have q6 : min (i % 64) 64 = i % 64 := by omega
          have q3 : ((i : Int) / 64).toNat = i / 64 := by omega
          have q4 : (0 : Int) ≤ (i : Int) / 64 := by omega
          have q5 : (i : Int) / 64 < (m : Int) := by omega
          go_still_tail 10, mixed
          clear q1 q2 q3 q4 q5
          go_wp2
          go_roundw
          case rel => exact ⟨i + 1, by omega, by go_num, by rw [HI2.out.2]; exact HI2.out.1.drew⟩
          case measure => simp [intOf]; omega
    · obtain rfl : i = n := by omega
      obtain ⟨r1, r2, r3, r4, r5, r6⟩ := hI
      have R1 := Lib.hid r1
      have R6 := Lib.hid r6
      clear r1 r6
      go_wp2
      refine bodyPost_ret (v := .agg #[.int .i64 (i : Int), .slice (some ⟨w.heap.size + 1, 0, none⟩) m m]) (by simp [results, Try.results11, go_sem, r2, r3]) rfl ?_
      have e1 : nw i = m := HM.out
      have e2 : l.length = i := HN.out
      have hr := R1.out
      rw [show l.take i = l by rw [← e2]; simp] at hr
      refine ⟨by rw [e1], ?_, (R6.out.setCell (by simp) _).setCell (by simp) _⟩
      have hg : wr.grownBy ((wr.setCell ⟨w.heap.size, 0, none⟩ (Value.int IntKind.i64 (i : Int))).setCell ⟨w.heap.size, 1, none⟩ (Value.slice (some ⟨w.heap.size + 1, 0, none⟩) m m)) (some w.heap.size) :=
        grown_trans (grown_setCell wr ⟨w.heap.size, 0, none⟩ _) (grown_setCell _ ⟨w.heap.size, 1, none⟩ _)
      have := hr.kept hg (.inr (by simp [Value.ownBlock]))
      unfold RowAt
      rw [e2, e1]
      exact this

end Go.Proofs.Ytfhlcclbjagdmaa
