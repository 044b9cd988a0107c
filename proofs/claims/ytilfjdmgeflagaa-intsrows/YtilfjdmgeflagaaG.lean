/- The contract of Make. -/
import Derived.Test.YtilfjdmgeflagaaF
namespace Go.Proofs.Ytilfjdmgeflagaa
open Go.RowKit
open M

/-- A slice that reads as these bits. -/
def BoolsAt (w : World) (a : Option Addr) (l : List Bool) : Prop :=
  l = [] ∨ ∃ b off, a = some ⟨b, off, none⟩ ∧ b < w.heap.size ∧ ∀ j, j < l.length → w.cell? ⟨b, off + j, none⟩ = some (.bool (l.getD j false))

theorem BoolsAt.kept {w w' : World} {a : Option Addr} {l : List Bool} (h : BoolsAt w a l) (hb : Below w.heap.size w w') : BoolsAt w' a l := by
  rcases h with h | ⟨b, off, h1, h2, h3⟩
  · exact .inl h
  · refine .inr ⟨b, off, h1, Nat.lt_of_lt_of_le h2 hb.size, fun j hj => ?_⟩
    rw [hb.cell (p := ⟨b, off + j, none⟩) h2]
    exact h3 j hj

theorem BoolsAt.take {w : World} {a : Option Addr} {l : List Bool} (h : BoolsAt w a l) (n : Nat) : BoolsAt w a (l.take n) := by
  rcases h with h | ⟨b, off, h1, h2, h3⟩
  · subst h; exact .inl (by simp)
  · refine .inr ⟨b, off, h1, h2, fun j hj => ?_⟩
    simp only [List.length_take] at hj
    rw [h3 j (by omega)]
    simp [List.getD_eq_getElem?_getD, show j < n by omega]

theorem wlN_length (l : List Bool) (m : Nat) : (wlN l m).length = m := by simp [wlN]

theorem wlN_false (l : List Bool) (m : Nat) : wlN (l ++ [false]) m = wlN l m := by simp [wlN, wd_snoc_false]

theorem wlN_set (l b : List Bool) (m k : Nat) (hk : k = l.length / 64) (h : l.length % 64 + b.length ≤ 64) : (wlN l m).set k (.int .u64 (wd (l ++ b) k : Nat)) = wlN (l ++ b) m := by
  apply List.ext_getElem
  · simp [wlN]
  · intro j h1 h2
    simp only [wlN, List.getElem_set, List.getElem_map, List.getElem_range]
    by_cases e : k = j
    · subst e; simp
    · simp only [e, if_false]
      rw [wd_append l b j h, if_neg (by omega)]

theorem or1 (l : List Bool) (k q : Nat) (hk : k = l.length / 64) (hq : q = l.length % 64) : bits .or .u64 (wd l k : Int) (IntKind.u64.wrap ((2 : Int) ^ q)) = (wd (l ++ [true]) k : Int) := by
  have h1 : 2 ^ q < 2 ^ 64 := Nat.pow_lt_pow_right (by decide) (by omega)
  have e : ((2 : Int) ^ q) = ((2 ^ q : Nat) : Int) := by simp
  rw [e, wrapU _ h1, bits_or_u64_nat _ _ (wd_lt l k) h1, wd_snoc_true, if_pos hk, hq]

theorem wl_empty (m : Nat) : wlN [] m = List.replicate m (.int .u64 0) := by
  apply List.ext_getElem <;> simp [wlN, wd, num]

theorem take_snoc (l : List Bool) (i : Nat) (b : Bool) (h : i < l.length) (hb : l.getD i false = b) : l.take (i + 1) = l.take i ++ [b] := by
  rw [List.take_succ_eq_append_getElem h]
  simp [List.getD_eq_getElem?_getD, h] at hb
  rw [hb]

theorem grown_setCell (w : World) (a : Addr) (u : Value) : w.grownBy (w.setCell a u) (some a.block) :=
  ⟨rfl, rfl, rfl, by simp, fun k _ hk => Below.heap_setCell _ _ _ _ (by intro e; exact hk (by rw [e]))⟩

theorem grown_trans {a b c : World} {row : Option Nat} (h : a.grownBy b row) (k : b.grownBy c row) : a.grownBy c row :=
  ⟨k.os.trans h.os, k.tape.trans h.tape, k.output.trans h.output, Nat.le_trans h.size k.size, fun i hi hn => (k.block i (Nat.lt_of_lt_of_le hi h.size) hn).trans (h.block i hi hn)⟩

/-- What holds while a row is made. -/
def MakeI (w : World) (l : List Bool) (m i : Nat) (wr : World) : Prop :=
  wr.ownsRow 0 62 1 (.slice (some ⟨w.heap.size + 1, 0, none⟩) m m) m (wlN (l.take i) m) ∧ wr.cell? ⟨w.heap.size, 0, none⟩ = some (.int .i64 0) ∧ wr.cell? ⟨w.heap.size, 1, none⟩ = some (.slice none 0 0) ∧
    wr.frozen? ⟨w.heap.size, 0, none⟩ = false ∧ wr.frozen? ⟨w.heap.size, 1, none⟩ = false ∧ Below w.heap.size w wr

theorem MakeI.drew {w wr : World} {l : List Bool} {m i : Nat} (h : MakeI w l m i wr) : MakeI w l m i wr.drew := by
  obtain ⟨r1, r2, r3, r4, r5, r6⟩ := h
  exact ⟨r1, r2, r3, r4, r5, r6.drew⟩

end Go.Proofs.Ytilfjdmgeflagaa
