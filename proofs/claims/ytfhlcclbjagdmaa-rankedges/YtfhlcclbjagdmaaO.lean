/- awake answers true. -/
import Derived.Test.YtfhlcclbjagdmaaN
namespace Go.Proofs.Ytfhlcclbjagdmaa
open Go.RowKit
open M

theorem row_kp {w w' : World} {X : Nat → Prop} {s : Value} {l : List Bool} (h : RowAt w s l) (hb : Kp X w w') (hx : ∀ k, s.ownBlock = some k → ¬ X k) : RowAt w' s l := by
  obtain ⟨h1, h2⟩ := h
  refine ⟨h1, ?_⟩
  rcases h2 with h2 | ⟨g, cap, cur, rfl, hg, hh, r⟩
  · exact .inl h2
  · have hlt : g < w.heap.size := by
      rcases Nat.lt_or_ge g w.heap.size with h | h
      · exact h
      · rw [Array.getElem?_eq_none h] at hh; simp at hh
    exact .inr ⟨g, cap, cur, rfl, hg, by rw [hb.block g hlt (hx g rfl)]; exact hh, r⟩

theorem Kp.toBelow {X : Nat → Prop} {B : Nat} {w w' : World} (h : Kp X w w') (hB : B ≤ w.heap.size) (hx : ∀ k, k < B → ¬ X k) : Below B w w' :=
  ⟨h.os, h.tape, h.output, h.size, fun k hk => h.block k (by omega) (hx k hk)⟩

theorem row_lt {w : World} {s : Value} {l : List Bool} (h : RowAt w s l) : ∀ k, s.ownBlock = some k → k < w.heap.size := fun k hk => (World.ownsRow.lt h k hk).2

theorem BuildAt.form {w : World} {pb : Nat} {s : Value} {l : List Bool} (h : BuildAt w pb s l) : ∃ a m c, s = .slice a m c := by
  rcases h.2.2.2.2.1.form with ⟨-, rfl⟩ | ⟨g, cap, rfl, -⟩
  · exact ⟨_, _, _, rfl⟩
  · exact ⟨_, _, _, rfl⟩

theorem BuildAt.kept {w w' : World} {pb : Nat} {s : Value} {l : List Bool} (h : BuildAt w pb s l) (hb : Below w.heap.size w w') : BuildAt w' pb s l := by
  obtain ⟨b1, b2, b3, b4, b5, b6⟩ := h
  have hp := World.block_lt_of_cell? w _ b1
  simp only at hp
  exact ⟨by rw [hb.cell (p := ⟨pb, 0, none⟩) hp]; exact b1, by rw [hb.cell (p := ⟨pb, 1, none⟩) hp]; exact b2, by rw [hb.frozen (p := ⟨pb, 0, none⟩) hp]; exact b3, by rw [hb.frozen (p := ⟨pb, 1, none⟩) hp]; exact b4, b5.kept hb, b6⟩

theorem BuildAt.lt {w : World} {pb : Nat} {s : Value} {l : List Bool} (h : BuildAt w pb s l) : pb < w.heap.size := World.block_lt_of_cell? w _ h.1

def L4 : List Bool := [true, false, true, true]

theorem make4 (b : Nat) (w : World) (h : ∀ j, j < 4 → w.cell? ⟨b, j, none⟩ = some (.bool (L4.getD j false))) (hb : b < w.heap.size) :
    Calls Try.prog 11 #[.slice (some ⟨b, 0, none⟩) 4 4] w fun e w' => e = .returned (.agg #[.int .i64 4, .slice (some ⟨w.heap.size + 1, 0, none⟩) 1 1]) ∧ RowAt w' (.slice (some ⟨w.heap.size + 1, 0, none⟩) 1 1) L4 ∧ Below w.heap.size w w' :=
  make_any (some ⟨b, 0, none⟩) 4 L4 w (.inr ⟨b, 0, rfl, hb, fun j hj => by rw [Nat.zero_add]; exact h j hj⟩) (by decide)

/-- The two cells of a boxed row. -/
def Bx (w : World) (b : Nat) (n : Nat) (s : Value) : Prop := w.cell? ⟨b, 0, none⟩ = some (.int .i64 (n : Int)) ∧ w.cell? ⟨b, 1, none⟩ = some s
theorem Bx.lt {w : World} {b n : Nat} {s : Value} (h : Bx w b n s) : b < w.heap.size := World.block_lt_of_cell? w _ h.1
theorem Bx.kept {w w' : World} {b n : Nat} {s : Value} (h : Bx w b n s) (hb : Below w.heap.size w w') : Bx w' b n s :=
  ⟨by rw [hb.cell (p := ⟨b, 0, none⟩) h.lt]; exact h.1, by rw [hb.cell (p := ⟨b, 1, none⟩) h.lt]; exact h.2⟩
theorem Bx.kp {X : Nat → Prop} {w w' : World} {b n : Nat} {s : Value} (h : Bx w b n s) (hb : Kp X w w') (hx : ¬ X b) : Bx w' b n s :=
  ⟨by rw [hb.cell (p := ⟨b, 0, none⟩) h.lt hx]; exact h.1, by rw [hb.cell (p := ⟨b, 1, none⟩) h.lt hx]; exact h.2⟩
theorem Bx.new (w : World) (n : Nat) (s : Value) : Bx (w.alloc (.cells #[.int .i64 (n : Int), s] 30)) w.heap.size n s := ⟨by simp, by simp⟩

/-- What awake has made, up to the builder's row. -/
def AW (w : World) (bb cb : Nat) (sb sc : Value) (wr : World) : Prop := Bx wr bb 4 sb ∧ RowAt wr sb L4 ∧ Bx wr cb 4 sc ∧ RowAt wr sc L4 ∧ Below w.heap.size w wr
theorem AW.kept {w wr w' : World} {bb cb : Nat} {sb sc : Value} (h : AW w bb cb sb sc wr) (hb : Below wr.heap.size wr w') : AW w bb cb sb sc w' :=
  ⟨h.1.kept hb, h.2.1.kept hb, h.2.2.1.kept hb, h.2.2.2.1.kept hb, h.2.2.2.2.trans (hb.mono h.2.2.2.2.size)⟩

theorem bytes4 : bytI L4 (p8 L4.length) = [13] := by decide

end Go.Proofs.Ytfhlcclbjagdmaa
