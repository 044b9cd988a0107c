/- The way of a symbol through the rows: the contract of forks. -/
import Derived.Test.YtpnjccomngdblaaGreatWQ
import Derived.Deep.CutRange
import Derived.Deep.CutBlock
set_option maxRecDepth 100000
namespace Go.Proofs.YtpnjccomngdblaaGreat
open Go.RowKit
open M
attribute [local go_sem ↓] Go.wp_at_zero Go.wp_at_succ

theorem info111 : (Tryz.prog.info? 111).map (fun i => (i.zero, i.size, i.bytes)) = some (some (.agg #[.int .i64 0, .slice none 0 0, .int .i64 0, .int .i64 0, .int .i64 0, .slice none 0 0, .int .i64 0, .int .i64 0, .int .i64 0, .int .i64 0, .int .i64 0]), 11, 120) := by kernel_rfl

/-- The cells of a fork, at a place of a block. -/
structure FCx (w : World) (b o : Nat) (F : FP) : Prop where
  c0 : w.cell? ⟨b, o, none⟩ = some (.int .i64 (F.R.n : Int))
  c1 : w.cell? ⟨b, o + 1, none⟩ = some (.slice F.R.a F.R.m F.R.c)
  c2 : w.cell? ⟨b, o + 2, none⟩ = some (.int .i64 (F.R.cn : Int))
  c3 : w.cell? ⟨b, o + 3, none⟩ = some (.int .i64 (F.R.cW : Int))
  c4 : w.cell? ⟨b, o + 4, none⟩ = some (.int .i64 (F.R.cL : Int))
  c5 : w.cell? ⟨b, o + 5, none⟩ = some (.slice F.R.a2 F.R.m2 F.R.c2)
  c6 : w.cell? ⟨b, o + 6, none⟩ = some (.int .i64 (F.b : Int))
  c7 : w.cell? ⟨b, o + 7, none⟩ = some (.int .i64 (F.m : Int))
  c8 : w.cell? ⟨b, o + 8, none⟩ = some (.int .i64 (F.e : Int))
  c9 : w.cell? ⟨b, o + 9, none⟩ = some (.int .i64 (F.z : Int))
  c10 : w.cell? ⟨b, o + 10, none⟩ = some (.int .i64 (F.o : Int))
def fcl (F : FP) : List Value := [.int .i64 (F.R.n : Int), .slice F.R.a F.R.m F.R.c, .int .i64 (F.R.cn : Int), .int .i64 (F.R.cW : Int), .int .i64 (F.R.cL : Int), .slice F.R.a2 F.R.m2 F.R.c2, .int .i64 (F.b : Int), .int .i64 (F.m : Int), .int .i64 (F.e : Int), .int .i64 (F.z : Int), .int .i64 (F.o : Int)]
def F0 : FP := ⟨R0, 0, 0, 0, 0, 0⟩
theorem fcl_at (Fs : List FP) (j i : Nat) (hj : j < Fs.length) (hi : i < 11) : (Fs.flatMap fcl)[j * 11 + i]? = (fcl (Fs.getD j F0))[i]? := by
  induction Fs generalizing j with
  | nil => simp at hj
  | cons R r ih =>
    rw [List.flatMap_cons]
    cases j with
    | zero =>
      rw [Nat.zero_mul, Nat.zero_add, List.getElem?_append_left (by simp [fcl]; omega)]; simp
    | succ j =>
      rw [List.getElem?_append_right (by simp [fcl]; omega)]
      have := ih j (by simpa using hj)
      rw [show (j + 1) * 11 + i - (fcl R).length = j * 11 + i by simp [fcl]; omega, this]
      simp
theorem FCx.of_own {w : World} {B g cap n : Nat} {Fs : List FP} (h : w.ownsRow B 111 11 (.slice (some ⟨g, 0, none⟩) n cap) n (Fs.flatMap fcl)) (hn : Fs.length = n) (j : Nat) (hj : j < n) : FCx w g (j * 11) (Fs.getD j F0) := by
  have hc : ∀ i, i < 11 → w.cell? ⟨g, j * 11 + i, none⟩ = (fcl (Fs.getD j F0))[i]? := fun i hi => by
    rw [← fcl_at Fs j i (by omega) hi]
    exact h.cellAt (j * 11 + i) (by omega)
  exact ⟨by simpa [fcl] using hc 0 (by omega), by simpa [fcl] using hc 1 (by omega), by simpa [fcl] using hc 2 (by omega), by simpa [fcl] using hc 3 (by omega), by simpa [fcl] using hc 4 (by omega), by simpa [fcl] using hc 5 (by omega), by simpa [fcl] using hc 6 (by omega), by simpa [fcl] using hc 7 (by omega), by simpa [fcl] using hc 8 (by omega), by simpa [fcl] using hc 9 (by omega), by simpa [fcl] using hc 10 (by omega)⟩

/-- The forks of the first k rows on the way of c. -/
structure FF (w : World) (l : List Int) (W c k : Nat) (Fs : List FP) : Prop where
  len : Fs.length = k
  at_ : ∀ j, j < k → (Fs.getD j F0).b = begN l (W - j) (c / 2 ^ (W - j)) ∧ (Fs.getD j F0).e = posN l (W - j) (c / 2 ^ (W - j)) l.length ∧ ∀ w', Below w.heap.size w w' → FK w' (Fs.getD j F0) (rowK l W j)
theorem FF.app {w : World} {l : List Int} {W c k : Nat} {Fs : List FP} {F : FP} (h : FF w l W c k Fs) (h1 : F.b = begN l (W - k) (c / 2 ^ (W - k))) (h2 : F.e = posN l (W - k) (c / 2 ^ (W - k)) l.length) (h3 : ∀ w', Below w.heap.size w w' → FK w' F (rowK l W k)) : FF w l W c (k + 1) (Fs ++ [F]) := by
  refine ⟨by simp [h.len], fun j hj => ?_⟩
  by_cases hlt : j < k
  · have e2 : (Fs ++ [F]).getD j F0 = Fs.getD j F0 := by simp [List.getD_eq_getElem?_getD, List.getElem?_append_left (show j < Fs.length by rw [h.len]; exact hlt)]
    rw [e2]; exact h.at_ j hlt
  · obtain rfl : j = k := by omega
    have e2 : (Fs ++ [F]).getD j F0 = F := by rw [← h.len]; simp [List.getD_eq_getElem?_getD]
    rw [e2]; exact ⟨h1, h2, h3⟩

/-- Forks in a list of the call's own. -/
def OF (w : World) (v : Value) (Fs : List FP) (u : World) : Prop := u.ownsRow w.heap.size 111 11 v Fs.length (Fs.flatMap fcl) ∧ Below w.heap.size w u
theorem OF.kept {w u u' : World} {v : Value} {Fs : List FP} (h : OF w v Fs u) (hb : Below u.heap.size u u') : OF w v Fs u' := ⟨own_kept h.1 hb, h.2.trans (hb.mono h.2.size)⟩
theorem OF.alloc {w u : World} {v : Value} {Fs : List FP} (h : OF w v Fs u) (o : Obj) : OF w v Fs (u.alloc o) := h.kept ((Below.refl _ _).alloc (Nat.le_refl _) _)
theorem OF.app {w u u' : World} {v v' : Value} {l l' : List FP} (h : OF w v l u) (hown : u'.ownsRow w.heap.size 111 11 v' l'.length (l'.flatMap fcl)) (hg : u.grownBy u' v.ownBlock) : OF w v' l' u' := by
  have hk : Kp (fun k => v.ownBlock = some k) u u' := (Kp.refl _ u).grown hg (fun k hk _ => hk)
  exact ⟨hown, h.2.trans (hk.toBelow h.2.size (fun k hk e => by have := (h.1.lt k e).1; omega))⟩

theorem next_b {w u : World} {F : FP} (d : Bool) (x : Int) (hx : x = b2i d) (p q : Nat) (h1 : nb F d = p) (h2 : ne F d = q) (hu : Below w.heap.size w u) :
    Calls Tryz.prog 86 #[.agg #[.int .i64 (F.R.n : Int), .slice F.R.a F.R.m F.R.c, .int .i64 (F.R.cn : Int), .int .i64 (F.R.cW : Int), .int .i64 (F.R.cL : Int), .slice F.R.a2 F.R.m2 F.R.c2, .int .i64 (F.b : Int), .int .i64 (F.m : Int), .int .i64 (F.e : Int), .int .i64 (F.z : Int), .int .i64 (F.o : Int)], .int .i64 x] u fun e u' => e = .returned (.tuple #[.int .i64 (p : Int), .int .i64 (q : Int)]) ∧ Below w.heap.size w u' ∧ Below u.heap.size u u' :=
  (next_any F d x hx u).mono fun _ _ hh => ⟨by rw [hh.1, h1, h2], hu.trans (hh.2.mono hu.size), hh.2⟩

/-- A boxed fork's cells, and those of a boxed row of symbols. -/
theorem fbs_of {cb bx : Nat} {F : FP} {n size : Int} {s : Value} {w u : World} (h : FBx w cb F) (h2 : WBx w bx n size s) (hb : Below w.heap.size w u) : (u.cell? ⟨cb, 0, none⟩ = some (.int .i64 (F.R.n : Int)) ∧ u.cell? ⟨cb, 1, none⟩ = some (.slice F.R.a F.R.m F.R.c) ∧ u.cell? ⟨cb, 2, none⟩ = some (.int .i64 (F.R.cn : Int)) ∧ u.cell? ⟨cb, 3, none⟩ = some (.int .i64 (F.R.cW : Int)) ∧ u.cell? ⟨cb, 4, none⟩ = some (.int .i64 (F.R.cL : Int)) ∧ u.cell? ⟨cb, 5, none⟩ = some (.slice F.R.a2 F.R.m2 F.R.c2) ∧ u.cell? ⟨cb, 6, none⟩ = some (.int .i64 (F.b : Int)) ∧ u.cell? ⟨cb, 7, none⟩ = some (.int .i64 (F.m : Int)) ∧ u.cell? ⟨cb, 8, none⟩ = some (.int .i64 (F.e : Int)) ∧ u.cell? ⟨cb, 9, none⟩ = some (.int .i64 (F.z : Int)) ∧ u.cell? ⟨cb, 10, none⟩ = some (.int .i64 (F.o : Int))) ∧ u.cell? ⟨bx, 0, none⟩ = some (.int .i64 n) ∧ u.cell? ⟨bx, 1, none⟩ = some (.int .i64 size) ∧ u.cell? ⟨bx, 2, none⟩ = some s := by
  have h2 := h2.kept hb
  exact ⟨fs_of h hb, h2.c0, h2.c1, h2.c2⟩

/-- What forks tells. -/
def ForksEnd (w : World) (l : List Int) (W c : Nat) (e : Ending) (w' : World) : Prop :=
  ∃ v Fs, e = .returned (.tuple #[v, .int .i64 (begN l 0 c : Nat), .int .i64 (posN l 0 c l.length : Nat)]) ∧ FF w l W c W Fs ∧ OF w v Fs w'

end Go.Proofs.YtpnjccomngdblaaGreat
