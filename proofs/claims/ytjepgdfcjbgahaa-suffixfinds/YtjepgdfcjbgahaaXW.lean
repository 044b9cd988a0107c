/- What the reading of an argument says of it: a struct of a number, a bool and a slice of numbers. -/
import Derived.Test.YtjepgdfcjbgahaaFinds
import Derived.Lib.SmallJoins
set_option maxRecDepth 100000
namespace Go.Proofs.Ytjepgdfcjbgahaa
open Go.RowKit
open M

theorem cells34 : Try.prog.cellsOf 34 = 3 := by kernel_rfl
theorem ask_in {H : Type} {enc : TypeId × Value → H} {W : World} {r : Reach} {b0 : Nat} {v : Value} {x : DataW H} {pl : List MemPlace}
    (hv : Value.okWide Try.prog W r b0 34 v) (h : DataW.Trod enc Try.prog W 0 (fun _ => true) true 34 v x pl) :
    ∃ (q : Int) (raw : Bool) (C : Option Addr) (k e : Nat) (zs : List Int), v = .agg #[.int .i64 q, .bool raw, .slice C k e] ∧ NumsAt .i64 W C zs ∧ zs.length = k ∧ k ≤ e := by
  obtain ⟨v0, v1, v2, y0, y1, y2, fuel, rfl, -, -, h0, h1, h2⟩ := Go.Joins.open_agg3 Try.underlying34 (by kernel_rfl) cells34 hv h
  obtain ⟨q, z0, -, -⟩ := DataW.trod_int Try.underlying3 h0
  obtain ⟨b, z1, -⟩ := DataW.trod_bool Try.underlying4 h1
  simp at z0 z1
  subst z0 z1
  have e1 : ∃ A n c, v2 = .slice A n c := by
    rcases Go.ChangeShapes.open_ints Try.underlying22 Try.underlying3 cells3 h2 with ⟨hcs, _⟩ | ⟨a, l, c, B, hcs, _⟩
    · simp at hcs; exact ⟨_, _, _, hcs⟩
    · simp at hcs; exact ⟨_, _, _, hcs⟩
  obtain ⟨C, k, e, rfl⟩ := e1
  obtain ⟨zs, g1, g2, -, g3, -⟩ := nums_in2 (enc := enc) (W := W) (a0 := C) (len := k) (cap := e) (x := y2.1) (pl := y2.2) Try.underlying22 Try.underlying3 cells3 ⟨fuel, h2⟩
  exact ⟨q, b, C, k, e, zs, rfl, g3, g1, g2⟩

end Go.Proofs.Ytjepgdfcjbgahaa
