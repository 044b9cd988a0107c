/- The contracts of New and Load that refuse. -/
import Derived.Test.YtpnjccomngdblaaGreatZL
set_option maxRecDepth 100000
namespace Go.Proofs.YtpnjccomngdblaaGreat
open Go.RowKit
open M
attribute [local go_sem ↓] Go.wp_at_zero Go.wp_at_succ

/-- None at all. -/
abbrev FQN : FQ := ⟨0, 0, none, 0, 0, ⟨0, none, 0, 0, 0, 0, 0, none, 0, 0⟩, ⟨0, 0, 0, none, 0, 0⟩, ⟨0, 0, 0, none, 0, 0⟩⟩

set_option maxHeartbeats 1000000 in
theorem new_no (A : Option Addr) (n c : Nat) (l : List Int) (size : Int) (w : World) (hA : NumsAt .i64 w A l) (hl : l.length = n) (hn : n ≤ 1000000) (hno : ¬ (1 ≤ size ∧ size ≤ 65535) ∨ symB l size = false) :
    Calls Tryz.prog 32 #[.slice A n c, .int .i64 size] w fun e u => e = .returned (.tuple #[.agg #[.int .i64 0, .int .i64 0, .slice none 0 0, .int .i64 0, .slice none 0 0, .int .i64 0, .int .i64 0, .int .i64 0, .slice none 0 0, .int .i64 0, .int .i64 0, .int .i64 0, .slice none 0 0, .int .i64 0, .int .i64 0, .int .i64 0, .slice none 0 0], .int .i64 1]) ∧ Below w.heap.size w u := by
  have hb := al w (.cells #[.int .i64 0, .int .i64 0, .slice none 0 0, .int .i64 0, .slice none 0 0, .int .i64 0, .int .i64 0, .int .i64 0, .slice none 0 0, .int .i64 0, .int .i64 0, .int .i64 0, .slice none 0 0, .int .i64 0, .int .i64 0, .int .i64 0, .slice none 0 0] 37)
  have hsy := fun u (hu : Below w.heap.size w u) => syms_any A n c l size u (hA.kept hu) hl hn
  have hsz := fun u => fsz_any size u
  have hbx : MBx (w.alloc (.cells #[.int .i64 0, .int .i64 0, .slice none 0 0, .int .i64 0, .slice none 0 0, .int .i64 0, .int .i64 0, .int .i64 0, .slice none 0 0, .int .i64 0, .int .i64 0, .int .i64 0, .slice none 0 0, .int .i64 0, .int .i64 0, .int .i64 0, .slice none 0 0] 37)) w.heap.size FQN := MBx.new w FQN
  have HX := Lib.hid (And.intro hb (And.intro (hsy _ hb) (And.intro hsz hbx)))
  clear hA hl hn hb hsy hsz hbx
  by_cases h1 : 1 ≤ size ∧ size ≤ 65535
  · have h2 : symB l size = false := hno.resolve_left (fun h => h h1)
    rw [decide_eq_true h1, h2] at HX
    go_enter Tryz.func32, Tryz.ntmps32
    go_wp2_with fail
    (with_reducible refine (HX.out.2.2.1 _).mono ?_)
    rintro e u ⟨rfl, rfl⟩
    go_wp2_with fail
    (with_reducible refine HX.out.2.1.mono ?_)
    rintro e u ⟨rfl, rfl⟩
    go_wp2
    set_option maxHeartbeats 400000 in
    refine bodyPost_ret (results_fm2 (F := FQN) (b := w.heap.size) (v := .int .i64 1) Tryz.results32 _ ?hp ?hq HX.out.2.2.2) rfl ?_
    case hp => rfl
    case hq => rfl
    exact ⟨rfl, HX.out.1⟩
  · rw [decide_eq_false h1] at HX
    go_enter Tryz.func32, Tryz.ntmps32
    go_wp2_with fail
    (with_reducible refine (HX.out.2.2.1 _).mono ?_)
    rintro e u ⟨rfl, rfl⟩
    go_wp2
    set_option maxHeartbeats 400000 in
    refine bodyPost_ret (results_fm2 (F := FQN) (b := w.heap.size) (v := .int .i64 1) Tryz.results32 _ ?hp ?hq HX.out.2.2.2) rfl ?_
    case hp => rfl
    case hq => rfl
    exact ⟨rfl, HX.out.1⟩

end Go.Proofs.YtpnjccomngdblaaGreat
