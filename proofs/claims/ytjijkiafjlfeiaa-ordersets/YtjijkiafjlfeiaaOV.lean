/- Lists that rise, held against each other: the contracts of the closures, of beside, Merge, Both, Without. -/
import Derived.Test.YtjijkiafjlfeiaaOU
import Derived.Deep.LoopGhost
set_option maxRecDepth 100000
namespace Go.Proofs.Ytjijkiafjlfeiaa
open Go.RowKit
open M
attribute [local go_sem ↓] Go.wp_at_zero Go.wp_at_succ

/-- What beside holds: the closure in its box, and the list that it makes. -/
structure BX (w : World) (kv v : Value) (p : List Int) (u : World) : Prop where
  k0 : u.cell? ⟨w.heap.size, 0, none⟩ = some kv
  o0 : u.cell? ⟨w.heap.size + 1, 0, none⟩ = some v
  oz : u.frozen? ⟨w.heap.size + 1, 0, none⟩ = false
  own : u.ownsRow (w.heap.size + 2) 3 1 v p.length (p.map (Value.int .i64))
  bel : Below w.heap.size w u
variable {w u u' : World} {kv v v' : Value} {p : List Int}
theorem BX.kept (h : BX w kv v p u) (hb : Below u.heap.size u u') : BX w kv v p u' :=
  ⟨by rw [hb.cell (p := ⟨w.heap.size, 0, none⟩) (World.block_lt_of_cell? u _ h.k0)]; exact h.k0, by rw [hb.cell (p := ⟨w.heap.size + 1, 0, none⟩) (World.block_lt_of_cell? u _ h.o0)]; exact h.o0, by rw [hb.frozen (p := ⟨w.heap.size + 1, 0, none⟩) (World.block_lt_of_cell? u _ h.o0)]; exact h.oz, own_kept h.own hb, h.bel.trans (hb.mono h.bel.size)⟩
theorem BX.lt (h : BX w kv v p u) : w.heap.size + 1 < u.heap.size := World.block_lt_of_cell? u _ h.o0
theorem BX.app {p' : List Int} (h : BX w kv v p u) (hown : u'.ownsRow (w.heap.size + 2) 3 1 v' p'.length (p'.map (Value.int .i64))) (hg : u.grownBy u' v.ownBlock) : BX w kv v' p' (u'.setCell ⟨w.heap.size + 1, 0, none⟩ v') := by
  have hk : Kp (fun k => v.ownBlock = some k) u u' := (Kp.refl _ u).grown hg (fun k hk _ => hk)
  have hlt := h.lt
  have hno : ∀ k, v.ownBlock = some k → w.heap.size + 2 ≤ k := fun k e => (h.own.lt k e).1
  have o1 : u'.cell? ⟨w.heap.size + 1, 0, none⟩ = some v := by rw [hk.cell (p := ⟨w.heap.size + 1, 0, none⟩) hlt (fun e => by have := hno _ e; simp only at this; omega)]; exact h.o0
  have k1 : u'.cell? ⟨w.heap.size, 0, none⟩ = some kv := by rw [hk.cell (p := ⟨w.heap.size, 0, none⟩) (by simp only; omega) (fun e => by have := hno _ e; simp only at this; omega)]; exact h.k0
  have z1 : u'.frozen? ⟨w.heap.size + 1, 0, none⟩ = false := by rw [hk.frozen (p := ⟨w.heap.size + 1, 0, none⟩) hlt (fun e => by have := hno _ e; simp only at this; omega)]; exact h.oz
  refine ⟨by rw [World.cell?_setCell_other _ _ _ _ (ne_addr (by omega))]; exact k1, by rw [cell_set _ _ _ _ _ _ o1, if_pos rfl], by simpa using z1, ?_, (h.bel.trans (hk.toBelow h.bel.size (fun k hk e => by have := hno _ e; omega))).setCell (by simp only; omega) _⟩
  refine own_kp hown ((Kp.refl (fun k => k = w.heap.size + 1) u').setCell (.inl rfl) v') (fun k e => ?_)
  have := (hown.lt k e).1
  omega
def k36 (_ _ : Bool) : Bool := true
def k37 (x y : Bool) : Bool := x && y
def k38 (_ y : Bool) : Bool := !y

theorem keep36_any (x y : Bool) (w : World) : Calls Try.prog 36 #[.bool x, .bool y] w fun e w' => e = .returned (.bool (k36 x y)) ∧ w' = w := by
  cases x <;> cases y
  all_goals
    go_enter Try.func36, Try.ntmps36
    go_wp2
    go_ret
    exact ⟨rfl, rfl⟩

theorem take36_any (n : Int) (x y : Bool) (w u : World) (v : Value) (p : List Int) (h : BX w (.func (.func 36) #[] #[]) v p u) (hp : p.length ≤ 1000000) :
    Calls Try.prog 42 #[.int .i64 n, .bool x, .bool y, .pointer (some ⟨w.heap.size, 0, none⟩), .pointer (some ⟨w.heap.size + 1, 0, none⟩)] u fun e u' => e = .returned (.tuple #[]) ∧ ∃ v', BX w (.func (.func 36) #[] #[]) v' (p ++ if (k36 x y) = true then [n] else []) u' := by
  have k0 := h.k0
  have o0 := h.o0
  have oz := h.oz
  have hkp := keep36_any x y u
  have hlt := h.lt
  have hal : BX w (.func (.func 36) #[] #[]) v p (u.alloc (.cells #[.int .i64 n] 3)) := h.kept (al _ _)
  have HH := Lib.hid (And.intro h hal)
  have HK := Lib.hid hkp
  clear h hkp hal
  obtain ⟨k, hk⟩ : ∃ k, k = (k36 x y) := ⟨_, rfl⟩
  rw [← hk] at HK ⊢
  clear hk
  go_enter Try.func42, Try.ntmps42
  go_wp2_with fail
  (with_reducible refine HK.out.mono ?_)
  rintro e u1 ⟨rfl, rfl⟩
  cases k with
  | false =>
    go_wp2
    go_end0
    exact ⟨rfl, v, by first | exact HH.out.1 | (rw [if_neg (by decide), List.append_nil]; exact HH.out.1)⟩
  | true =>
    go_wp2_with (first
      | (at_builtin
         refine wpList_append_nums rfl (.tmp 12) (.tmp 14) rfl (w.heap.size + 2) _ _ _ rfl HH.out.2.own (some ⟨_, 0, none⟩) 1 1 [n] rfl rfl ?c1 (by simp) ?c2 ?c3 ?_))
    case c1 => exact nums_one _ _
    case c2 => omega
    case c3 => first | omega | (simp; omega)
    intro v' w5 hown hgrow _
    have hb5 := HH.out.2.app (p' := p ++ [n]) (by simpa using hown) hgrow
    have o5 : ∃ v5, w5.cell? ⟨w.heap.size + 1, 0, none⟩ = some v5 := by
      have hk : Kp (fun k => v.ownBlock = some k) (u1.alloc (.cells #[.int .i64 n] 3)) w5 := (Kp.refl _ _).grown hgrow (fun k hk _ => hk)
      exact ⟨v, by rw [hk.cell (p := ⟨w.heap.size + 1, 0, none⟩) HH.out.2.lt (fun e => by have := (HH.out.2.own.lt _ e).1; simp only at this; omega)]; exact HH.out.2.o0⟩
    have z5 : w5.frozen? ⟨w.heap.size + 1, 0, none⟩ = false := by
      have := hb5.oz
      simpa using this
    obtain ⟨v5, o5⟩ := o5
    obtain ⟨a', cap', rfl, -⟩ := nums_of_own hb5.own
    rw [show (p ++ [n]).length = p.length + 1 by simp] at hb5
    have H5 := Lib.hid hb5
    clear hown hgrow hb5 k0 o0 oz
    go_wp2
    go_end0
    exact ⟨rfl, _, H5.out⟩

theorem keep37_any (x y : Bool) (w : World) : Calls Try.prog 37 #[.bool x, .bool y] w fun e w' => e = .returned (.bool (k37 x y)) ∧ w' = w := by
  cases x <;> cases y
  all_goals
    go_enter Try.func37, Try.ntmps37
    go_wp2
    go_ret
    exact ⟨rfl, rfl⟩

theorem take37_any (n : Int) (x y : Bool) (w u : World) (v : Value) (p : List Int) (h : BX w (.func (.func 37) #[] #[]) v p u) (hp : p.length ≤ 1000000) :
    Calls Try.prog 42 #[.int .i64 n, .bool x, .bool y, .pointer (some ⟨w.heap.size, 0, none⟩), .pointer (some ⟨w.heap.size + 1, 0, none⟩)] u fun e u' => e = .returned (.tuple #[]) ∧ ∃ v', BX w (.func (.func 37) #[] #[]) v' (p ++ if (k37 x y) = true then [n] else []) u' := by
  have k0 := h.k0
  have o0 := h.o0
  have oz := h.oz
  have hkp := keep37_any x y u
  have hlt := h.lt
  have hal : BX w (.func (.func 37) #[] #[]) v p (u.alloc (.cells #[.int .i64 n] 3)) := h.kept (al _ _)
  have HH := Lib.hid (And.intro h hal)
  have HK := Lib.hid hkp
  clear h hkp hal
  obtain ⟨k, hk⟩ : ∃ k, k = (k37 x y) := ⟨_, rfl⟩
  rw [← hk] at HK ⊢
  clear hk
  go_enter Try.func42, Try.ntmps42
  go_wp2_with fail
  (with_reducible refine HK.out.mono ?_)
  rintro e u1 ⟨rfl, rfl⟩
  cases k with
  | false =>
    go_wp2
    go_end0
    exact ⟨rfl, v, by first | exact HH.out.1 | (rw [if_neg (by decide), List.append_nil]; exact HH.out.1)⟩
  | true =>
    go_wp2_with (first
      | (at_builtin
         refine wpList_append_nums rfl (.tmp 12) (.tmp 14) rfl (w.heap.size + 2) _ _ _ rfl HH.out.2.own (some ⟨_, 0, none⟩) 1 1 [n] rfl rfl ?c1 (by simp) ?c2 ?c3 ?_))
    case c1 => exact nums_one _ _
    case c2 => omega
    case c3 => first | omega | (simp; omega)
    intro v' w5 hown hgrow _
    have hb5 := HH.out.2.app (p' := p ++ [n]) (by simpa using hown) hgrow
    have o5 : ∃ v5, w5.cell? ⟨w.heap.size + 1, 0, none⟩ = some v5 := by
      have hk : Kp (fun k => v.ownBlock = some k) (u1.alloc (.cells #[.int .i64 n] 3)) w5 := (Kp.refl _ _).grown hgrow (fun k hk _ => hk)
      exact ⟨v, by rw [hk.cell (p := ⟨w.heap.size + 1, 0, none⟩) HH.out.2.lt (fun e => by have := (HH.out.2.own.lt _ e).1; simp only at this; omega)]; exact HH.out.2.o0⟩
    have z5 : w5.frozen? ⟨w.heap.size + 1, 0, none⟩ = false := by
      have := hb5.oz
      simpa using this
    obtain ⟨v5, o5⟩ := o5
    obtain ⟨a', cap', rfl, -⟩ := nums_of_own hb5.own
    rw [show (p ++ [n]).length = p.length + 1 by simp] at hb5
    have H5 := Lib.hid hb5
    clear hown hgrow hb5 k0 o0 oz
    go_wp2
    go_end0
    exact ⟨rfl, _, H5.out⟩

theorem keep38_any (x y : Bool) (w : World) : Calls Try.prog 38 #[.bool x, .bool y] w fun e w' => e = .returned (.bool (k38 x y)) ∧ w' = w := by
  cases x <;> cases y
  all_goals
    go_enter Try.func38, Try.ntmps38
    go_wp2
    go_ret
    exact ⟨rfl, rfl⟩

theorem take38_any (n : Int) (x y : Bool) (w u : World) (v : Value) (p : List Int) (h : BX w (.func (.func 38) #[] #[]) v p u) (hp : p.length ≤ 1000000) :
    Calls Try.prog 42 #[.int .i64 n, .bool x, .bool y, .pointer (some ⟨w.heap.size, 0, none⟩), .pointer (some ⟨w.heap.size + 1, 0, none⟩)] u fun e u' => e = .returned (.tuple #[]) ∧ ∃ v', BX w (.func (.func 38) #[] #[]) v' (p ++ if (k38 x y) = true then [n] else []) u' := by
  have k0 := h.k0
  have o0 := h.o0
  have oz := h.oz
  have hkp := keep38_any x y u
  have hlt := h.lt
  have hal : BX w (.func (.func 38) #[] #[]) v p (u.alloc (.cells #[.int .i64 n] 3)) := h.kept (al _ _)
  have HH := Lib.hid (And.intro h hal)
  have HK := Lib.hid hkp
  clear h hkp hal
  obtain ⟨k, hk⟩ : ∃ k, k = (k38 x y) := ⟨_, rfl⟩
  rw [← hk] at HK ⊢
  clear hk
  go_enter Try.func42, Try.ntmps42
  go_wp2_with fail
  (with_reducible refine HK.out.mono ?_)
  rintro e u1 ⟨rfl, rfl⟩
  cases k with
  | false =>
    go_wp2
    go_end0
    exact ⟨rfl, v, by first | exact HH.out.1 | (rw [if_neg (by decide), List.append_nil]; exact HH.out.1)⟩
  | true =>
    go_wp2_with (first
      | (at_builtin
         refine wpList_append_nums rfl (.tmp 12) (.tmp 14) rfl (w.heap.size + 2) _ _ _ rfl HH.out.2.own (some ⟨_, 0, none⟩) 1 1 [n] rfl rfl ?c1 (by simp) ?c2 ?c3 ?_))
    case c1 => exact nums_one _ _
    case c2 => omega
    case c3 => first | omega | (simp; omega)
    intro v' w5 hown hgrow _
    have hb5 := HH.out.2.app (p' := p ++ [n]) (by simpa using hown) hgrow
    have o5 : ∃ v5, w5.cell? ⟨w.heap.size + 1, 0, none⟩ = some v5 := by
      have hk : Kp (fun k => v.ownBlock = some k) (u1.alloc (.cells #[.int .i64 n] 3)) w5 := (Kp.refl _ _).grown hgrow (fun k hk _ => hk)
      exact ⟨v, by rw [hk.cell (p := ⟨w.heap.size + 1, 0, none⟩) HH.out.2.lt (fun e => by have := (HH.out.2.own.lt _ e).1; simp only at this; omega)]; exact HH.out.2.o0⟩
    have z5 : w5.frozen? ⟨w.heap.size + 1, 0, none⟩ = false := by
      have := hb5.oz
      simpa using this
    obtain ⟨v5, o5⟩ := o5
    obtain ⟨a', cap', rfl, -⟩ := nums_of_own hb5.own
    rw [show (p ++ [n]).length = p.length + 1 by simp] at hb5
    have H5 := Lib.hid hb5
    clear hown hgrow hb5 k0 o0 oz
    go_wp2
    go_end0
    exact ⟨rfl, _, H5.out⟩

end Go.Proofs.Ytjijkiafjlfeiaa
