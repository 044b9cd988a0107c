/- Maps by texts of digits: what they hold, whatever their elements are. -/
import Derived.Test.YtdidoecigkbffaaGreatCC
import Derived.Maps.OwnSet
import Derived.Maps.OwnOps
import Derived.Maps.RangeWalk
import Derived.Maps.Ext
import Derived.Lib.OthersKept
set_option maxRecDepth 100000
namespace Go.Proofs.YtdidoecigkbffaaGreat
open Go.RowKit
open S J
open Go.Maps (Keyed IsMap)

theorem keyed9 : Keyed Tryz.prog 9 := Maps.string_keyed Tryz.underlying9

/-- An element reads as itself. -/
def RV (v : Value) : Option (DataW Value × List MemPlace) := some (.held v, [])

/-- The key of a text of digits. -/
def kl (l : List Bool) : Lit := .string (l.map dig)
theorem dig_inj {a b : Bool} (h : dig a = dig b) : a = b := by cases a <;> cases b <;> first | rfl | (exact absurd h (by decide))
theorem kl_inj {a b : List Bool} (h : kl a = kl b) : a = b := by
  simp only [kl, Lit.string.injEq] at h
  induction a generalizing b with
  | nil => cases b with
    | nil => rfl
    | cons y b => simp at h
  | cons x a ih => cases b with
    | nil => simp at h
    | cons y b =>
      simp only [List.map_cons, List.cons.injEq] at h
      rw [dig_inj h.1, ih h.2]
theorem str_inj {a b : List Bool} (h : str a = str b) : a = b := by
  apply kl_inj
  have := congrArg (fun s => s.data.toList) h
  simp only [str] at this
  unfold kl
  rw [this]
theorem kl_key (l : List Bool) : WideAt.IsKeyLit (kl l) := trivial
theorem key_str (l : List Bool) (h : l.length ≤ 1000) : keyOf Tryz.prog 9 (.string (str l)) = some (kl l) := by
  have hs : (str l).size ≤ maxLen := by rw [str_size]; unfold maxLen; omega
  have e : (str l).data.toList = l.map dig := by simp [str]
  simp [keyOf, Tryz.underlying9, mapKey, hs, e, kl]

/-- The map at block b holds m; N bounds how often it was written. -/
structure MapAt (w : World) (b N : Nat) (m : List Bool → Option Value) : Prop where
  ex : ∃ D : DataW Value, w.ownsMap Tryz.prog 9 RV b N D ∧ (∀ l, Maps.has D (kl l) = (m l).isSome) ∧ (∀ l v, m l = some v → ∀ z, D.atKey (kl l) z = .held v) ∧ (∀ l, m l = none → ∀ z, D.atKey (kl l) z = z) ∧ (∀ k, Maps.has D k = true → ∃ l, k = kl l ∧ l.length ≤ 1000)
  small : N ≤ 1000000

variable {w u u' : World} {b N : Nat} {m : List Bool → Option Value}

theorem MapAt.lt (h : MapAt w b N m) : b < w.heap.size := by
  obtain ⟨D, h1, -⟩ := h.ex
  exact h1.lt

theorem MapAt.kp {X : Nat → Prop} (h : MapAt u b N m) (hk : Kp X u u') (hx : ¬ X b) : MapAt u' b N m := by
  obtain ⟨D, h1, h2⟩ := h.ex
  refine ⟨⟨D, ?_, h2⟩, h.small⟩
  obtain ⟨es, clock, e1, e2⟩ := h1
  exact ⟨es, clock, by rw [hk.block b (Array.getElem?_eq_some_iff.1 e1).1 hx]; exact e1, e2⟩
theorem MapAt.kept (h : MapAt u b N m) (hb : Below u.heap.size u u') : MapAt u' b N m := h.kp (X := fun _ => False) (Below.kp hb) (fun e => e)

theorem MapAt.made (w : World) : MapAt (w.alloc (.map #[] 0)) w.heap.size 0 (fun _ => none) :=
  ⟨⟨.map [], World.ownsMap_made w Tryz.prog 9 RV, fun l => rfl, fun l v h => by simp at h, fun l _ z => rfl, fun k h => by simp [Maps.has] at h⟩, by omega⟩

theorem MapAt.put {t e : TypeId} (h : MapAt u b N m) (ht : Tryz.prog.underlying t = some (.map 9 e)) (hN : N < 1000000) (l : List Bool) (hl : l.length ≤ 1000) (v : Value) :
    ∃ u', (Instr.mapUpdate t (.map (some b)) (.string (str l)) v).run Tryz.prog u = .ok () u' ∧ MapAt u' b (N + 1) (fun k => if k = l then some v else m k) ∧ u.grownBy u' (some b) := by
  obtain ⟨D, h1, h2, h3, h4, h5⟩ := h.ex
  obtain ⟨u', r1, r2, r3⟩ := h1.update keyed9 ht (by unfold maxLen; omega) (key_str l hl) (val := v) (d := .held v) (ps := []) rfl
  have hm := h1.isMap
  refine ⟨u', r1, ⟨⟨D.put (kl l) (.held v), r2, fun k => ?_, fun k x hx z => ?_, fun k hx z => ?_, fun k hk => ?_⟩, by omega⟩, r3⟩
  · by_cases e : k = l
    · subst e; rw [Maps.has_put_same hm (kl_key _)]; simp
    · rw [Maps.has_put_other (fun e2 => e (kl_inj e2)), h2, if_neg e]
  · by_cases e : k = l
    · subst e
      rw [if_pos rfl] at hx
      cases hx
      exact Maps.atKey_put_same hm (kl_key _) _ _
    · rw [if_neg e] at hx
      rw [Maps.atKey_put_other (fun e2 => e (kl_inj e2))]
      exact h3 k x hx z
  · by_cases e : k = l
    · subst e; rw [if_pos rfl] at hx; cases hx
    · rw [if_neg e] at hx
      rw [Maps.atKey_put_other (fun e2 => e (kl_inj e2))]
      exact h4 k hx z
  · by_cases e : k = kl l
    · exact ⟨l, e, hl⟩
    · rw [Maps.has_put_other e] at hk
      exact h5 k hk

/-- 'm[k]': what stands there, or the zero value. -/
theorem MapAt.look {t e : TypeId} (h : MapAt u b N m) (ht : Tryz.prog.underlying t = some (.map 9 e)) {z : Value} (hz : ∀ w, (zeroValue e).run Tryz.prog w = .ok z w) (l : List Bool) (hl : l.length ≤ 1000) :
    (Instr.lookup t (.map (some b)) (.string (str l)) false).run Tryz.prog u = .ok ((m l).getD z) u := by
  obtain ⟨D, h1, h2, h3, h4, h5⟩ := h.ex
  obtain ⟨v, ps, hrun, hv⟩ := h1.lookup keyed9 ht (hz u) (zd := .held z) (zp := []) rfl (key_str l hl)
  rw [hrun]
  simp only [RV, Option.some.injEq, Prod.mk.injEq] at hv
  cases hm : m l with
  | none => rw [h4 l hm] at hv; cases hv.1; rfl
  | some x => rw [h3 l x hm] at hv; cases hv.1; rfl

/-- 'v, ok := m[k]'. -/
theorem MapAt.lookOk {t e : TypeId} (h : MapAt u b N m) (ht : Tryz.prog.underlying t = some (.map 9 e)) {z : Value} (hz : ∀ w, (zeroValue e).run Tryz.prog w = .ok z w) (l : List Bool) (hl : l.length ≤ 1000) :
    (Instr.lookup t (.map (some b)) (.string (str l)) true).run Tryz.prog u = .ok (.tuple #[(m l).getD z, .bool (m l).isSome]) u := by
  obtain ⟨D, h1, h2, h3, h4, h5⟩ := h.ex
  obtain ⟨v, ps, hrun, hv⟩ := h1.look_ok keyed9 ht (hz u) (zd := .held z) (zp := []) rfl (key_str l hl)
  rw [hrun, h2]
  simp only [RV, Option.some.injEq, Prod.mk.injEq] at hv
  cases hm : m l with
  | none => rw [h4 l hm] at hv; cases hv.1; rfl
  | some x => rw [h3 l x hm] at hv; cases hv.1; rfl

/-- A map is gone over: left tells what is still to come. -/
structure RangeAt (w : World) (b r N : Nat) (m : List Bool → Option Value) (left : List Bool → Bool) (cnt : Nat) : Prop where
  ex : ∃ (D : DataW Value) (lf : Lit → Bool), w.ranges Tryz.prog 9 RV b r N D lf cnt ∧ (∀ l, left l = lf (kl l)) ∧ (∀ k, lf k = true → ∃ l, k = kl l ∧ l.length ≤ 1000) ∧ (∀ l, left l = true → ∃ v, m l = some v ∧ ∀ z, D.atKey (kl l) z = .held v)

theorem RangeAt.left {r cnt : Nat} {left : List Bool → Bool} (h : RangeAt w b r N m left cnt) : w.rangeLeft b r = cnt := by
  obtain ⟨D, lf, h1, -⟩ := h.ex
  exact h1.left_eq
theorem RangeAt.ne {r cnt : Nat} {left : List Bool → Bool} (h : RangeAt w b r N m left cnt) : r ≠ b ∧ r < w.heap.size ∧ b < w.heap.size := by
  obtain ⟨D, lf, h1, -⟩ := h.ex
  exact ⟨h1.ne, h1.lt, h1.owns.lt⟩
theorem RangeAt.kp {X : Nat → Prop} {r cnt : Nat} {left : List Bool → Bool} (h : RangeAt u b r N m left cnt) (hk : Kp X u u') (h1 : ¬ X b) (h2 : ¬ X r) : RangeAt u' b r N m left cnt := by
  obtain ⟨D, lf, hr, hh⟩ := h.ex
  refine ⟨D, lf, ?_, hh⟩
  obtain ⟨es, clock, since, seen, c0, e1, e2, e3, e4, e5, e6⟩ := hr
  exact ⟨es, clock, since, seen, c0, by rw [hk.block b (Array.getElem?_eq_some_iff.1 e1).1 h1]; exact e1, e2, e3, e4, by rw [hk.block r (Array.getElem?_eq_some_iff.1 e5).1 h2]; exact e5, e6⟩
theorem RangeAt.kept {r cnt : Nat} {left : List Bool → Bool} (h : RangeAt u b r N m left cnt) (hb : Below u.heap.size u u') : RangeAt u' b r N m left cnt := h.kp (X := fun _ => False) (Below.kp hb) (fun e => e) (fun e => e)

theorem MapAt.range {t e : TypeId} (h : MapAt w b N m) (ht : Tryz.prog.underlying t = some (.map 9 e)) :
    ∃ w', (Instr.range t (.map (some b))).run Tryz.prog w = .ok (.pointer (some ⟨w.heap.size, 0, none⟩)) w' ∧ (∃ cnt, RangeAt w' b w.heap.size N m (fun l => (m l).isSome) cnt ∧ cnt ≤ N) ∧ Below w.heap.size w w' := by
  obtain ⟨D, h1, h2, h3, h4, h5⟩ := h.ex
  obtain ⟨w', r1, r2, r3, -⟩ := h1.range keyed9 ht
  refine ⟨w', r1, ⟨_, ⟨D, Maps.has D, r2, fun l => (h2 l).symm, h5, fun l hl => ?_⟩, h1.size_le⟩, below_grown r3⟩
  cases hm : m l with
  | none => rw [hm] at hl; cases hl
  | some v => exact ⟨v, rfl, h3 l v hm⟩

theorem wpList_range_map {ops : Array Oper} {rest : List Oper} {o : Oper} {a : Act} {Q : Exit → Act → World → Prop} (w : World) (hg : o.guard = none) (mo : Operand) (t e : TypeId) (hop : o.op = Op.range t mo) (ht : Tryz.prog.underlying t = some (.map 9 e)) (b N : Nat) (m : List Bool → Option Value)
    (hm : a.eval mo = .map (some b)) (h : MapAt w b N m) (hK : ∀ w' cnt, RangeAt w' b w.heap.size N m (fun l => (m l).isSome) cnt → cnt ≤ N → Below w.heap.size w w' → wpList Tryz.prog ops Q rest (a.put o.dst (.pointer (some ⟨w.heap.size, 0, none⟩))) w') :
    wpList Tryz.prog ops Q (o :: rest) a w := by
  refine wpList_plain hg fun K' hK' => ?_
  obtain ⟨w', hrun, ⟨cnt, r1, r3⟩, r2⟩ := h.range ht
  unfold Oper.wp
  simp [execOp, hop, hm, hrun, Result.andThen]
  exact hK' _ _ (hK w' cnt r1 r3 r2)

theorem wpList_next_map {ops : Array Oper} {rest : List Oper} {o : Oper} {a : Act} {Q : Exit → Act → World → Prop} (w : World) (hg : o.guard = none) (it : Operand) (hop : o.op = Op.next it false) (b r N : Nat) (m : List Bool → Option Value) (left : List Bool → Bool) (cnt : Nat)
    (hit : a.eval it = .pointer (some ⟨r, 0, none⟩)) (h : RangeAt w b r N m left cnt)
    (hDone : (∀ l, left l = false) → wpList Tryz.prog ops Q rest (a.put o.dst (.tuple #[.bool false])) w)
    (hMore : ∀ (l : List Bool) (v : Value) (w' : World) (cnt' : Nat), left l = true → m l = some v → l.length ≤ 1000 → RangeAt w' b r N m (fun x => left x && !decide (x = l)) cnt' → cnt' < cnt → Kp (fun k => k = r) w w' →
      (Instr.entry (.pointer (some ⟨r, 0, none⟩))).run Tryz.prog w' = .ok (.tuple #[.string (str l), v]) w' → wpList Tryz.prog ops Q rest (a.put o.dst (.tuple #[.bool true, .string (str l), v])) w') :
    wpList Tryz.prog ops Q (o :: rest) a w := by
  refine wpList_plain hg fun K' hK' => ?_
  obtain ⟨D, lf, h1, h2, h3, h4⟩ := h.ex
  unfold Oper.wp
  rcases h1.next keyed9 o.type with ⟨h0, hl, hrun⟩ | ⟨key, v, k, y, w', cnt', hkey, hlk, hv, hat, hrun, hrg, hlt, hgr, hsz, hen⟩
  · simp [execOp, hop, hit, hrun, Result.andThen]
    exact hK' _ _ (hDone fun l => by rw [h2, hl])
  · obtain ⟨l, rfl, hl1⟩ := h3 k hlk
    obtain rfl : key = .string (str l) := keyed9.inj hkey (key_str l hl1)
    have hll : left l = true := by rw [h2]; exact hlk
    obtain ⟨v', hv1, hv2⟩ := h4 l hll
    have e := hat (.held v)
    rw [hv2] at e
    simp only [RV, Option.some.injEq] at hv
    subst hv
    cases e
    simp [execOp, hop, hit, hrun, Result.andThen]
    refine hK' _ _ (hMore l v w' cnt' hll hv1 hl1 ⟨D, _, hrg, fun x => ?_, fun k hk => h3 k (by simp at hk; exact hk.1), fun x hx => h4 x (by simp at hx; exact hx.1)⟩ hlt ⟨hgr.os, hgr.tape, hgr.output, hgr.size, fun i hi hx => hgr.block i hi (fun e => hx (by cases e; rfl))⟩ hen)
    show (left x && !decide (x = l)) = (lf (kl x) && !(kl x).sameKey (kl l))
    rw [h2]
    congr 2
    by_cases e : x = l
    · subst e; rw [WideAt.sameKey_self (kl_key _)]; simp
    · rw [decide_eq_false e]
      cases hs : (kl x).sameKey (kl l) with
      | false => rfl
      | true => exact absurd (kl_inj (WideAt.sameKey_eq hs)) e

theorem RangeAt.obj {r cnt : Nat} {left : List Bool → Bool} (h : RangeAt w b r N m left cnt) : ∃ since seen c0, w.heap[r]? = some (.mapIter (some b) since seen c0) := by
  obtain ⟨D, lf, ⟨es, clock, since, seen, c0, -, -, -, -, e5, -⟩, -⟩ := h.ex
  exact ⟨since, seen, c0, e5⟩
theorem MapAt.obj (h : MapAt w b N m) : ∃ es clock, w.heap[b]? = some (.map es clock) := by
  obtain ⟨D, ⟨es, clock, e1, -⟩, -⟩ := h.ex
  exact ⟨es, clock, e1⟩
theorem MapAt.len {t e : TypeId} (h : MapAt w b N m) (ht : Tryz.prog.underlying t = some (.map 9 e)) : ∃ z : Nat, ∀ ty, (Builtin.len_ #[t] ty #[.map (some b)]).run Tryz.prog w = .ok (.int .i64 (z : Int)) w := by
  obtain ⟨D, h1, -⟩ := h.ex
  exact ⟨_, fun ty => h1.len ht ty⟩

end Go.Proofs.YtdidoecigkbffaaGreat
