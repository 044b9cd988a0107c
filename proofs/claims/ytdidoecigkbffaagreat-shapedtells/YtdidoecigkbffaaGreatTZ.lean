/- The law ShapedTells holds: for every input topiarylaw05.ShapedTells returns true, and each argument reads behind the call as it read before. -/
import Derived.Test.YtdidoecigkbffaaGreatTY
import Derived.BigRegion
import Derived.Test.YtdidoecigkbffaaGreatPE
import Derived.Test.YtdidoecigkbffaaGreatPF
import Derived.Test.YtdidoecigkbffaaGreatTX
import Derived.Deep.CutRange
import Derived.Deep.CutBlock
import Derived.Test.YtdidoecigkbffaaGreatRows

section
/- The contract of listed. -/
set_option maxRecDepth 100000
namespace Go.Proofs.YtdidoecigkbffaaGreat
open Go.RowKit
open S J M
attribute [local go_sem ↓] Go.wp_at_zero Go.wp_at_succ

variable {C sb b size : Nat} {xs : List Int} {f : Nat → List Bool} {ks : List (List Bool)} {Rf : List Bool → RP}

theorem RI.own {w w0 u : World} {D n : Nat} {c : Int} (h : RI w0 D c n n u) (hD : w.heap.size ≤ D) (hb : Below w.heap.size w w0) (hn : n ≤ 1000) : OwnI w (.slice (some ⟨D, 0, none⟩) n n) (List.replicate n c) u := by
  refine ⟨⟨by simp, .inr ⟨D, n, (repL c n n).toArray, by simp, hD, h.row, by simp, by unfold maxLen; omega, by simp [repL_len], ?_⟩⟩, hb.trans (h.bel.mono hb.size)⟩
  simp [repL]

/-- What region by region stands of both lists: their rows, and the pair's block. -/
structure LS (u0 : World) (L0 L1 : List Int) (g0 g1 : Option Value) (ga : Option Nat) (u : World) : Prop where
  bel : Below u0.heap.size u0 u
  o0 : ∀ v, g0 = some v → u.ownsRow u0.heap.size 3 1 v L0.length (L0.map (Value.int .i64))
  o1 : ∀ v, g1 = some v → u.ownsRow u0.heap.size 3 1 v L1.length (L1.map (Value.int .i64))
  al : ∀ bl, ga = some bl → u0.heap.size ≤ bl ∧ u.heap[bl]? = some (.cells #[.slice none 0 0, .slice none 0 0] 73 (0, 0))
variable {u0 : World} {L0 L1 : List Int} {g0 g1 : Option Value} {ga : Option Nat}
theorem heap_ltZ {u : World} {k : Nat} {o : Obj} (h : u.heap[k]? = some o) : k < u.heap.size := by
  apply Nat.not_le.1
  intro hle
  rw [Array.getElem?_eq_none hle] at h
  cases h
theorem LS.kept {u u' : World} (h : LS u0 L0 L1 g0 g1 ga u) (hb : Below u.heap.size u u') : LS u0 L0 L1 g0 g1 ga u' :=
  ⟨h.bel.trans (hb.mono h.bel.size), fun v e => own_kept (h.o0 v e) hb, fun v e => own_kept (h.o1 v e) hb, fun bl e => by
    obtain ⟨h1, h2⟩ := h.al bl e
    refine ⟨h1, ?_⟩
    rw [hb.block bl (heap_ltZ h2)]; exact h2⟩
theorem LS.drew {u : World} (h : LS u0 L0 L1 g0 g1 ga u) : LS u0 L0 L1 g0 g1 ga u.drew := h.kept ((Below.refl _ _).drew)
theorem LS.fresh {u : World} (h : LS u0 L0 L1 g0 g1 none u) : LS u0 L0 L1 g0 g1 (some u.heap.size) (u.alloc (.cells #[.slice none 0 0, .slice none 0 0] 73)) := by
  have hk := h.kept ((Below.refl u.heap.size u).alloc (Nat.le_refl _) (.cells #[.slice none 0 0, .slice none 0 0] 73))
  refine ⟨hk.bel, hk.o0, hk.o1, fun bl e => ?_⟩
  cases e
  exact ⟨h.bel.size, heap_alloc_new u _⟩

theorem LS.cells {u : World} {bl : Nat} (h : LS u0 L0 L1 g0 g1 (some bl) u) : u.cell? ⟨bl, 0, none⟩ = some (.slice none 0 0) ∧ u.cell? ⟨bl, 1, none⟩ = some (.slice none 0 0) ∧ u.frozen? ⟨bl, 0, none⟩ = false ∧ u.frozen? ⟨bl, 1, none⟩ = false := by
  obtain ⟨-, h2⟩ := h.al bl rfl
  exact ⟨by simp [World.cell?, h2], by simp [World.cell?, h2], frozen_of_row u bl 0 _ 73 h2, frozen_of_row u bl 1 _ 73 h2⟩
/-- Both lists, and the pair that holds them. -/
structure LFN (u0 : World) (L0 L1 : List Int) (m0 m1 : Nat) (A0 A1 : Option Addr) (c0 c1 bl : Nat) (u : World) : Prop where
  bel : Below u0.heap.size u0 u
  lo : u0.heap.size ≤ bl
  hi : bl < u.heap.size
  p0 : u.cell? ⟨bl, 0, none⟩ = some (.slice A0 m0 c0)
  p1 : u.cell? ⟨bl, 1, none⟩ = some (.slice A1 m1 c1)
  z0 : u.frozen? ⟨bl, 0, none⟩ = false
  z1 : u.frozen? ⟨bl, 1, none⟩ = false
  o0 : u.ownsRow u0.heap.size 3 1 (.slice A0 m0 c0) L0.length (L0.map (Value.int .i64))
  o1 : u.ownsRow u0.heap.size 3 1 (.slice A1 m1 c1) L1.length (L1.map (Value.int .i64))
  ne0 : ∀ k, (Value.slice A0 m0 c0).ownBlock = some k → k ≠ bl
  ne1 : ∀ k, (Value.slice A1 m1 c1).ownBlock = some k → k ≠ bl
theorem own_ty {u : World} {base n : Nat} {v : Value} {vs : List Value} (h : u.ownsRow base 3 1 v n vs) {k : Nat} (hk : v.ownBlock = some k) {bl : Nat} {cs : Array Value} {fr : Nat × Nat} (hb : u.heap[bl]? = some (.cells cs 73 fr)) : k ≠ bl := by
  rintro rfl
  rcases h.2 with ⟨rfl, -⟩ | ⟨g, cap, cur, rfl, -, hh, -⟩
  · simp [Value.ownBlock] at hk
  · simp only [Value.ownBlock, Option.some.injEq] at hk
    subst hk
    rw [hh] at hb
    simp only [Option.some.injEq, Obj.cells.injEq] at hb
    exact absurd hb.2.1 (by decide)
theorem LS.fin_set {u : World} {A0 A1 : Option Addr} {c0 c1 bl m0 m1 : Nat} (h : LS u0 L0 L1 (some (.slice A0 m0 c0)) (some (.slice A1 m1 c1)) (some bl) u) : LFN u0 L0 L1 m0 m1 A0 A1 c0 c1 bl ((u.setCell ⟨bl, 0, none⟩ (.slice A0 m0 c0)).setCell ⟨bl, 1, none⟩ (.slice A1 m1 c1)) := by
  obtain ⟨h1, h2⟩ := h.al bl rfl
  have e0 : u.cell? ⟨bl, 0, none⟩ = some (.slice none 0 0) := by simp [World.cell?, h2]
  have e1 : u.cell? ⟨bl, 1, none⟩ = some (.slice none 0 0) := by simp [World.cell?, h2]
  have f0 : ∀ o, u.frozen? ⟨bl, o, none⟩ = false := fun o => frozen_of_row u bl o _ 73 h2
  have n0 := fun k (hk : (Value.slice A0 m0 c0).ownBlock = some k) => own_ty (h.o0 _ rfl) hk h2
  have n1 := fun k (hk : (Value.slice A1 m1 c1).ownBlock = some k) => own_ty (h.o1 _ rfl) hk h2
  have hk : Kp (fun k => k = bl) u ((u.setCell ⟨bl, 0, none⟩ (.slice A0 m0 c0)).setCell ⟨bl, 1, none⟩ (.slice A1 m1 c1)) := ((Kp.refl (fun k => k = bl) u).setCell (p := ⟨bl, 0, none⟩) (.inl rfl) _).setCell (p := ⟨bl, 1, none⟩) (.inl rfl) _
  exact ⟨(h.bel.setCell (p := ⟨bl, 0, none⟩) h1 _).setCell (p := ⟨bl, 1, none⟩) h1 _, h1, by have := heap_ltZ h2; simpa using this,
    by rw [cell_set _ _ _ _ _ _ (cell_set _ _ _ _ _ _ e0)]; rfl, by rw [cell_set _ _ _ _ _ _ (cell_set _ _ _ _ _ _ e1)]; rfl, by simpa using f0 0, by simpa using f0 1,
    own_kp (h.o0 _ rfl) hk (fun k e e2 => n0 k e e2), own_kp (h.o1 _ rfl) hk (fun k e e2 => n1 k e e2), n0, n1⟩
theorem LS.fin_new {u : World} {A0 A1 : Option Addr} {c0 c1 m0 m1 : Nat} (h : LS u0 L0 L1 (some (.slice A0 m0 c0)) (some (.slice A1 m1 c1)) none u) : LFN u0 L0 L1 m0 m1 A0 A1 c0 c1 u.heap.size (u.alloc (.cells #[.slice A0 m0 c0, .slice A1 m1 c1] 73)) := by
  have hb := (Below.refl u.heap.size u).alloc (Nat.le_refl _) (.cells #[.slice A0 m0 c0, .slice A1 m1 c1] 73)
  have h2 := heap_alloc_new u (.cells #[.slice A0 m0 c0, .slice A1 m1 c1] 73)
  have hk := h.kept hb
  exact ⟨hk.bel, h.bel.size, by simp, by rw [cell_new _ _ _ _ _ rfl]; rfl, by rw [cell_new _ _ _ _ _ rfl]; rfl, frozen_new _ _ _ _ _ rfl, frozen_new _ _ _ _ _ rfl, hk.o0 _ rfl, hk.o1 _ rfl, fun k e => own_ty (hk.o0 _ rfl) e h2, fun k e => own_ty (hk.o1 _ rfl) e h2⟩

/-- What is left of a list, its slice in the pair's cell. -/
structure QU (u : World) (bl o D : Nat) (Lb : List Int) (j : Nat) : Prop where
  sl : ∃ A c, u.cell? ⟨bl, o, none⟩ = some (.slice A (Lb.length - j) c) ∧ Lb.length - j ≤ c ∧ NumsAt .i64 u A (Lb.drop j) ∧ ∀ b' o', A = some ⟨b', o', none⟩ → b' ≠ bl ∧ b' ≠ D
  frz : u.frozen? ⟨bl, o, none⟩ = false
theorem QU.kept {u u' : World} {bl o D j : Nat} {Lb : List Int} (h : QU u bl o D Lb j) (hb : Below u.heap.size u u') : QU u' bl o D Lb j := by
  obtain ⟨A, c, h1, h2, h3, h4⟩ := h.sl
  have hl := World.block_lt_of_cell? u _ h1
  exact ⟨⟨A, c, by rw [hb.cell (p := ⟨bl, o, none⟩) hl]; exact h1, h2, h3.kept hb, h4⟩, by rw [hb.frozen (p := ⟨bl, o, none⟩) hl]; exact h.frz⟩
theorem QU.row {u : World} {bl o D j i : Nat} {Lb : List Int} (h : QU u bl o D Lb j) (hne : bl ≠ D) (x : Value) : QU (u.setCell ⟨D, i, none⟩ x) bl o D Lb j := by
  obtain ⟨A, c, h1, h2, h3, h4⟩ := h.sl
  refine ⟨⟨A, c, by rw [World.cell?_setCell_other _ _ _ _ (ne_addr hne.symm)]; exact h1, h2, ?_, h4⟩, by simpa using h.frz⟩
  exact nums_kp h3 ((Kp.refl (fun k => k = D) u).setCell (.inl rfl) x) (fun b' o' e => (h4 b' o' e).2)
theorem QU.pair {u : World} {bl o o' D j : Nat} {Lb : List Int} (h : QU u bl o D Lb j) (hne : o ≠ o') (x : Value) : QU (u.setCell ⟨bl, o', none⟩ x) bl o D Lb j := by
  obtain ⟨A, c, h1, h2, h3, h4⟩ := h.sl
  refine ⟨⟨A, c, by rw [World.cell?_setCell_other _ _ _ _ (fun e => hne (congrArg Addr.off e).symm)]; exact h1, h2, ?_, h4⟩, by simpa using h.frz⟩
  exact nums_kp h3 ((Kp.refl (fun k => k = bl) u).setCell (.inl rfl) x) (fun b' o' e => (h4 b' o' e).1)
theorem QU.next {u : World} {bl o D j : Nat} {Lb : List Int} {A : Option Addr} {c : Nat} {v0 : Value} (hc : u.cell? ⟨bl, o, none⟩ = some v0) (hz : u.frozen? ⟨bl, o, none⟩ = false) (h2 : Lb.length - j ≤ c) (h3 : NumsAt .i64 u A (Lb.drop j)) (h4 : ∀ b' o', A = some ⟨b', o', none⟩ → b' ≠ bl ∧ b' ≠ D) (n : Nat) (hn : n = Lb.length - j) : QU (u.setCell ⟨bl, o, none⟩ (.slice A n c)) bl o D Lb j := by
  subst hn
  refine ⟨⟨A, c, by rw [cell_set _ _ _ _ _ _ hc, if_pos rfl], h2, ?_, h4⟩, by simpa using hz⟩
  exact nums_kp h3 ((Kp.refl (fun k => k = bl) u).setCell (.inl rfl) _) (fun b' o' e => (h4 b' o' e).1)

/-- The loop's state. -/
structure LQ (u0 : World) (L L0 L1 : List Int) (Lp : List Bool) (bl D n i : Nat) (u : World) : Prop where
  row : DI u0 D n (fun j => if j < i then L.getD j 0 else 0) u
  q0 : QU u bl 0 D L0 (rkN false Lp i)
  q1 : QU u bl 1 D L1 (rkN true Lp i)
  ne : bl ≠ D
  lo : u0.heap.size ≤ bl
  own : ∃ vs, u.ownsRow u0.heap.size 3 1 (.slice (some ⟨D, 0, none⟩) n n) n vs
theorem LQ.kept {u u' : World} {L : List Int} {Lp : List Bool} {bl D n i : Nat} (h : LQ u0 L L0 L1 Lp bl D n i u) (hb : Below u.heap.size u u') : LQ u0 L L0 L1 Lp bl D n i u' :=
  ⟨h.row.kept hb, h.q0.kept hb, h.q1.kept hb, h.ne, h.lo, by obtain ⟨vs, hv⟩ := h.own; exact ⟨vs, own_kept hv hb⟩⟩
theorem numsDrop {k : IntKind} {w : World} {b off : Nat} {xs : List Int} (h : NumsAt k w (some ⟨b, off, none⟩) xs) (n : Nat) : NumsAt k w (some ⟨b, off + n, none⟩) (xs.drop n) := by
  rcases h with h | ⟨b', off', h1, h2, h3⟩
  · subst h; exact .inl (by simp)
  · simp only [Option.some.injEq, Addr.mk.injEq, and_true] at h1
    obtain ⟨rfl, rfl⟩ := h1
    refine .inr ⟨b, off + n, rfl, h2, fun j hj => ?_⟩
    simp only [List.length_drop] at hj
    rw [Nat.add_assoc, h3 (n + j) (by omega)]
    simp [List.getD_eq_getElem?_getD]
theorem nums_next {u : World} {g o : Nat} {Lb : List Int} {j : Nat} (h : NumsAt .i64 u (some ⟨g, o, none⟩) (Lb.drop j)) : NumsAt .i64 u (some ⟨g, o + 1, none⟩) (Lb.drop (j + 1)) := by
  have := numsDrop h 1
  rwa [List.drop_drop] at this

theorem LQ.step0 {u : World} {L : List Int} {Lp : List Bool} {bl D n i : Nat} (h : LQ u0 L L0 L1 Lp bl D n i u) (hi : i < n) {x : Int} (hx : L.getD i 0 = x) (hs : rkN false Lp (i + 1) = rkN false Lp i + 1) (hs' : rkN true Lp (i + 1) = rkN true Lp i + 0) {A : Option Addr} {c m : Nat} (hm : m = L0.length - (rkN false Lp i + 1)) (hmc : m ≤ c) (hn : NumsAt .i64 u A (L0.drop (rkN false Lp i + 1))) (h4 : ∀ b' o', A = some ⟨b', o', none⟩ → b' ≠ bl ∧ b' ≠ D) : LQ u0 L L0 L1 Lp bl D n (i + 1) ((u.setCell ⟨D, i, none⟩ (.int .i64 x)).setCell ⟨bl, 0, none⟩ (.slice A m c)).drew := by
  refine LQ.kept ?_ ((Below.refl _ _).drew)
  have hqr := h.q0.row (i := i) h.ne (.int .i64 x)
  obtain ⟨A', c', g1, -, -, -⟩ := hqr.sl
  have hqn := QU.next (D := D) (j := rkN false Lp i + 1) (Lb := L0) g1 hqr.frz (by rw [← hm]; exact hmc) (nums_kp hn ((Kp.refl (fun k => k = D) u).setCell (p := ⟨D, i, none⟩) (.inl rfl) (.int .i64 x)) (fun b' o' e => (h4 b' o' e).2)) h4 m hm
  have hqo := (h.q1.row (i := i) h.ne (.int .i64 x)).pair (o' := 0) (by decide) (.slice A m c)
  rw [← hs] at hqn
  have hs2 : rkN true Lp (i + 1) = rkN true Lp i := hs'
  rw [← hs2] at hqo
  obtain ⟨vs, hv⟩ := h.own
  have hv2 := own_kp (hv.stored i (.int .i64 x)).1 ((Kp.refl (fun k => k = bl) (u.setCell ⟨D, i, none⟩ (.int .i64 x))).setCell (p := ⟨bl, 0, none⟩) (.inl rfl) (.slice A m c)) (fun k e e2 => by simp only [Value.ownBlock, Option.some.injEq] at e; exact h.ne (by omega))
  refine ⟨((h.row.set hi x).other (p := ⟨bl, 0, none⟩) h.lo h.ne _).congr (fun j hj => ?_), hqn, hqo, h.ne, h.lo, ⟨_, hv2⟩⟩
  by_cases e : j = i
  · rw [if_pos e, if_pos (by omega), e, hx]
  · rw [if_neg e]
    by_cases e2 : j < i
    · rw [if_pos e2, if_pos (by omega)]
    · rw [if_neg e2, if_neg (by omega)]
theorem LQ.step1 {u : World} {L : List Int} {Lp : List Bool} {bl D n i : Nat} (h : LQ u0 L L0 L1 Lp bl D n i u) (hi : i < n) {x : Int} (hx : L.getD i 0 = x) (hs : rkN true Lp (i + 1) = rkN true Lp i + 1) (hs' : rkN false Lp (i + 1) = rkN false Lp i + 0) {A : Option Addr} {c m : Nat} (hm : m = L1.length - (rkN true Lp i + 1)) (hmc : m ≤ c) (hn : NumsAt .i64 u A (L1.drop (rkN true Lp i + 1))) (h4 : ∀ b' o', A = some ⟨b', o', none⟩ → b' ≠ bl ∧ b' ≠ D) : LQ u0 L L0 L1 Lp bl D n (i + 1) ((u.setCell ⟨D, i, none⟩ (.int .i64 x)).setCell ⟨bl, 1, none⟩ (.slice A m c)).drew := by
  refine LQ.kept ?_ ((Below.refl _ _).drew)
  have hqr := h.q1.row (i := i) h.ne (.int .i64 x)
  obtain ⟨A', c', g1, -, -, -⟩ := hqr.sl
  have hqn := QU.next (D := D) (j := rkN true Lp i + 1) (Lb := L1) g1 hqr.frz (by rw [← hm]; exact hmc) (nums_kp hn ((Kp.refl (fun k => k = D) u).setCell (p := ⟨D, i, none⟩) (.inl rfl) (.int .i64 x)) (fun b' o' e => (h4 b' o' e).2)) h4 m hm
  have hqo := (h.q0.row (i := i) h.ne (.int .i64 x)).pair (o' := 1) (by decide) (.slice A m c)
  rw [← hs] at hqn
  have hs2 : rkN false Lp (i + 1) = rkN false Lp i := hs'
  rw [← hs2] at hqo
  obtain ⟨vs, hv⟩ := h.own
  have hv2 := own_kp (hv.stored i (.int .i64 x)).1 ((Kp.refl (fun k => k = bl) (u.setCell ⟨D, i, none⟩ (.int .i64 x))).setCell (p := ⟨bl, 1, none⟩) (.inl rfl) (.slice A m c)) (fun k e e2 => by simp only [Value.ownBlock, Option.some.injEq] at e; exact h.ne (by omega))
  refine ⟨((h.row.set hi x).other (p := ⟨bl, 1, none⟩) h.lo h.ne _).congr (fun j hj => ?_), hqo, hqn, h.ne, h.lo, ⟨_, hv2⟩⟩
  by_cases e : j = i
  · rw [if_pos e, if_pos (by omega), e, hx]
  · rw [if_neg e]
    by_cases e2 : j < i
    · rw [if_pos e2, if_pos (by omega)]
    · rw [if_neg e2, if_neg (by omega)]

theorem LQ.fin {u : World} {L : List Int} {Lp : List Bool} {bl D n : Nat} (h : LQ u0 L L0 L1 Lp bl D n n u) (hn : L.length = n) : u.ownsRow u0.heap.size 3 1 (.slice (some ⟨D, 0, none⟩) n n) n (L.map (Value.int .i64)) := by
  obtain ⟨vs, hv⟩ := h.own
  have hl : vs.length = n := by have := hv.1; omega
  have : vs = L.map (Value.int .i64) := by
    apply List.ext_getElem?
    intro j
    by_cases hj : j < n
    · have h1 := hv.cellAt j (by omega)
      rw [h.row.cell j hj, if_pos hj] at h1
      rw [← h1]
      simp [List.getD_eq_getElem?_getD, hn, hj]
    · rw [List.getElem?_eq_none (by omega), List.getElem?_eq_none (by rw [List.length_map]; omega)]
  rw [← this]; exact hv

set_option maxHeartbeats 16000000 in
theorem listed_any (hF : FR xs size f) (hsz : size ≤ 39) (nn : Nat) (hn2 : xs.length ≤ 1000) : ∀ (d : Nat) (p : List Bool), size + 1 - p.length ≤ d → p.length ≤ size → ∀ (w : World), SX w C sb b size xs f ks Rf → Calls Tryz.prog 25 #[.agg #[.int .i64 (nn : Int), .slice (some ⟨C, 0, none⟩) size size, .map (some sb), .map (some b)], .string (str p), .int .i64 ((subL f p xs).length : Int)] w fun e u => ∃ v, e = .returned v ∧ OwnI w v (subL f p xs) u := by
  intro d
  induction d with
  | zero => intro p h1 h2; omega
  | succ d ih =>
    intro p hd hpl w h
    have hsl : (subL f p xs).length ≤ xs.length := List.length_filter_le _ _
    obtain ⟨w0, hw0⟩ : ∃ w0, w0 = w.alloc (.cells #[.int .i64 (nn : Int), .slice (some ⟨C, 0, none⟩) size size, .map (some sb), .map (some b)] 31) := ⟨_, rfl⟩
    obtain ⟨bx, hbx⟩ : ∃ bx, bx = w.heap.size := ⟨_, rfl⟩
    have hS := SB.new nn h
    rw [← hw0, ← hbx] at hS
    by_cases h0 : (subL f p xs).length = 0
    · have hnil : subL f p xs = [] := List.eq_nil_of_length_eq_zero h0
      rw [hnil]
      have HB := Lib.hid hS.bel
      clear hS h ih hnil h0 hsl hF
      go_enter Tryz.func25, Tryz.ntmps25
      go_wp2
      go_ret
      exact ⟨_, rfl, World.ownsRow_nil _ _ _ _, by rw [← hw0]; exact HB.out⟩
    · have hx0 : (subL f p xs).getD 0 0 ∈ subL f p xs := memI _ 0 (by omega)
      obtain ⟨x0, hx0e⟩ : ∃ x0, x0 = (subL f p xs).getD 0 0 := ⟨_, rfl⟩
      rw [← hx0e] at hx0
      obtain ⟨hxm, hxt⟩ := subL_mem.1 hx0
      have hlx := hF.len x0.toNat
      by_cases hlong : p.length < (f x0.toNat).length
      · have hxt2 := hxt
        have hno : p ∉ codesL xs f := by rw [← hxt]; exact hF.part hxm hlong
        have hLp := part_subL (f := f) hno
        have hs0 := subL_snoc (f := f) hno false
        have hs1 := subL_snoc (f := f) hno true
        have hi0 := ih (p ++ [false]) (by rw [List.length_append, List.length_singleton]; omega) (by rw [List.length_append, List.length_singleton]; omega)
        have hi1 := ih (p ++ [true]) (by rw [List.length_append, List.length_singleton]; omega) (by rw [List.length_append, List.length_singleton]; omega)
        have k1 : (Instr.lookup 28 (.map (some sb)) (.string (str p)) true).run Tryz.prog w0 = .ok (.tuple #[.int .i64 0, .bool false]) w0 := by
          obtain ⟨N, hs⟩ := hS.sx.syms
          have h9 := hF.sympart hxm hlong
          rw [hxt] at h9
          rw [hs.lookOk (t := 28) (e := 3) Tryz.underlying28 zero3 _ (by omega), h9]; rfl
        have k2 := hS.sx.part hxm hlong (by omega)
        rw [hxt] at k2
        obtain ⟨L, hL⟩ : ∃ L, L = subL f p xs := ⟨_, rfl⟩
        obtain ⟨L0, hL0⟩ : ∃ L0, L0 = subL f (p ++ [false]) xs := ⟨_, rfl⟩
        obtain ⟨L1, hL1⟩ : ∃ L1, L1 = subL f (p ++ [true]) xs := ⟨_, rfl⟩
        rw [← hL] at hLp hs0 hs1 hsl h0 ⊢
        rw [← hL0] at hs0 hi0
        rw [← hL1] at hs1 hi1
        have hl0 := filt_len (digB f p.length) L false
        have hl1 := filt_len (digB f p.length) L true
        rw [← hs0, ← hLp] at hl0
        rw [← hs1, ← hLp] at hl1
        have hlen : (partB (codesL xs f) p).length = L.length := by rw [hLp, List.length_map]
        have hfa := filt_at (digB f p.length) L
        have hdig : ∀ i (hi : i < L.length), (partB (codesL xs f) p).getD i false = digB f p.length (L[i]) := fun i hi => by
          rw [hLp]; simp [List.getD_eq_getElem?_getD, hi]
        rw [← hLp] at hfa
        have hat : ∀ i bit, i < L.length → (partB (codesL xs f) p).getD i false = bit → (if bit then L1 else L0).getD (rkN bit (partB (codesL xs f) p) i) 0 = L.getD i 0 := fun i bit hi hb => by
          have h9 := hfa i hi
          rw [← hdig i hi, hb] at h9
          have e9 : L.getD i 0 = L[i] := by simp [List.getD_eq_getElem?_getD, hi]
          cases bit with
          | false => rw [if_neg (by decide), hs0, List.getD_eq_getElem?_getD, h9, e9]; rfl
          | true => rw [if_pos rfl, hs1, List.getD_eq_getElem?_getD, h9, e9]; rfl
        clear hfa hdig hLp hs0 hs1 hL hL0 hL1
        obtain ⟨Lp, hLpe⟩ : ∃ Lp, Lp = partB (codesL xs f) p := ⟨_, rfl⟩
        obtain ⟨R, hRe⟩ : ∃ R, R = Rf p := ⟨_, rfl⟩
        rw [← hLpe] at hl0 hl1 hlen hat k2
        rw [← hRe] at k2
        obtain ⟨k2, k3⟩ := k2
        unfold rv at k2
        obtain ⟨n, hn⟩ : ∃ n, L.length = n := ⟨_, rfl⟩
        rw [hn] at hl0 hl1 hlen hat hsl h0 ⊢
        have hboth := rkN_both Lp n (by omega)
        rw [← hl0, ← hl1] at hboth
        have hbox := (Below.refl w0.heap.size w0).alloc (Nat.le_refl _) (.cells #[.int .i64 (R.n : Int), .slice R.a R.m R.c, .int .i64 (R.cn : Int), .int .i64 (R.cW : Int), .int .i64 (R.cL : Int), .slice R.a2 R.m2 R.c2] 56)
        have hra := RA.new k3
        obtain ⟨u0, hu0⟩ : ∃ u0, u0 = w0.alloc (.cells #[.int .i64 (R.n : Int), .slice R.a R.m R.c, .int .i64 (R.cn : Int), .int .i64 (R.cW : Int), .int .i64 (R.cL : Int), .slice R.a2 R.m2 R.c2] 56) := ⟨_, rfl⟩
        obtain ⟨bp, hbp⟩ : ∃ bp, bp = w0.heap.size := ⟨_, rfl⟩
        rw [← hu0] at hbox hra
        rw [← hbp] at hra
        have hS0 := hS.kept hbox
        have hz1 : rkN true Lp Lp.length = L1.length := by rw [hlen, hl1]
        have hR45 : ∀ g0 g1 ga u, LS u0 L0 L1 g0 g1 ga u → Calls Tryz.prog 45 #[.agg #[.int .i64 (R.n : Int), .slice R.a R.m R.c, .int .i64 (R.cn : Int), .int .i64 (R.cW : Int), .int .i64 (R.cL : Int), .slice R.a2 R.m2 R.c2]] u fun e u' => e = .returned (.int .i64 (L1.length : Int)) ∧ LS u0 L0 L1 g0 g1 ga u' := fun g0 g1 ga u hu => by
          refine (rones_any R Lp u (hra.rk.kept hu.bel)).mono ?_
          rintro e u' ⟨h1, h2⟩
          exact ⟨by rw [h1, hz1], hu.kept h2⟩
        have hI0 : ∀ g1 ga u, LS u0 L0 L1 none g1 ga u → Calls Tryz.prog 25 #[.agg #[.int .i64 (nn : Int), .slice (some ⟨C, 0, none⟩) size size, .map (some sb), .map (some b)], .string (str (p ++ [false])), .int .i64 (L0.length : Int)] u fun e u' => ∃ A c, e = .returned (.slice A L0.length c) ∧ LS u0 L0 L1 (some (.slice A L0.length c)) g1 ga u' := fun g1 ga u hu => by
          refine (hi0 u (hS0.sx.kept hu.bel)).mono ?_
          rintro e u' ⟨v, h1, h2⟩
          obtain ⟨A, c, rfl, -, -, -, -, -⟩ := nums_of_own h2.1
          have hk := hu.kept h2.2
          exact ⟨A, c, h1, hk.bel, fun v e => by cases e; exact own_mono h2.1 hu.bel.size, hk.o1, hk.al⟩
        have hI1 : ∀ g0 ga u, LS u0 L0 L1 g0 none ga u → Calls Tryz.prog 25 #[.agg #[.int .i64 (nn : Int), .slice (some ⟨C, 0, none⟩) size size, .map (some sb), .map (some b)], .string (str (p ++ [true])), .int .i64 (L1.length : Int)] u fun e u' => ∃ A c, e = .returned (.slice A L1.length c) ∧ LS u0 L0 L1 g0 (some (.slice A L1.length c)) ga u' := fun g0 ga u hu => by
          refine (hi1 u (hS0.sx.kept hu.bel)).mono ?_
          rintro e u' ⟨v, h1, h2⟩
          obtain ⟨A, c, rfl, -, -, -, -, -⟩ := nums_of_own h2.1
          have hk := hu.kept h2.2
          exact ⟨A, c, h1, hk.bel, hk.o0, fun v e => by cases e; exact own_mono h2.1 hu.bel.size, hk.al⟩
        have hS10 : ∀ u, Below u0.heap.size u0 u → u.cell? ⟨bx, 0, none⟩ = some (.int .i64 (nn : Int)) ∧ u.cell? ⟨bx, 1, none⟩ = some (.slice (some ⟨C, 0, none⟩) size size) ∧ u.cell? ⟨bx, 2, none⟩ = some (.map (some sb)) ∧ u.cell? ⟨bx, 3, none⟩ = some (.map (some b)) ∧ u.cell? ⟨bp, 0, none⟩ = some (.int .i64 (R.n : Int)) ∧ u.cell? ⟨bp, 1, none⟩ = some (.slice R.a R.m R.c) ∧ u.cell? ⟨bp, 2, none⟩ = some (.int .i64 (R.cn : Int)) ∧ u.cell? ⟨bp, 3, none⟩ = some (.int .i64 (R.cW : Int)) ∧ u.cell? ⟨bp, 4, none⟩ = some (.int .i64 (R.cL : Int)) ∧ u.cell? ⟨bp, 5, none⟩ = some (.slice R.a2 R.m2 R.c2) := fun u hu => by
          have h1 := hS0.kept hu
          obtain ⟨y0, y1, y2, y3, y4, y5⟩ := (hra.kept hu).box
          exact ⟨h1.c0, h1.c1, h1.c2, h1.c3, y0, y1, y2, y3, y4, y5⟩
        have hA : LS u0 L0 L1 none none none u0 := ⟨Below.refl _ _, fun v e => (by cases e), fun v e => (by cases e), fun v e => (by cases e)⟩
        have hone := fun (u : World) (hb : Below u0.heap.size u0 u) (i : Int) => rone_any R Lp i u (hra.rk.kept hb)
        have a0 : ∀ W : World, (Op.stringOp .add (str p) ⟨#[48]⟩).run Tryz.prog W = .ok (.string (str (p ++ [false]))) W := fun W => by rw [← str_zero]; exact run_string_add W _ _ (by rw [str_size]; omega) (by decide)
        have a1 : ∀ W : World, (Op.stringOp .add (str p) ⟨#[49]⟩).run Tryz.prog W = .ok (.string (str (p ++ [true]))) W := fun W => by rw [← str_one]; exact run_string_add W _ _ (by rw [str_size]; omega) (by decide)
        generalize str (p ++ [false]) = key0 at *
        generalize str (p ++ [true]) = key1 at *
        generalize str p = key at *
        have HK := Lib.hid (And.intro hR45 (And.intro hI0 (And.intro hI1 (And.intro hS10 (And.intro hone (And.intro hat (And.intro hl0 (And.intro hl1 (And.intro hlen hn)))))))))
        have hwb := hS.bel.trans (hbox.mono hS.bel.size)
        have HWB := Lib.hid hwb
        have l2 := hS.c2
        have l3 := hS.c3
        obtain ⟨m0, hm0⟩ : ∃ m0, L0.length = m0 := ⟨_, rfl⟩
        obtain ⟨m1, hm1⟩ : ∃ m1, L1.length = m1 := ⟨_, rfl⟩
        rw [hm0, hm1] at hboth
        have HMM := Lib.hid (And.intro hm0 hm1)
        have q1 : ((n : Int) == 0) = false := by simp; omega
        have q2 : IntKind.i64.wrap ((n : Int) - (m1 : Int)) = (m0 : Int) := by
          rw [show (n : Int) - (m1 : Int) = (m0 : Int) by omega]
          exact IntWalk.i64_in _ (by omega)
        clear hR45 hI0 hI1 hS10 hone hat hl0 hl1 hlen hn hS hS0 hra hbox k3 hi0 hi1 ih h hxt hxt2 hx0 hx0e hxm hlx hno hlong hF hLpe hRe hz1 hwb hm0 hm1
        go_enter Tryz.func25, Tryz.ntmps25
        go_upto_region 1 with fail
        rw [← hw0, ← hbx]
        clear hw0 hbx
        go_upto_region 7 with fail
        rw [← hu0, ← hbp]
        clear hu0 hbp l2 l3 k1 k2
        go_cut [10] from 32 to 46 (fun v10 wx => ∃ (A0 A1 : Option Addr) (c0 c1 bl : Nat), v10 = .pointer (some ⟨bl, 0, none⟩) ∧ LFN u0 L0 L1 m0 m1 A0 A1 c0 c1 bl wx)
        case first =>
          rw [HMM.out.1, HMM.out.2] at HK
          obtain ⟨y0, y1, y2, y3, y4, y5, y6, y7, y8, y9⟩ := HK.out.2.2.2.1 _ hA.bel
          go_region_held3 (fun w' => w'.cell? ⟨bx, 0, none⟩ = some (.int .i64 (nn : Int)) ∧ w'.cell? ⟨bx, 1, none⟩ = some (.slice (some ⟨C, 0, none⟩) size size) ∧ w'.cell? ⟨bx, 2, none⟩ = some (.map (some sb)) ∧ w'.cell? ⟨bx, 3, none⟩ = some (.map (some b)) ∧ w'.cell? ⟨bp, 0, none⟩ = some (.int .i64 (R.n : Int)) ∧ w'.cell? ⟨bp, 1, none⟩ = some (.slice R.a R.m R.c) ∧ w'.cell? ⟨bp, 2, none⟩ = some (.int .i64 (R.cn : Int)) ∧ w'.cell? ⟨bp, 3, none⟩ = some (.int .i64 (R.cW : Int)) ∧ w'.cell? ⟨bp, 4, none⟩ = some (.int .i64 (R.cL : Int)) ∧ w'.cell? ⟨bp, 5, none⟩ = some (.slice R.a2 R.m2 R.c2))
            (first
              | go_keep
              | exact HK.out.2.2.2.1 _ hA.bel
              | exact HK.out.2.2.2.1 _ hA.drew.bel
              | exact HK.out.2.2.2.1 _ hA.fresh.bel
              | exact HK.out.2.2.2.1 _ hA.fresh.drew.bel
              | exact HK.out.2.2.2.1 _ hA.fin_new.bel
              | exact HK.out.2.2.2.1 _ hA.fin_set.bel
              | exact HK.out.2.2.2.1 _ (hA.fresh.fin_set).bel)
            (first
              | (go_at_call 45; (with_reducible refine (HK.out.1 _ _ _ _ hA).mono ?_); rintro e u ⟨rfl, hA⟩; try (obtain ⟨p0, p1, z0, z1⟩ := hA.cells))
              | (go_at_call 45; (with_reducible refine (HK.out.1 _ _ _ _ hA.drew).mono ?_); rintro e u ⟨rfl, hA⟩; try (obtain ⟨p0, p1, z0, z1⟩ := hA.cells))
              | (go_at_call 45; (with_reducible refine (HK.out.1 _ _ _ _ hA.fresh).mono ?_); rintro e u ⟨rfl, hA⟩; try (obtain ⟨p0, p1, z0, z1⟩ := hA.cells))
              | (go_at_call 45; (with_reducible refine (HK.out.1 _ _ _ _ hA.fresh.drew).mono ?_); rintro e u ⟨rfl, hA⟩; try (obtain ⟨p0, p1, z0, z1⟩ := hA.cells))
              | (go_at_call 25; (with_reducible refine (HK.out.2.1 _ _ _ hA).mono ?_); rintro e u ⟨A0, c0, rfl, hA⟩; try (obtain ⟨p0, p1, z0, z1⟩ := hA.cells))
              | (go_at_call 25; (with_reducible refine (HK.out.2.1 _ _ _ hA.fresh).mono ?_); rintro e u ⟨A0, c0, rfl, hA⟩; try (obtain ⟨p0, p1, z0, z1⟩ := hA.cells))
              | (go_at_call 25; (with_reducible refine (HK.out.2.2.1 _ _ _ hA).mono ?_); rintro e u ⟨A1, c1, rfl, hA⟩; try (obtain ⟨p0, p1, z0, z1⟩ := hA.cells))
              | (go_at_call 25; (with_reducible refine (HK.out.2.2.1 _ _ _ hA.fresh).mono ?_); rintro e u ⟨A1, c1, rfl, hA⟩; try (obtain ⟨p0, p1, z0, z1⟩ := hA.cells)))
          all_goals
            first
              | (have hfin := hA.fin_new)
              | (have hfin := hA.fin_set)
            have HFI := Lib.hid hfin
            clear hfin hA
            try clear p0 p1 z0 z1
            go_wp2
            go_meet
            exact ⟨_, _, _, _, _, rfl, HFI.out⟩
        case rest =>
          obtain ⟨A0, A1, c0, c1, bl, rfl, hFN⟩ := hcut
          obtain ⟨i0, hi, hz0, hz1, hz2⟩ := info_parts info3
          have HFN := Lib.hid hFN
          clear hFN hA
          go_wp2_with (first | (at_make; refine wpList_make_full _ rfl _ _ 22 rfl wc.heap.size 3 i0 (.int .i64 0) 1 Tryz.underlying22 hi hz0 hz1 _ _ _ _ n rfl rfl rfl rfl ?b2 ?b3 (Nat.le_refl _) ?_))
          case b2 => first | omega | (rw [hz2]; omega)
          case b3 => unfold maxLen; omega
          intro w3 hown hgrow
          have hD : DI u0 wc.heap.size n (fun _ => 0) w3 := DI.made HFN.out.bel (by simpa using hown) hgrow
          have hb3 : Below wc.heap.size wc w3 := below_grown hgrow
          have hq : ∀ (o m : Nat) (Lb : List Int) (A : Option Addr) (c : Nat), wc.cell? ⟨bl, o, none⟩ = some (.slice A m c) → wc.frozen? ⟨bl, o, none⟩ = false → wc.ownsRow u0.heap.size 3 1 (.slice A m c) Lb.length (Lb.map (Value.int .i64)) → (∀ k, (Value.slice A m c).ownBlock = some k → k ≠ bl) → QU w3 bl o wc.heap.size Lb 0 := fun o m Lb A c h1 h2 h3 h4 => by
            obtain ⟨a, cap, e, h5, -, h6, -, -⟩ := nums_of_own h3
            simp only [Value.slice.injEq] at e
            obtain ⟨rfl, rfl, rfl⟩ := e
            refine ⟨⟨A, c, by rw [hb3.cell (p := ⟨bl, o, none⟩) HFN.out.hi, h1]; rfl, h6, by rw [List.drop_zero]; exact h5.kept hb3, fun b' o' e => ⟨h4 b' (by rw [e]; rfl), ?_⟩⟩, by rw [hb3.frozen (p := ⟨bl, o, none⟩) HFN.out.hi]; exact h2⟩
            have := (h3.lt b' (by rw [e]; rfl)).2
            omega
          have hLQ : LQ u0 L L0 L1 Lp bl wc.heap.size n 0 w3 := ⟨hD.congr fun j _ => by simp, by rw [rkN_zero]; exact hq 0 m0 L0 A0 c0 HFN.out.p0 HFN.out.z0 HFN.out.o0 HFN.out.ne0, by rw [rkN_zero]; exact hq 1 m1 L1 A1 c1 HFN.out.p1 HFN.out.z1 HFN.out.o1 HFN.out.ne1, by have := HFN.out.hi; omega, HFN.out.lo, ⟨_, own_mono hown HFN.out.bel.size⟩⟩
          have HLQ := Lib.hid hLQ
          clear hown hgrow hD hb3 hq hLQ hi hz0 hz1 hz2 HFN
          generalize wc.heap.size = D at *
          go_wp2
          go_loopw [12, 13, 51] (fun _ _ v51 wr => ∃ i : Nat, i ≤ n ∧ v51 = .int .i64 (i : Int) ∧ LQ u0 L L0 L1 Lp bl D n i wr) (fun _ _ v51 _ => n - (intOf v51).toNat)
          case atStart => exact ⟨0, Nat.zero_le _, rfl, HLQ.out⟩
          case round =>
            obtain ⟨i, hin, rfl, hQ⟩ := hrel
            clear HLQ
            by_cases hlt : i < n
            · obtain ⟨y0, y1, y2, y3, y4, y5, y6, y7, y8, y9⟩ := HK.out.2.2.2.1 _ hQ.row.bel
              have hone := HK.out.2.2.2.2.1 _ hQ.row.bel (i : Int)
              obtain ⟨bit, hbit⟩ : ∃ bit, Lp.getD i false = bit := ⟨_, rfl⟩
              have ho : oneI Lp (i : Int) = if bit then 1 else 0 := by
                unfold oneI getB
                rw [Int.toNat_natCast, hbit]
                simp
              rw [ho] at hone
              have hat := HK.out.2.2.2.2.2.1 i bit hlt hbit
              have hiL : i < Lp.length := by rw [HK.out.2.2.2.2.2.2.2.2.1]; exact hlt
              have hs0 := rkN_succ false Lp i hiL
              have hs1 := rkN_succ true Lp i hiL
              rw [hbit] at hs0 hs1
              have hm0 := rkN_mono false Lp (i + 1) n hlt
              have hm1 := rkN_mono true Lp (i + 1) n hlt
              rw [← HK.out.2.2.2.2.2.2.1] at hm0
              rw [← HK.out.2.2.2.2.2.2.2.1] at hm1
              have HQ := Lib.hid hQ
              have HONE := Lib.hid hone
              have q3 : (i : Int) < (n : Int) := by omega
              have q4 : (0 : Int) ≤ (i : Int) := by omega
              clear hQ hone ho y0 y1 y2 y3 hbit
              go_wp2_with fail
              (with_reducible refine HONE.out.mono ?_)
              rintro e u1 ⟨rfl, hb1⟩
              have hQ1 := HQ.out.kept hb1
              clear hb1 HQ HONE y4 y5 y6 y7 y8 y9
              cases bit with
              | false =>
                rw [if_neg (by decide)] at hat
                rw [if_pos rfl] at hs0
                rw [if_neg (by decide)] at hs1
                obtain ⟨A, c, p0, p1, p2, p3⟩ := hQ1.q0.sl
                have z0 := hQ1.q0.frz
                have hj0 : rkN false Lp i < L0.length := by omega
                obtain ⟨g, o, hAe, -, ck⟩ := num_at p2 (i := 0) (by rw [List.length_drop]; omega)
                subst hAe
                have hdd : (L0.drop (rkN false Lp i)).getD 0 0 = L.getD i 0 := by rw [← hat]; simp [List.getD_eq_getElem?_getD]
                rw [hdd, Nat.add_zero] at ck
                obtain ⟨x, hx⟩ : ∃ x, L.getD i 0 = x := ⟨_, rfl⟩
                rw [hx] at ck
                obtain ⟨r, hr⟩ : ∃ r, L0.length - rkN false Lp i = r + 1 := ⟨L0.length - rkN false Lp i - 1, by omega⟩
                rw [hr] at p0 p1
                obtain ⟨cp, rfl⟩ : ∃ cp, c = cp + 1 := ⟨c - 1, by omega⟩
                have c7 : (u1.setCell ⟨D, i, none⟩ (.int .i64 x)).cell? ⟨bl, 0, none⟩ = some (.slice (some ⟨g, o, none⟩) (r + 1) (cp + 1)) := by rw [World.cell?_setCell_other _ _ _ _ (ne_addr (Ne.symm hQ1.ne))]; exact p0
                have z7 : (u1.setCell ⟨D, i, none⟩ (.int .i64 x)).frozen? ⟨bl, 0, none⟩ = false := by simpa using z0
                have cD := hQ1.row.cell i hlt
                have zD := hQ1.row.frz i hlt
                have hp4 := nums_next p2
                have HN := Lib.hid (And.intro hQ1 (And.intro hp4 (And.intro p3 (And.intro hs0 (And.intro hs1 (And.intro hx (And.intro hr hj0)))))))
                have q5 : (0 : Int) < (r : Int) + 1 := by omega
                have q6 : (1 : Int) ≤ (r : Int) + 1 := by omega
                have q7 : (1 : Int) ≤ (cp : Int) + 1 := by omega
                have q8 : r ≤ cp := by omega
                clear hQ1 p2 p3 hp4 hs0 hs1 hx hr hat hdd hj0 hm0 hm1 p1
                simp only [Nat.lt_irrefl, if_false] at cD
                rcases Nat.eq_zero_or_pos cp with hcp | hcp
                · subst hcp
                  obtain rfl : r = 0 := by omega
                  go_wp2
                  go_region
                  all_goals
                    go_wp2
                    go_roundw
                    case rel =>
                      obtain ⟨f1, f2, f3, f4, f5, f6, f7, f8⟩ := HN.out
                      exact ⟨i + 1, by omega, by go_num, f1.step0 hlt f6 f4 f5 (by omega) (Nat.zero_le _) (.inl (List.drop_eq_nil_of_le (by omega))) f3⟩
                    case measure => simp [intOf]; omega
                · have q9 : ¬ (1 : Int) = (cp : Int) + 1 := by omega
                  have q10 : ¬ 1 = cp + 1 := by omega
                  go_wp2
                  go_region
                  all_goals
                    go_wp2
                    go_roundw
                    case rel =>
                      obtain ⟨f1, f2, f3, f4, f5, f6, f7, f8⟩ := HN.out
                      exact ⟨i + 1, by omega, by go_num, f1.step0 hlt f6 f4 f5 (by omega) q8 f2 (fun b' o' e => by cases e; exact f3 _ _ rfl)⟩
                    case measure => simp [intOf]; omega
              | true =>
                rw [if_pos rfl] at hat
                rw [if_pos rfl] at hs1
                rw [if_neg (by decide)] at hs0
                obtain ⟨A, c, p0, p1, p2, p3⟩ := hQ1.q1.sl
                have z0 := hQ1.q1.frz
                have hj0 : rkN true Lp i < L1.length := by omega
                obtain ⟨g, o, hAe, -, ck⟩ := num_at p2 (i := 0) (by rw [List.length_drop]; omega)
                subst hAe
                have hdd : (L1.drop (rkN true Lp i)).getD 0 0 = L.getD i 0 := by rw [← hat]; simp [List.getD_eq_getElem?_getD]
                rw [hdd, Nat.add_zero] at ck
                obtain ⟨x, hx⟩ : ∃ x, L.getD i 0 = x := ⟨_, rfl⟩
                rw [hx] at ck
                obtain ⟨r, hr⟩ : ∃ r, L1.length - rkN true Lp i = r + 1 := ⟨L1.length - rkN true Lp i - 1, by omega⟩
                rw [hr] at p0 p1
                obtain ⟨cp, rfl⟩ : ∃ cp, c = cp + 1 := ⟨c - 1, by omega⟩
                have c7 : (u1.setCell ⟨D, i, none⟩ (.int .i64 x)).cell? ⟨bl, 1, none⟩ = some (.slice (some ⟨g, o, none⟩) (r + 1) (cp + 1)) := by rw [World.cell?_setCell_other _ _ _ _ (ne_addr (Ne.symm hQ1.ne))]; exact p0
                have z7 : (u1.setCell ⟨D, i, none⟩ (.int .i64 x)).frozen? ⟨bl, 1, none⟩ = false := by simpa using z0
                have cD := hQ1.row.cell i hlt
                have zD := hQ1.row.frz i hlt
                have hp4 := nums_next p2
                have HN := Lib.hid (And.intro hQ1 (And.intro hp4 (And.intro p3 (And.intro hs0 (And.intro hs1 (And.intro hx (And.intro hr hj0)))))))
                have q5 : (0 : Int) < (r : Int) + 1 := by omega
                have q6 : (1 : Int) ≤ (r : Int) + 1 := by omega
                have q7 : (1 : Int) ≤ (cp : Int) + 1 := by omega
                have q8 : r ≤ cp := by omega
                clear hQ1 p2 p3 hp4 hs0 hs1 hx hr hat hdd hj0 hm0 hm1 p1
                simp only [Nat.lt_irrefl, if_false] at cD
                rcases Nat.eq_zero_or_pos cp with hcp | hcp
                · subst hcp
                  obtain rfl : r = 0 := by omega
                  go_wp2
                  go_region
                  all_goals
                    go_wp2
                    go_roundw
                    case rel =>
                      obtain ⟨f1, f2, f3, f4, f5, f6, f7, f8⟩ := HN.out
                      exact ⟨i + 1, by omega, by go_num, f1.step1 hlt f6 f5 f4 (by omega) (Nat.zero_le _) (.inl (List.drop_eq_nil_of_le (by omega))) f3⟩
                    case measure => simp [intOf]; omega
                · have q9 : ¬ (1 : Int) = (cp : Int) + 1 := by omega
                  have q10 : ¬ 1 = cp + 1 := by omega
                  go_wp2
                  go_region
                  all_goals
                    go_wp2
                    go_roundw
                    case rel =>
                      obtain ⟨f1, f2, f3, f4, f5, f6, f7, f8⟩ := HN.out
                      exact ⟨i + 1, by omega, by go_num, f1.step1 hlt f6 f5 f4 (by omega) q8 f2 (fun b' o' e => by cases e; exact f3 _ _ rfl)⟩
                    case measure => simp [intOf]; omega
            · obtain rfl : i = n := by omega
              have hOI : OwnI w (.slice (some ⟨D, 0, none⟩) i i) L wr := by
                have h9 := hQ.fin HK.out.2.2.2.2.2.2.2.2.2
                refine ⟨own_mono ?_ HWB.out.size, HWB.out.trans (hQ.row.bel.mono HWB.out.size)⟩
                rw [HK.out.2.2.2.2.2.2.2.2.2]; exact h9
              have HOI := Lib.hid hOI
              have q3 : ¬ (i : Int) < (i : Int) := by omega
              clear hQ hOI
              go_wp2
              go_ret
              exact ⟨_, rfl, HOI.out⟩
      · have hpe : f x0.toNat = p := by rw [List.take_of_length_le (by omega)] at hxt; exact hxt
        have hrep := subL_one hF hxm
        rw [hpe] at hrep
        have hsy : ∀ (u : World) (h : SX u C sb b size xs f ks Rf), (Instr.lookup 28 (.map (some sb)) (.string (str p)) true).run Tryz.prog u = .ok (.tuple #[.int .i64 x0, .bool true]) u := fun u h => by
          obtain ⟨N, hs⟩ := h.syms
          rw [← hpe, hs.lookOk (t := 28) (e := 3) Tryz.underlying28 zero3 _ (by omega), hF.sym hxm]; rfl
        obtain ⟨n, hn⟩ : ∃ n, (subL f p xs).length = n := ⟨_, rfl⟩
        rw [hn] at hrep h0 hsl ⊢
        rw [hrep]
        have k1 := hsy _ hS.sx
        have l2 := hS.c2
        have hal := (Below.refl w0.heap.size w0).alloc (Nat.le_refl _) (.cells #[.int .i64 x0] 3)
        have hrp := rep_any w0.heap.size 0 1 x0 n (w0.alloc (.cells #[.int .i64 x0] 3)) (by rw [cell_new _ _ _ _ _ rfl]; rfl) (by omega) (by omega)
        have HH := Lib.hid (And.intro hrp (hS.bel.trans (hal.mono hS.bel.size)))
        have q1 : ((n : Int) == 0) = false := by simp; omega
        clear hS h ih hrep hx0 hx0e hxt hsy hpe hlong hn hF hxm hlx hal
        generalize str p = key at *
        go_enter Tryz.func25, Tryz.ntmps25
        go_upto_region 1 with fail
        rw [← hw0, ← hbx]
        clear hw0 hbx
        go_wp2_with fail
        (with_reducible refine HH.out.1.mono ?_)
        rintro e u2 ⟨D, rfl, hRI, hD⟩
        have hO := hRI.own (w := w) (Nat.le_trans HH.out.2.size hD) HH.out.2 (by omega)
        have HO := Lib.hid hO
        clear hRI hO hD
        go_wp2
        go_ret
        exact ⟨_, rfl, HO.out⟩

end Go.Proofs.YtdidoecigkbffaaGreat
end

section
/- The contract of List. -/
set_option maxRecDepth 100000
namespace Go.Proofs.YtdidoecigkbffaaGreat
open Go.RowKit
open S J M
attribute [local go_sem ↓] Go.wp_at_zero Go.wp_at_succ

variable {w : World} {C sb b size : Nat} {xs : List Int} {f : Nat → List Bool} {ks : List (List Bool)} {Rf : List Bool → RP}
theorem slist_any (n : Nat) (h : SX w C sb b size xs f ks Rf) (hF : FR xs size f) (hsz : size ≤ 39) (hn : xs.length = n) (hn2 : n ≤ 1000) :
    Calls Tryz.prog 13 #[.agg #[.int .i64 (n : Int), .slice (some ⟨C, 0, none⟩) size size, .map (some sb), .map (some b)]] w fun e u => ∃ v, e = .returned v ∧ OwnI w v xs u := by
  have hS := SB.new n h
  have hc := fun u (hu : SX u C sb b size xs f ks Rf) => listed_any hF hsz n (by omega) (size + 1) [] (by simp) (Nat.zero_le _) u hu
  simp only [subL_nil, hn] at hc
  rw [show str [] = (⟨#[]⟩ : ByteArray) from rfl] at hc
  obtain ⟨w0, hw0⟩ : ∃ w0, w0 = w.alloc (.cells #[.int .i64 (n : Int), .slice (some ⟨C, 0, none⟩) size size, .map (some sb), .map (some b)] 31) := ⟨_, rfl⟩
  obtain ⟨bx, hbx⟩ : ∃ bx, bx = w.heap.size := ⟨_, rfl⟩
  rw [← hw0, ← hbx] at hS
  have hc1 := hc w0 hS.sx
  have HC := Lib.hid (And.intro hc1 hS.bel)
  have l0 := hS.c0
  have l1 := hS.c1
  have l2 := hS.c2
  have l3 := hS.c3
  clear hS hc hc1 h hF
  go_enter Tryz.func13, Tryz.ntmps13
  go_upto_region 1 with fail
  rw [← hw0, ← hbx]
  clear hw0 hbx
  go_wp2_with fail
  (with_reducible refine HC.out.1.mono ?_)
  rintro e u ⟨v, rfl, hI⟩
  have HI := Lib.hid (And.intro (own_mono hI.1 HC.out.2.size) (HC.out.2.trans (hI.2.mono HC.out.2.size)))
  clear hI
  go_wp2
  go_ret
  exact ⟨_, rfl, HI.out.1, HI.out.2⟩

end Go.Proofs.YtdidoecigkbffaaGreat
end

section
/- What ShapedTells needs besides: the document's Same, Cost, and how the counts of one symbol are its ranks. -/
set_option maxRecDepth 100000
namespace Go.Proofs.YtdidoecigkbffaaGreat
open Go.RowKit
open S J M
attribute [local go_sem ↓] Go.wp_at_zero Go.wp_at_succ

set_option maxHeartbeats 1000000 in
theorem rsame_any (a1 a2 : Option Addr) (n1 n2 c1 c2 : Nat) (l1 l2 : List Int) (w : World) (h1 : NumsAt .i64 w a1 l1) (h2 : NumsAt .i64 w a2 l2) (e1 : l1.length = n1) (e2 : l2.length = n2) (hl : n1 ≤ 1000000000) :
    Calls Tryz.prog 12 #[.slice a1 n1 c1, .slice a2 n2 c2] w fun e w' => e = .returned (.bool (decide (l1 = l2))) ∧ Below w.heap.size w w' := by
  by_cases hne : n1 = n2
  · subst hne
    have H1 := Lib.hid (And.intro h1 e1)
    have H2 := Lib.hid (And.intro h2 e2)
    clear h1 h2 e1 e2
    go_enter Tryz.func12, Tryz.ntmps12
    go_wp2
    go_loopw [5] (fun v wr => ∃ i : Nat, i ≤ n1 ∧ v = .int .i64 (i : Int) ∧ l1.take i = l2.take i ∧ Below w.heap.size w wr) (fun v _ => n1 - (intOf v).toNat)
    case atStart => exact ⟨0, Nat.zero_le _, rfl, rfl, Below.refl _ _⟩
    case round =>
      obtain ⟨i, hi, rfl, htk, hbel⟩ := hrel
      by_cases hlt : i < n1
      · have hl1 := H1.out.2
        have hl2 := H2.out.2
        rcases H1.out.1.kept hbel with hnil | ⟨b1, o1, rfl, hb1, hc1⟩
        · subst hnil; simp at hl1; omega
        rcases H2.out.1.kept hbel with hnil | ⟨b2, o2, rfl, hb2, hc2⟩
        · subst hnil; simp at hl2; omega
        have d1 := hc1 i (by omega)
        have d2 := hc2 i (by omega)
        have q1 : (i : Int) < (n1 : Int) := by omega
        have q3 : (0 : Int) ≤ (i : Int) := by omega
        have ht1 := takeI_snoc l1 i (by omega)
        have ht2 := takeI_snoc l2 i (by omega)
        by_cases he : l1.getD i 0 = l2.getD i 0
        · have htk2 : l1.take (i + 1) = l2.take (i + 1) := by rw [ht1, ht2, htk, he]
          have HT := Lib.hid (And.intro htk2 hbel)
          rw [← he] at d2
          clear htk2 ht1 ht2 htk he hc1 hc2 hl1 hl2 hbel
          generalize l1.getD i 0 = bv at *
          have hbn : (bv != bv) = false := by simp
          go_wp2
          go_quiet (fail)
          go_wp2
          go_roundw
          case rel => exact ⟨i + 1, by omega, by go_num, HT.out.1, below_drewN HT.out.2 _⟩
          case measure => simp [intOf]; omega
        · have hneq : l1 ≠ l2 := fun e => he (by rw [e])
          have hbn : (l1.getD i 0 != l2.getD i 0) = true := by simpa using he
          have HT := Lib.hid (And.intro hneq hbel)
          clear ht1 ht2 htk hc1 hc2 hl1 hl2 hbel hneq he
          generalize l1.getD i 0 = bv at *
          generalize l2.getD i 0 = cv at *
          go_wp2
          go_quiet (fail)
          go_wp2
          go_ret
          exact ⟨ret_bool (by rw [decide_eq_false HT.out.1]), below_drewN HT.out.2 _⟩
      · obtain rfl : i = n1 := by omega
        have heq : l1 = l2 := by
          have := htk
          rw [List.take_of_length_le (by rw [H1.out.2]; omega), List.take_of_length_le (by rw [H2.out.2]; omega)] at this
          exact this
        have HT := Lib.hid (And.intro heq hbel)
        clear heq hbel htk
        go_wp2
        go_ret
        exact ⟨ret_bool (by rw [decide_eq_true HT.out.1]), HT.out.2⟩
  · have hneq : l1 ≠ l2 := fun e => hne (by rw [← e1, ← e2, e])
    have HT := Lib.hid hneq
    clear h1 h2 e1 e2 hneq
    have hb1 : ((n1 : Int) != (n2 : Int)) = true := by simp; omega
    have hb2 : (n1 != n2) = true := by simp; omega
    go_enter Tryz.func12, Tryz.ntmps12
    go_wp2
    go_ret
    exact ⟨ret_bool (by rw [decide_eq_false HT.out]), Below.refl _ _⟩

theorem scost_any (n C sb b size : Nat) (xs : List Int) (f : Nat → List Bool) (ks : List (List Bool)) (Rf : List Bool → RP) (w : World) (h : SX w C sb b size xs f ks Rf) (hT : ((codesL xs f).map List.length).sum ≤ 1000000) :
    Calls Tryz.prog 15 #[.agg #[.int .i64 (n : Int), .slice (some ⟨C, 0, none⟩) size size, .map (some sb), .map (some b)]] w fun e w' => e = .returned (.int .i64 (((codesL xs f).map List.length).sum : Nat)) ∧ Below w.heap.size w w' := by
  obtain ⟨N, hp⟩ := h.parts
  have htot : rest ks (fun l => (partB (codesL xs f) l).length) (fun _ => true) = ((codesL xs f).map List.length).sum := by
    rw [rest_all, cost_total ks hp.nd _ (fun p hp => (h.keys p).2 hp)]
  have := cost_any n b N (.slice (some ⟨C, 0, none⟩) size size) (.map (some sb)) ks _ Rf w hp (by rw [htot]; exact hT)
  rw [htot] at this
  exact this
theorem sum_le (l : List (List Bool)) (k : Nat) (h : ∀ c ∈ l, c.length ≤ k) : (l.map List.length).sum ≤ k * l.length := by
  induction l with
  | nil => simp
  | cons c l ih =>
    have h1 := h c (by simp)
    have h2 := ih (fun c hc => h c (by simp [hc]))
    rw [List.map_cons, List.sum_cons, List.length_cons, Nat.mul_add]; omega

theorem rk_eqs (xs : List Int) (c : Int) (i : Nat) : rkN true (eqs xs c) i = (xs.take i).count c := by
  unfold rkN eqs
  rw [← List.map_take]
  generalize xs.take i = l
  induction l with
  | nil => rfl
  | cons x l ih =>
    rw [List.map_cons, List.count_cons, List.count_cons, ih]
    by_cases h : x = c <;> simp [h]
theorem sel_eqs (xs : List Int) (c k : Int) (n : Nat) (hn : xs.length = n) (e : Ending)
    (h : (k < 0 ∨ (xs.count c : Int) ≤ k) ∧ e = .returned (.int .i64 (-1)) ∨ ∃ P : Nat, P < n ∧ xs.getD P 0 = c ∧ ((xs.take P).count c : Int) = k ∧ ((xs.take (P + 1)).count c : Int) = k + 1 ∧ e = .returned (.int .i64 (P : Int))) :
    e = .returned (.int .i64 (selN true (eqs xs c) k)) := by
  rcases h with ⟨h, rfl⟩ | ⟨P, hP, hx, hk, -, rfl⟩
  · rw [selN_none]
    rw [eqs_len, rk_eqs, List.take_of_length_le (Nat.le_refl _)]
    exact h
  · rw [selN_at true (eqs xs c) k P (by rw [eqs_len]; omega) (by rw [eqs_at _ _ _ (by omega), decide_eq_true hx]) (by rw [rk_eqs]; exact hk)]

end Go.Proofs.YtdidoecigkbffaaGreat
end

section
/- The walk of ShapedTells. -/
set_option maxRecDepth 100000
namespace Go.Proofs.YtdidoecigkbffaaGreat
open Go.RowKit
open S J M
attribute [local go_sem ↓] Go.wp_at_zero Go.wp_at_succ

variable {u u' : World} {qb : Nat} {q0 q1 q2 q3 : Int}
/-- The four numbers in their box. -/
structure QZ (qb : Nat) (q0 q1 q2 q3 : Int) (u : World) : Prop where
  z0 : u.cell? ⟨qb, 0, none⟩ = some (.int .i64 q0)
  z1 : u.cell? ⟨qb, 1, none⟩ = some (.int .i64 q1)
  z2 : u.cell? ⟨qb, 2, none⟩ = some (.int .i64 q2)
  z3 : u.cell? ⟨qb, 3, none⟩ = some (.int .i64 q3)
theorem QZ.kept (h : QZ qb q0 q1 q2 q3 u) (hb : Below u.heap.size u u') : QZ qb q0 q1 q2 q3 u' := by
  have hl := World.block_lt_of_cell? u _ h.z0
  exact ⟨by rw [hb.cell (p := ⟨qb, 0, none⟩) hl]; exact h.z0, by rw [hb.cell (p := ⟨qb, 1, none⟩) hl]; exact h.z1, by rw [hb.cell (p := ⟨qb, 2, none⟩) hl]; exact h.z2, by rw [hb.cell (p := ⟨qb, 3, none⟩) hl]; exact h.z3⟩
theorem alB (w : World) (o : Obj) : Below w.heap.size w (w.alloc o) := (Below.refl _ _).alloc (Nat.le_refl _) _
theorem nums_oneZ (w : World) (y : Int) : NumsAt .i64 (w.alloc (.cells #[.int .i64 y] 3)) (some ⟨w.heap.size, 0, none⟩) [y] :=
  .inr ⟨w.heap.size, 0, rfl, by simp, fun j hj => by
    have : j = 0 := by simp at hj; omega
    subst this
    rw [cell_new _ _ _ _ _ rfl]; rfl⟩
theorem mayB_iff (l : List Int) (s : Nat) (h1 : 1 ≤ s) (h2 : s ≤ 65536) : mayB l (s : Int) = decide (∀ x ∈ l, 0 ≤ x ∧ x < (s : Int)) := by
  unfold mayB
  rw [decide_eq_true (show (1 : Int) ≤ (s : Int) by omega), decide_eq_true (show (s : Int) ≤ 65536 by omega), Bool.true_and, Bool.true_and, Bool.eq_iff_iff, List.all_eq_true, decide_eq_true_iff]
  simp

variable {w : World} {bx n C sb b size C2 : Nat} {xs : List Int} {f : Nat → List Bool} {ks : List (List Bool)} {Rf : List Bool → RP} {P : Option Addr}
/-- What the law holds: the row in its box, the four numbers, the list, the codes of the document. -/
structure TZ (w : World) (qb : Nat) (q0 q1 q2 q3 : Int) (bx n C sb b size : Nat) (xs : List Int) (f : Nat → List Bool) (ks : List (List Bool)) (Rf : List Bool → RP) (P : Option Addr) (C2 : Nat) (u : World) : Prop where
  sb : SB w bx n C sb b size xs f ks Rf u
  qz : QZ qb q0 q1 q2 q3 u
  nums : NumsAt .i64 u P xs
  cd : ∀ i, i < size → u.cell? ⟨C2, i, none⟩ = some (.string (str (f i)))
theorem TZ.kept (h : TZ w qb q0 q1 q2 q3 bx n C sb b size xs f ks Rf P C2 u) (hb : Below u.heap.size u u') : TZ w qb q0 q1 q2 q3 bx n C sb b size xs f ks Rf P C2 u' :=
  ⟨h.sb.kept hb, h.qz.kept hb, h.nums.kept hb, fun i hi => by rw [hb.cell (p := ⟨C2, i, none⟩) (World.block_lt_of_cell? u _ (h.cd i hi))]; exact h.cd i hi⟩

theorem TZ.drew (h : TZ w qb q0 q1 q2 q3 bx n C sb b size xs f ks Rf P C2 u) : TZ w qb q0 q1 q2 q3 bx n C sb b size xs f ks Rf P C2 u.drew := h.kept ((Below.refl _ _).drew)

/-- How many digits the codes of the first i have. -/
def costN (f : Nat → List Bool) (xs : List Int) (i : Nat) : Nat := ((xs.take i).map fun x => (f x.toNat).length).sum
theorem costN_succ (f : Nat → List Bool) (xs : List Int) (i : Nat) (h : i < xs.length) : costN f xs (i + 1) = costN f xs i + (f (xs.getD i 0).toNat).length := by
  unfold costN
  rw [takeI_snoc xs i h, List.map_append, List.sum_append]
  simp
theorem costN_le (f : Nat → List Bool) (xs : List Int) {B : Nat} (hB : ∀ c, (f c).length ≤ B) : ∀ i, i ≤ xs.length → costN f xs i ≤ i * B := by
  intro i
  induction i with
  | zero => intro _; simp [costN]
  | succ i ih =>
    intro hi
    rw [costN_succ f xs i (by omega), Nat.add_mul, Nat.one_mul]
    have := ih (by omega)
    have := hB (xs.getD i 0).toNat
    omega
theorem costN_all (f : Nat → List Bool) (xs : List Int) : costN f xs xs.length = ((codesL xs f).map List.length).sum := by
  unfold costN codesL
  rw [List.take_of_length_le (Nat.le_refl _), List.map_map]
  rfl

set_option maxHeartbeats 16000000 in
theorem tells_walk (A : Option Addr) (n0 c0 : Nat) (xs0 : List Int) (q0 q1 q2 q3 : Int) (raw : Bool) (w : World) (hA : NumsAt .i64 w A xs0) (hx : xs0.length = n0) (hq1 : q1 ≤ 9223372036854775807) :
    Calls Tryz.prog 3 #[.slice A n0 c0, .agg #[.int .i64 q0, .int .i64 q1, .int .i64 q2, .int .i64 q3], .bool raw] w fun e w' => e = .returned (.bool true) ∧ Below w.heap.size w w' := by
  have hsy := fun u (hb : Below w.heap.size w u) => symbols_any A n0 c0 xs0 q3 u (hA.kept hb) hx
  obtain ⟨qb, hqb⟩ : ∃ qb, qb = w.heap.size := ⟨_, rfl⟩
  obtain ⟨w0, hw0⟩ : ∃ w0, w0 = w.alloc (.cells #[.int .i64 q0, .int .i64 q1, .int .i64 q2, .int .i64 q3] 23) := ⟨_, rfl⟩
  have hb0 : Below w.heap.size w w0 := by rw [hw0]; exact alB _ _
  have hz : QZ qb q0 q1 q2 q3 w0 := by
    rw [hw0, hqb]
    exact ⟨by rw [cell_new _ _ _ _ _ rfl]; rfl, by rw [cell_new _ _ _ _ _ rfl]; rfl, by rw [cell_new _ _ _ _ _ rfl]; rfl, by rw [cell_new _ _ _ _ _ rfl]; rfl⟩
  have HSY := Lib.hid (And.intro hsy (And.intro hz (And.intro hb0 hq1)))
  clear hsy hA hx hb0 hz hq1
  go_enter Tryz.func3, Tryz.ntmps3
  go_upto_region 1 with fail
  rw [← hw0, ← hqb]
  clear hw0 hqb
  go_wp2_with fail
  (with_reducible refine (awake_any _).mono ?_)
  rintro e w1 ⟨rfl, hb1⟩
  have hbw := HSY.out.2.2.1.trans (hb1.mono HSY.out.2.2.1.size)
  have hz1 := HSY.out.2.1.kept hb1
  have hs1 := HSY.out.1 w1 hbw
  have H1 := Lib.hid (And.intro hbw (And.intro hz1 hs1))
  have z3 := hz1.z3
  clear hb1 hbw hz1 hs1
  go_wp2_with fail
  (with_reducible refine H1.out.2.2.mono ?_)
  rintro e w2 ⟨s, v, m, rfl, hs1, hs2, hm80, hms, hom⟩
  obtain ⟨ma, mc, rfl, hmn, -, -, -, hmN⟩ := nums_of_own hom.1
  obtain ⟨L, hL⟩ : ∃ L, L = m.length := ⟨_, rfl⟩
  rw [← hL] at hm80 ⊢
  have hbw := H1.out.1.trans (hom.2.mono H1.out.1.size)
  have hz2 := H1.out.2.1.kept hom.2
  have hmN2 : ma = none → L = 0 ∧ mc = 0 := fun e => by
    refine ⟨?_, hmN e⟩
    rcases hmn with h | ⟨b, off, h, -⟩
    · rw [hL, h]; rfl
    · rw [e] at h; cases h
  have H2 := Lib.hid (And.intro hmn (And.intro hL.symm (And.intro hbw (And.intro hz2 hmN2))))
  clear z3 hmn hL hbw hz2 hms hom hmN hmN2 H1
  go_upto_if 29 with fail
  go_cut [8] from 30 to 37 (fun v8 wx => ∃ (P : Option Addr) (pc : Nat) (ms : List Int), v8 = .slice P ms.length pc ∧ NumsAt .i64 wx P ms ∧ ms.length ≤ 81 ∧ Below w.heap.size w wx ∧ QZ qb q0 q1 q2 q3 wx)
  case first =>
    cases raw with
    | false =>
      go_wp2
      go_meet
      exact ⟨ma, mc, m, by rw [H2.out.2.1], H2.out.1, by rw [H2.out.2.1]; omega, H2.out.2.2.1, H2.out.2.2.2.1⟩
    | true =>
      have z2 := H2.out.2.2.2.1.z2
      go_wp2_with (first
        | (at_builtin
           refine wpList_append_nums rfl (.tmp 30) (.tmp 33) rfl w2.heap.size (.slice none 0 0) 0 [] rfl (World.ownsRow_nil _ _ _ _) (some ⟨_, 0, none⟩) 1 1 [q2] rfl rfl ?c1 (by simp) ?c2 ?c3 ?_))
      case c1 => exact nums_oneZ _ _
      case c2 => omega
      case c3 => simp
      intro v1 y1 hown hgrow _
      have hI1 : OwnI w2 v1 [q2] y1 := OwnI.app (v := .slice none 0 0) (l := []) ⟨World.ownsRow_nil _ _ _ _, alB _ _⟩ (by simpa using hown) hgrow
      have HI1 := Lib.hid hI1
      have hz1 := hI1.2.size
      clear hown hgrow hI1 z2
      go_wp2_with (first
        | (at_builtin
           refine wpList_append_nums rfl (.tmp 35) (.tmp 36) rfl w2.heap.size _ _ _ rfl HI1.out.1 ma L mc m rfl H2.out.2.1 (H2.out.1.kept HI1.out.2) H2.out.2.2.2.2 ?e2 hz1 ?_))
      case e2 => simp; omega
      intro v2 y2 hown hgrow _
      have hI2 := HI1.out.app (l' := [q2] ++ m) (by rw [List.length_append, List.map_append, H2.out.2.1]; exact hown) hgrow
      obtain ⟨P, pc, rfl, hP, -, -, -, -⟩ := nums_of_own hI2.1
      have hbw := H2.out.2.2.1.trans (hI2.2.mono H2.out.2.2.1.size)
      have HI2 := Lib.hid (And.intro hP (And.intro hbw (H2.out.2.2.2.1.kept hI2.2)))
      clear hown hgrow hI2 hP hbw
      go_wp2
      go_meet
      exact ⟨P, pc, [q2] ++ m, rfl, HI2.out.1, by rw [List.length_append, H2.out.2.1]; simp; omega, HI2.out.2.1, HI2.out.2.2⟩
  case rest =>
    obtain ⟨P, pc, ms, rfl, hP, hm81, hbw, hz⟩ := hcut
    obtain ⟨N, hN⟩ : ∃ N, ms.length = N := ⟨_, rfl⟩
    rw [hN] at hm81 ⊢
    have hmay := mayB_iff ms s hs1 (by omega)
    have hmy := fun u (hu : NumsAt .i64 u P ms) => wmay_any P N pc ms (s : Int) u hu hN (by omega)
    rw [hmay] at hmy
    by_cases hgood : ∀ x ∈ ms, 0 ≤ x ∧ x < (s : Int)
    · rw [decide_eq_true hgood] at hmy
      have hnew := new_ok P N pc s ms wc hP hN (by omega) hgood hs1 (by omega)
      have HM := Lib.hid (And.intro hP (And.intro hN (And.intro hgood (And.intro hbw (And.intro hz (And.intro hmy hnew))))))
      clear hP hN hgood hbw hz hmy hnew hmay H2
      go_wp2_with fail
      (with_reducible refine HM.out.2.2.2.2.2.2.mono ?_)
      rintro e u1 ⟨C, sb, b, ys, zs, ks, Rf, rfl, hcod, hSH⟩
      rw [HM.out.2.1]
      have hF := FR.of hcod HM.out.2.2.1
      have hsx := hSH.sx
      have hSB := SB.new N hsx
      have hbB := HM.out.2.2.2.1.trans (hSH.bel.mono HM.out.2.2.2.1.size)
      have hbw := hbB.trans (hSB.bel.mono hbB.size)
      have hT : TZ w qb q0 q1 q2 q3 u1.heap.size N C sb b s ms (codF ys zs) ks Rf P C (u1.alloc (.cells #[.int .i64 (N : Int), .slice (some ⟨C, 0, none⟩) s s, .map (some sb), .map (some b)] 31)) :=
        ⟨⟨hSB.c0, hSB.c1, hSB.c2, hSB.c3, hSB.sx, hbw⟩, (HM.out.2.2.2.2.1.kept hSH.bel).kept hSB.bel, (HM.out.1.kept hSH.bel).kept hSB.bel, hSB.sx.codes⟩
      obtain ⟨u2, hu2⟩ : ∃ u2, u2 = u1.alloc (.cells #[.int .i64 (N : Int), .slice (some ⟨C, 0, none⟩) s s, .map (some sb), .map (some b)] 31) := ⟨_, rfl⟩
      obtain ⟨bx, hbx⟩ : ∃ bx, bx = u1.heap.size := ⟨_, rfl⟩
      rw [← hu2, ← hbx] at hT
      have hmy := HM.out.2.2.2.2.2.1 u2 hT.nums
      have hcn := dcounts_any P N pc s ms u2 hT.nums HM.out.2.1 (by omega) HM.out.2.2.1 (by omega)
      have hyl : ys.length ≤ 39 := by
        rw [← hcod.yo.perm.length_eq]
        have := loneL_length (cntL ms s) s
        omega
      have hcl : (cntL ms s).length = s := cntL_length ms s
      have hcd := fun D u (hu : NumsAt .i64 u (some ⟨D, 0, none⟩) (cntL ms s)) => dcodes_any (some ⟨D, 0, none⟩) s s (cntL ms s) ys zs u hcod (by omega) (fun _ => hyl) (ddepths_start (some ⟨D, 0, none⟩) s s (cntL ms s) u hu hcl (by omega) ys hcod.yo)
      obtain ⟨f, hf⟩ : ∃ f, f = codF ys zs := ⟨_, rfl⟩
      rw [← hf] at hF hT
      simp only [← hf] at hcd
      have HT := Lib.hid (And.intro hT (And.intro hmy (And.intro hcn (And.intro hcd hF))))
      clear hF hsx hSB hbB hbw hT hmy hcn hcd hcl hyl hf hcod hSH
      go_upto_region 8 with fail
      rw [← hu2, ← hbx]
      clear hu2 hbx
      go_wp2_with fail
      (with_reducible refine HT.out.2.1.mono ?_)
      rintro e u3 ⟨rfl, rfl⟩
      go_wp2_with fail
      (with_reducible refine HT.out.2.2.1.mono ?_)
      rintro e u3 ⟨D, rfl, hD, hb3⟩
      have hk1 := HT.out.2.2.2.1 D u3 hD
      have hT3 := HT.out.1.kept hb3
      have H3 := Lib.hid (And.intro hk1 hT3)
      clear hD hb3 hk1 hT3
      go_wp2_with fail
      (with_reducible refine H3.out.1.mono ?_)
      rintro e u4 ⟨C2, rfl, hSR⟩
      have hT4k := H3.out.2.kept hSR.bel
      have hT4 : TZ w qb q0 q1 q2 q3 bx N C sb b s ms f ks Rf P C2 u4 := ⟨hT4k.sb, hT4k.qz, hT4k.nums, hSR.cell⟩
      have H4 := Lib.hid (And.intro hT4 HT.out.2.2.2.2)
      clear hSR hT4k hT4 H3 HT
      go_wp2
      go_loopw [14, 15] (fun v14 v15 wr => ∃ i : Nat, i ≤ N ∧ v15 = .int .i64 (i : Int) ∧ v14 = .int .i64 (costN f ms i : Nat) ∧ wr = u4) (fun _ v15 _ => N - (intOf v15).toNat)
      case atStart => exact ⟨0, Nat.zero_le _, rfl, rfl, rfl⟩
      case round =>
        obtain ⟨i, hin, rfl, rfl, rfl⟩ := hrel
        have hcle := costN_le f ms (B := s) H4.out.2.len i (by rw [HM.out.2.1]; exact hin)
        by_cases hlt : i < N
        · obtain ⟨bb, off, hPe, -, ck⟩ := num_at H4.out.1.nums (i := i) (by rw [HM.out.2.1]; exact hlt)
          have hmem := HM.out.2.2.1 _ (memI ms i (by rw [HM.out.2.1]; exact hlt))
          have hsu := costN_succ f ms i (by rw [HM.out.2.1]; exact hlt)
          obtain ⟨k, hk⟩ : ∃ k : Nat, ms.getD i 0 = (k : Int) := ⟨(ms.getD i 0).toNat, by omega⟩
          rw [hk] at ck hmem hsu
          rw [Int.toNat_natCast] at hsu
          have cc := H4.out.1.cd k (by omega)
          have hkl := str_size (f k)
          have hfl := H4.out.2.len k
          obtain ⟨T, hT⟩ : ∃ T, costN f ms i = T := ⟨_, rfl⟩
          rw [hT] at hsu hcle
          rw [hT]
          obtain ⟨d, hd⟩ : ∃ d, (f k).length = d := ⟨_, rfl⟩
          rw [hd] at hkl hsu hfl
          generalize str (f k) = key at *
          have HS := Lib.hid hsu
          have HPE := Lib.hid hPe
          have h81 : i * s ≤ 81 * 32 := Nat.mul_le_mul (by omega) hs2
          have q4 : (i : Int) < (N : Int) := by omega
          have q5 : (0 : Int) ≤ (i : Int) := by omega
          have q6 : (k : Int) < (s : Int) := by omega
          have q7 : (0 : Int) ≤ (k : Int) := by omega
          have q8 : IntKind.i64.wrap ((T : Int) + (d : Int)) = ((T + d : Nat) : Int) := by rw [Int.natCast_add]; exact IntWalk.i64_in _ (by omega)
          have q9 : ((key.size : Nat) : Int) = (d : Int) := by rw [hkl]
          clear hsu hk hmem hT hd hfl hcle h81 hkl
          subst hPe
          go_wp2
          go_roundw
          case rel => exact ⟨i + 1, by omega, by go_num, by rw [HS.out, Int.natCast_add], by first | rfl | trivial⟩
          case measure => simp [intOf]; omega
        · obtain rfl : i = N := by omega
          have q1' : ¬ (i : Int) < (i : Int) := by omega
          have hct := costN_all f ms
          rw [HM.out.2.1] at hct
          have hT6 : ((codesL ms f).map List.length).sum ≤ 1000000 := by
            have h1 : i * s ≤ 81 * 32 := Nat.mul_le_mul (by omega) hs2
            omega
          have z0 := H4.out.1.qz.z0
          have z1 := H4.out.1.qz.z1
          obtain ⟨T, hT⟩ : ∃ T, costN f ms i = T := ⟨_, rfl⟩
          rw [hT] at hct
          rw [hT]
          have HC := Lib.hid (And.intro hct hT6)
          clear hct hT6 hT hcle
          go_upto_region 21 with fail
          go_cut [88] from 82 to 87 (fun v88 wx => v88 = .bool (decide (0 ≤ q0 ∧ q0 < (s : Int))) ∧ wx = wr)
          case first =>
            by_cases hp0 : 0 ≤ q0
            · by_cases hp1 : q0 < (s : Int)
              · go_wp2
                go_meet
                exact ⟨by rw [decide_eq_true ⟨hp0, hp1⟩], rfl⟩
              · go_wp2
                go_meet
                exact ⟨by rw [decide_eq_false (by omega)], rfl⟩
            · go_wp2
              go_meet
              exact ⟨by rw [decide_eq_false (by omega)], rfl⟩
          case rest =>
            obtain ⟨rfl, rfl⟩ := hcut
            go_upto_if 88 with fail
            go_cut [17, 18, 88] from 89 to 97 (fun v17 v18 _ wx => v17 = .string (str (codI f s q0)) ∧ v18 = .int .i64 ((ms.take (lo i q1)).count q0 : Nat) ∧ wx = wc)
            case first =>
              by_cases hp : 0 ≤ q0 ∧ q0 < (s : Int)
              · obtain ⟨c, hc⟩ : ∃ c : Nat, q0 = (c : Int) := ⟨q0.toNat, by omega⟩
                have cc := H4.out.1.cd c (by omega)
                have ec : codI f s q0 = f c := by unfold codI; rw [if_pos hp, show q0.toNat = c by omega]
                have hk := wrank_any P i pc ms q0 q1 wc H4.out.1.nums HM.out.2.1 (by omega)
                rw [rk_eqs] at hk
                rw [decide_eq_true hp]
                have EC := Lib.hid ec
                have q3 : (c : Int) < (s : Int) := by omega
                have q4 : (0 : Int) ≤ (c : Int) := by omega
                subst hc
                have HK := Lib.hid hk
                clear hk ec
                go_wp2_with fail
                (with_reducible refine HK.out.mono ?_)
                rintro e u ⟨rfl, rfl⟩
                go_wp2
                go_meet
                exact ⟨by rw [EC.out], rfl, rfl⟩
              · have ec : codI f s q0 = [] := by unfold codI; rw [if_neg hp]
                have er : (ms.take (lo i q1)).count q0 = 0 := List.count_eq_zero.2 fun hm => hp (HM.out.2.2.1 _ (List.mem_of_mem_take hm))
                have EC := Lib.hid (And.intro ec er)
                clear ec er
                rw [decide_eq_false hp]
                go_wp2
                go_meet
                exact ⟨by rw [EC.out.1]; rfl, by rw [EC.out.2]; rfl, rfl⟩
            case rest =>
              obtain ⟨rfl, rfl, rfl⟩ := hcut
              go_upto_region 25 with fail
              go_cut [107] from 98 to 106 (fun v107 wx => v107 = .bool (decide (0 ≤ q1 ∧ q1 < (i : Int))) ∧ wx = wc)
              case first =>
                by_cases hp0 : 0 ≤ q1
                · by_cases hp1 : q1 < (i : Int)
                  · go_wp2
                    go_meet
                    exact ⟨by rw [decide_eq_true ⟨hp0, hp1⟩], rfl⟩
                  · go_wp2
                    go_meet
                    exact ⟨by rw [decide_eq_false (by omega)], rfl⟩
                · go_wp2
                  go_meet
                  exact ⟨by rw [decide_eq_false (by omega)], rfl⟩
              case rest =>
                obtain ⟨rfl, rfl⟩ := hcut
                obtain ⟨aq, haq⟩ : ∃ aq : Int, aq = if 0 ≤ q1 ∧ q1 < (i : Int) then ms.getD q1.toNat 0 else -1 := ⟨_, rfl⟩
                go_upto_if 107 with fail
                go_cut [19, 107] from 108 to 112 (fun v19 _ wx => v19 = .int .i64 aq ∧ wx = wc)
                case first =>
                  by_cases hp : 0 ≤ q1 ∧ q1 < (i : Int)
                  · obtain ⟨j, hj⟩ : ∃ j : Nat, q1 = (j : Int) := ⟨q1.toNat, by omega⟩
                    obtain ⟨bb, off, hPe, -, ck⟩ := num_at H4.out.1.nums (i := j) (by rw [HM.out.2.1]; omega)
                    have HPE := Lib.hid hPe
                    rw [if_pos hp, show q1.toNat = j by omega] at haq
                    rw [decide_eq_true hp]
                    have HAQ := Lib.hid haq
                    clear haq
                    have q3 : (j : Int) < (i : Int) := by omega
                    have q4 : (0 : Int) ≤ (j : Int) := by omega
                    subst hj
                    generalize ms.getD j 0 = y at *
                    clear hp
                    subst hPe
                    go_wp2
                    go_meet
                    exact ⟨by rw [HAQ.out], rfl⟩
                  · rw [if_neg hp] at haq
                    rw [decide_eq_false hp]
                    have HAQ := Lib.hid haq
                    clear haq
                    go_wp2
                    go_meet
                    exact ⟨by rw [HAQ.out], rfl⟩
                case rest =>
                  obtain ⟨rfl, rfl⟩ := hcut
                  have hT4 := H4.out.1
                  have hFr := H4.out.2
                  have l0 := hT4.sb.c0
                  have l1 := hT4.sb.c1
                  have l2 := hT4.sb.c2
                  have l3 := hT4.sb.c3
                  have hli := slist_any i hT4.sb.sx hFr (by omega) HM.out.2.1 (by omega)
                  have h8 := fun (u : World) (h : TZ w qb q0 q1 q2 q3 bx i C sb b s ms f ks Rf P C2 u) => (slen_any (i : Int) (.slice (some ⟨C, 0, none⟩) s s) (.map (some sb)) (.map (some b)) u).mono fun e u' hh => And.intro hh.1 (h.kept hh.2)
                  have h14 := fun (u : World) (h : TZ w qb q0 q1 q2 q3 bx i C sb b s ms f ks Rf P C2 u) => (ssize_any (i : Int) (some ⟨C, 0, none⟩) s s (.map (some sb)) (.map (some b)) u).mono fun e u' hh => And.intro hh.1 (h.kept hh.2)
                  have h15 := fun (u : World) (h : TZ w qb q0 q1 q2 q3 bx i C sb b s ms f ks Rf P C2 u) => (scost_any i C sb b s ms f ks Rf u h.sb.sx HC.out.2).mono fun e u' hh => And.intro hh.1 (h.kept hh.2)
                  rw [← HC.out.1] at h15
                  have h16 := fun (u : World) (h : TZ w qb q0 q1 q2 q3 bx i C sb b s ms f ks Rf P C2 u) => (scode_any i q0 h.sb.sx).mono fun e u' hh => And.intro hh.1 (h.kept hh.2)
                  have h17 : ∀ (u : World) (h : TZ w qb q0 q1 q2 q3 bx i C sb b s ms f ks Rf P C2 u), Calls Tryz.prog 17 #[.agg #[.int .i64 (i : Int), .slice (some ⟨C, 0, none⟩) s s, .map (some sb), .map (some b)], .int .i64 q1] u fun e u' => e = .returned (.int .i64 aq) ∧ TZ w qb q0 q1 q2 q3 bx i C sb b s ms f ks Rf P C2 u' := fun u h => by
                    by_cases hp : 0 ≤ q1 ∧ q1 < (i : Int)
                    · rw [if_pos hp] at haq
                      obtain ⟨j, hj⟩ : ∃ j : Nat, q1 = (j : Int) := ⟨q1.toNat, by omega⟩
                      rw [show q1.toNat = j by omega] at haq
                      rw [haq, hj]
                      have := sat_any j h.sb.sx hFr (by omega) HM.out.2.1 (by omega) (by omega)
                      exact this.mono fun e u' hh => ⟨hh.1, hj ▸ h.kept hh.2⟩
                    · rw [if_neg hp] at haq
                      rw [haq]
                      exact (sat_no q1 h.sb.sx (by omega)).mono fun e u' hh => ⟨hh.1, h.kept hh.2⟩
                  have h18 := fun (u : World) (h : TZ w qb q0 q1 q2 q3 bx i C sb b s ms f ks Rf P C2 u) => (srank_any q0 q1 h.sb.sx hFr (by omega) HM.out.2.1 (by omega)).mono fun e u' hh => And.intro hh.1 (h.kept hh.2)
                  have h19 := fun (u : World) (h : TZ w qb q0 q1 q2 q3 bx i C sb b s ms f ks Rf P C2 u) => (ssel_any q0 q1 h.sb.sx hFr (by omega) HM.out.2.1 (by omega)).mono fun e u' hh => And.intro (sel_eqs ms q0 q1 i HM.out.2.1 e hh.1) (h.kept hh.2)
                  have h20 := fun (u : World) (h : TZ w qb q0 q1 q2 q3 bx i C sb b s ms f ks Rf P C2 u) => (wselect_any P i pc ms q0 q1 u h.nums HM.out.2.1 (by omega) HSY.out.2.2.2).mono fun e u' hh => And.intro hh.1 (show TZ w qb q0 q1 q2 q3 bx i C sb b s ms f ks Rf P C2 u' from hh.2 ▸ h)
                  have HLI := Lib.hid (And.intro hli hT4)
                  clear hli hT4 z0 z1 haq
                  generalize (ms.take (lo i q1)).count q0 = r at *
                  generalize str (codI f s q0) = key at *
                  generalize selN true (eqs ms q0) q1 = zz at *
                  have K8 := Lib.hid h8
                  have K14 := Lib.hid h14
                  have K15 := Lib.hid h15
                  have K16 := Lib.hid h16
                  have K17 := Lib.hid h17
                  have K18 := Lib.hid h18
                  have K19 := Lib.hid h19
                  have K20 := Lib.hid h20
                  clear h8 h14 h15 h16 h17 h18 h19 h20 hFr
                  go_wp2_with fail
                  (with_reducible refine HLI.out.1.mono ?_)
                  rintro e u5 ⟨v, rfl, hO⟩
                  obtain ⟨la, lc, rfl, hln, -, -, -, -⟩ := nums_of_own hO.1
                  have hT5 := HLI.out.2.kept hO.2
                  have hsa := rsame_any la P i i lc pc ms ms u5 hln hT5.nums HM.out.2.1 HM.out.2.1 (by omega)
                  rw [decide_eq_true rfl] at hsa
                  have H5 := Lib.hid (And.intro hsa hT5)
                  rw [HM.out.2.1]
                  clear hsa hT5 hln hO l0 l1 l2 l3
                  go_wp2_with fail
                  (with_reducible refine H5.out.1.mono ?_)
                  rintro e u6 ⟨rfl, hb6⟩
                  have hT6 := H5.out.2.kept hb6
                  have l0 := hT6.sb.c0
                  have l1 := hT6.sb.c1
                  have l2 := hT6.sb.c2
                  have l3 := hT6.sb.c3
                  have z1 := hT6.qz.z1
                  have hA := Lib.hid hT6
                  have hund : undef = Value.tuple #[] := rfl
                  have e1 : ((i : Int) == (i : Int)) = true := by simp
                  have e2 : ((s : Int) == (s : Int)) = true := by simp
                  have e3 : ((T : Int) == (T : Int)) = true := by simp
                  have e4 : (key.toList == key.toList) = true := by simp
                  have e5 : (aq == aq) = true := by simp
                  have e6 : ((r : Int) == (r : Int)) = true := by simp
                  have e7 : (zz == zz) = true := by simp
                  clear hT6 hb6 HLI H5 q1'
                  go_wp2
                  go_region_held3 (fun w' => w'.cell? ⟨bx, 0, none⟩ = some (.int .i64 (i : Int)) ∧ w'.cell? ⟨bx, 1, none⟩ = some (.slice (some ⟨C, 0, none⟩) s s) ∧ w'.cell? ⟨bx, 2, none⟩ = some (.map (some sb)) ∧ w'.cell? ⟨bx, 3, none⟩ = some (.map (some b)) ∧ w'.cell? ⟨qb, 1, none⟩ = some (.int .i64 q1))
                    (first
                      | (with_reducible exact ⟨hA.out.sb.c0, hA.out.sb.c1, hA.out.sb.c2, hA.out.sb.c3, hA.out.qz.z1⟩)
                      | go_keep)
                    (first
                      | (go_at_call 8; (with_reducible refine (K8.out _ hA.out).mono ?_); rintro e u ⟨rfl, hA'⟩; have hA := Lib.hid hA'; clear hA')
                      | (go_at_call 8; (with_reducible refine (K8.out _ hA.out.drew).mono ?_); rintro e u ⟨rfl, hA'⟩; have hA := Lib.hid hA'; clear hA')
                      | (go_at_call 14; (with_reducible refine (K14.out _ hA.out).mono ?_); rintro e u ⟨rfl, hA'⟩; have hA := Lib.hid hA'; clear hA')
                      | (go_at_call 14; (with_reducible refine (K14.out _ hA.out.drew).mono ?_); rintro e u ⟨rfl, hA'⟩; have hA := Lib.hid hA'; clear hA')
                      | (go_at_call 15; (with_reducible refine (K15.out _ hA.out).mono ?_); rintro e u ⟨rfl, hA'⟩; have hA := Lib.hid hA'; clear hA')
                      | (go_at_call 15; (with_reducible refine (K15.out _ hA.out.drew).mono ?_); rintro e u ⟨rfl, hA'⟩; have hA := Lib.hid hA'; clear hA')
                      | (go_at_call 16; (with_reducible refine (K16.out _ hA.out).mono ?_); rintro e u ⟨rfl, hA'⟩; have hA := Lib.hid hA'; clear hA')
                      | (go_at_call 16; (with_reducible refine (K16.out _ hA.out.drew).mono ?_); rintro e u ⟨rfl, hA'⟩; have hA := Lib.hid hA'; clear hA')
                      | (go_at_call 17; (with_reducible refine (K17.out _ hA.out).mono ?_); rintro e u ⟨rfl, hA'⟩; have hA := Lib.hid hA'; clear hA')
                      | (go_at_call 17; (with_reducible refine (K17.out _ hA.out.drew).mono ?_); rintro e u ⟨rfl, hA'⟩; have hA := Lib.hid hA'; clear hA')
                      | (go_at_call 18; (with_reducible refine (K18.out _ hA.out).mono ?_); rintro e u ⟨rfl, hA'⟩; have hA := Lib.hid hA'; clear hA')
                      | (go_at_call 18; (with_reducible refine (K18.out _ hA.out.drew).mono ?_); rintro e u ⟨rfl, hA'⟩; have hA := Lib.hid hA'; clear hA')
                      | (go_at_call 19; (with_reducible refine (K19.out _ hA.out).mono ?_); rintro e u ⟨rfl, hA'⟩; have hA := Lib.hid hA'; clear hA')
                      | (go_at_call 19; (with_reducible refine (K19.out _ hA.out.drew).mono ?_); rintro e u ⟨rfl, hA'⟩; have hA := Lib.hid hA'; clear hA')
                      | (go_at_call 20; (with_reducible refine (K20.out _ hA.out).mono ?_); rintro e u ⟨rfl, hA'⟩; have hA := Lib.hid hA'; clear hA')
                      | (go_at_call 20; (with_reducible refine (K20.out _ hA.out.drew).mono ?_); rintro e u ⟨rfl, hA'⟩; have hA := Lib.hid hA'; clear hA'))
                  all_goals
                    have HB := Lib.hid hA.out.sb.bel
                    clear hA
                    go_wp2
                    go_ret
                    exact ⟨rfl, HB.out⟩
    · rw [decide_eq_false hgood] at hmy
      have hnew := new_no P N pc s ms wc hP hN (by omega) hgood hs1 (by omega)
      have HM := Lib.hid (And.intro hnew (And.intro hbw (And.intro hmy hP)))
      clear hP hN hgood hbw hz hmy hnew hmay H2
      go_wp2_with fail
      (with_reducible refine HM.out.1.mono ?_)
      rintro e u1 ⟨rfl, hb1⟩
      have hP1 := HM.out.2.2.2.kept hb1
      have hbw1 := HM.out.2.1.trans (hb1.mono HM.out.2.1.size)
      have hal := alB u1 (.cells #[.int .i64 0, .slice none 0 0, .map none, .map none] 31)
      have hmy := HM.out.2.2.1 _ (hP1.kept hal)
      have g0 : (u1.alloc (.cells #[.int .i64 0, .slice none 0 0, .map none, .map none] 31)).cell? ⟨u1.heap.size, 0, none⟩ = some (.int .i64 0) := by rw [cell_new _ _ _ _ _ rfl]; rfl
      have g1 : (u1.alloc (.cells #[.int .i64 0, .slice none 0 0, .map none, .map none] 31)).cell? ⟨u1.heap.size, 1, none⟩ = some (.slice none 0 0) := by rw [cell_new _ _ _ _ _ rfl]; rfl
      have g2 : (u1.alloc (.cells #[.int .i64 0, .slice none 0 0, .map none, .map none] 31)).cell? ⟨u1.heap.size, 2, none⟩ = some (.map none) := by rw [cell_new _ _ _ _ _ rfl]; rfl
      have g3 : (u1.alloc (.cells #[.int .i64 0, .slice none 0 0, .map none, .map none] 31)).cell? ⟨u1.heap.size, 3, none⟩ = some (.map none) := by rw [cell_new _ _ _ _ _ rfl]; rfl
      have hbw2 := hbw1.trans (hal.mono hbw1.size)
      have HH := Lib.hid (And.intro hmy hbw2)
      clear hP1 hbw1 hal hmy hbw2 hb1
      unfold shNil
      obtain ⟨u2, hu2⟩ : ∃ u2, u2 = u1.alloc (.cells #[.int .i64 0, .slice none 0 0, .map none, .map none] 31) := ⟨_, rfl⟩
      obtain ⟨bx, hbx⟩ : ∃ bx, bx = u1.heap.size := ⟨_, rfl⟩
      rw [← hu2, ← hbx] at g0 g1 g2 g3
      rw [← hu2] at HH
      go_upto_region 8 with fail
      rw [← hu2, ← hbx]
      clear hu2 hbx
      go_wp2_with fail
      (with_reducible refine HH.out.1.mono ?_)
      rintro e u3 ⟨rfl, rfl⟩
      have hln := slen_any 0 (.slice none 0 0) (.map none) (.map none) u2
      have HLN := Lib.hid hln
      clear hln
      go_wp2_with fail
      (with_reducible refine HLN.out.mono ?_)
      rintro e u4 ⟨rfl, hb4⟩
      have HF := Lib.hid (HH.out.2.trans (hb4.mono HH.out.2.size))
      clear hb4
      go_wp2
      go_ret
      exact ⟨rfl, HF.out⟩

end Go.Proofs.YtdidoecigkbffaaGreat
end

section
/- The law ShapedTells. -/
namespace Go.Proofs.YtdidoecigkbffaaGreat
open Go.ChangeShapes Go.WideShapes Go.ChangeAt Go.RowKit

theorem cells23 : Tryz.prog.cellsOf 23 = 4 := by kernel_rfl
theorem arr_four {cs : Array Value} (h : cs.size = 4) : ∃ a b c d, cs = #[a, b, c, d] := by
  obtain ⟨l⟩ := cs
  match l, h with
  | [a, b, c, d], _ => exact ⟨a, b, c, d, rfl⟩
theorem quad_in {H : Type} {enc : TypeId × Value → H} {P : Program} {w : World} {base : Nat} {spare : Nat → Bool} {held : Bool} {t e : TypeId} {fuel : Nat} {c0 c1 c2 c3 : Value} {x : DataW H × List MemPlace}
    (ht : P.underlying t = some (.array 4 e)) (hce : P.cellsOf e = 1) (h : DataW.trod enc P w base spare held fuel t [c0, c1, c2, c3] = some x) :
    ∃ y0 y1 y2 y3 n, DataW.trod enc P w base spare held n e [c0] = some y0 ∧ DataW.trod enc P w base spare held n e [c1] = some y1 ∧ DataW.trod enc P w base spare held n e [c2] = some y2 ∧ DataW.trod enc P w base spare held n e [c3] = some y3 := by
  cases fuel with
  | zero => simp [DataW.trod] at h
  | succ n =>
    unfold DataW.trod at h
    rw [ht] at h
    simp [show List.range 4 = [0, 1, 2, 3] from rfl, hce] at h
    obtain ⟨_, h⟩ := h
    cases h0 : DataW.trod enc P w base spare held n e [c0] with
    | none => simp [h0] at h
    | some y0 =>
      cases h1 : DataW.trod enc P w base spare held n e [c1] with
      | none => simp [h0, h1] at h
      | some y1 =>
        cases h2 : DataW.trod enc P w base spare held n e [c2] with
        | none => simp [h0, h1, h2] at h
        | some y2 =>
          cases h3 : DataW.trod enc P w base spare held n e [c3] with
          | none => simp [h0, h1, h2, h3] at h
          | some y3 => exact ⟨y0, y1, y2, y3, n, h0, h1, h2, h3⟩

set_option maxRecDepth 100000 in
theorem shapedTells_lifted (os : Os) (started : os.Started) (H : Type) (enc : TypeId × Value → H) :
    ReturnsInHanded {} Tryz.checked os 3 .any (Rows.shapedTellsSpec.pre6 enc Tryz.prog Tryz.f3 Rows.shapedTellsRow.domain false) (Rows.shapedTellsSpec.post enc Tryz.prog Tryz.f3 false true false false) := by
  refine returnsInHanded_of_change (C := Tryz.checked) own started (by kernel_rfl) Tryz.func3
    (ChangeSpec.witness6 (enc := enc) (C := Tryz.checked) false ⟨#[], #[.slice none 0 0, .agg #[.int .i64 0, .int .i64 0, .int .i64 0, .int .i64 0], .bool false], []⟩ 8 (by kernel_rfl) (by kernel_rfl) (by kernel_rfl) (by kernel_rfl)) ?_
  intro W base args ds gs before hval0 hW hcnd _
  have hval : ∀ (j : Nat) t v, Tryz.f3.params[j]? = some t → args[j]? = some v → Value.okWide Tryz.prog W .any base t v := hval0
  have hW' := hW
  obtain ⟨p, q, hA0, hV, rfl, hfz, hnd⟩ := hW
  have hA : DataW.TrodAll enc Tryz.prog W 0 (fun _ => true) true Tryz.f3.params.toList args.toList ds p := hA0
  rw [Tryz.params3] at hA hval
  obtain ⟨v0, vs0, d0, ds0, p0, q0, hargs, rfl, rfl, h0, r0⟩ := trodAll_cons hA
  obtain ⟨v1, vs1, d1, ds1, p1, q1, rfl, rfl, rfl, h1, r1⟩ := trodAll_cons r0
  obtain ⟨v2, vs2, d2, ds2, p2, q2, rfl, rfl, rfl, h2, r2⟩ := trodAll_cons r1
  obtain ⟨rfl, rfl, rfl⟩ := trodAll_nil r2
  obtain rfl : args = #[v0, v1, v2] := by cases args; simp_all
  obtain ⟨rfl, rfl⟩ := trodVars_none hV
  obtain ⟨a0, len0, cap0, rfl⟩ := okWide_slice Tryz.underlying22 (hval 0 22 v0 rfl rfl)
  have k0 := h0
  have lt0 : ∀ x ∈ p0, x.block < W.heap.size := by obtain ⟨m, hm⟩ := k0; exact DataW.trod_lt m _ _ _ hm
  obtain ⟨l0, e0, f0, g0, b0, x0⟩ := nums_in2 Tryz.underlying22 Tryz.underlying3 cells3 h0
  obtain ⟨cs1, rfl, hsz1, _⟩ : ∃ cs, v1 = .agg cs ∧ cs.size = Tryz.prog.cellsOf 23 ∧ Row.okWide Tryz.prog W .any base 23 cs := by
    have := hval 1 23 v1 rfl rfl
    simpa [Value.okWide, Tryz.underlying23] using this
  rw [cells23] at hsz1
  obtain ⟨c01, c11, c21, c31, rfl⟩ := arr_four hsz1
  have k1 := h1
  have lt1 : ∀ x ∈ p1, x.block < W.heap.size := by obtain ⟨m, hm⟩ := k1; exact DataW.trod_lt m _ _ _ hm
  obtain ⟨fuel1, hf1⟩ := h1
  obtain ⟨y01, y11, y21, y31, m1, hy01, hy11, hy21, hy31⟩ := quad_in Tryz.underlying23 cells3 hf1
  obtain ⟨xa1, z01, rfl, ua1⟩ := DataW.trod_int Tryz.underlying3 hy01
  obtain ⟨xb1, z11, rfl, ub1⟩ := DataW.trod_int Tryz.underlying3 hy11
  obtain ⟨xc1, z21, rfl, uc1⟩ := DataW.trod_int Tryz.underlying3 hy21
  obtain ⟨xd1, z31, rfl, ud1⟩ := DataW.trod_int Tryz.underlying3 hy31
  simp at z01 z11 z21 z31
  subst z01 z11 z21 z31
  obtain ⟨a2, rfl, rfl, rfl⟩ := open_bool Tryz.underlying4 (hval 2 4 v2 rfl rfl) h2
  clear hA0 hval0
  refine (tells_walk a0 len0 cap0 l0 xa1 xb1 xc1 xd1 a2 W b0 e0 (by have := bounds_i64 ub1; omega)).mono fun e W' ⟨he, bel⟩ => ?_
  subst he
  exact ⟨_, rfl, _, _, _, [], _, [], hW', trodAll_mk1 (shut_bool Tryz.underlying4 _), (trodAll_cons_mk (Below.trod laidOut (by kernel_rfl) (of_decide_eq_true (by kernel_rfl)) k0 bel lt0) (trodAll_cons_mk (Below.trod laidOut (by kernel_rfl) (of_decide_eq_true (by kernel_rfl)) k1 bel lt1) (trodAll_cons_mk (shut_bool Tryz.underlying4 a2) trodAll_mk0))), rfl, bel.frame _, fun h => by cases h⟩

theorem shapedTells_holds : Rows.ShapedTellsSaid :=
  OpenClaim.holds_of_wide 3 Tryz.f3 rfl rfl rfl rfl rfl rfl rfl ⟨rfl, rfl, rfl, rfl, rfl⟩ rfl rfl rfl rfl rfl (by kernel_rfl) Tryz.func3 (by kernel_rfl)
    (of_decide_eq_true (by kernel_rfl)) (by unfold Func.isWrapper; first | (rw [if_pos (by decide +kernel)]; kernel_rfl) | (rw [if_neg (by decide +kernel)]; exact ⟨rfl, rfl⟩))
    (fun os started H enc _ => shapedTells_lifted os started H enc)

#print axioms shapedTells_holds
end Go.Proofs.YtdidoecigkbffaaGreat
end
