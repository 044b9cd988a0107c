/- What is kept when a box of another type is written; the parts that belong to a row. -/
import Derived.Test.YtpnjccomngdblaaGreatZK
set_option maxRecDepth 100000
namespace Go.Proofs.YtpnjccomngdblaaGreat
open Go.RowKit
open M

variable {w u u' : World} {F : FQ} {l : List Int} {size : Nat} {X : Nat → Prop}

theorem setCells_kp (b : Nat) : ∀ (cs : List Value) (o : Nat) (w : World), Kp (fun k => k = b) w (w.setCells b o cs)
  | [], _, w => Kp.refl _ w
  | v :: r, o, w => (Kp.setCell (X := fun k => k = b) (p := ⟨b, o, none⟩) (Kp.refl _ w) (.inl rfl) v).trans (setCells_kp b r (o + 1) _)
/-- Blocks of other cells than words. -/
def NoW (u : World) (b : Nat) : Prop := ∃ t, t ≠ 103 ∧ Typ u b t
theorem NoW.kp {b : Nat} (h : NoW u b) (hk : Kp X u u') (hb : ¬ X b) : NoW u' b := by
  obtain ⟨t, h1, h2⟩ := h
  exact ⟨t, h1, h2.kp hk hb⟩
theorem NoW.kept {b : Nat} (h : NoW u b) (hb : Below u.heap.size u u') : NoW u' b := by
  obtain ⟨t, h1, h2⟩ := h
  exact ⟨t, h1, h2.kept hb⟩
theorem Typ.sets {b t : Nat} : ∀ (cs : List Value) (o : Nat) {u : World} (b' : Nat), Typ u b t → Typ (u.setCells b' o cs) b t
  | [], _, _, _, h => h
  | v :: r, o, _, b', h => Typ.sets r (o + 1) b' (h.set ⟨b', o, none⟩ v)
theorem row_typs {s : Value} {l : List Bool} (h : RowAt u s l) (hx : ∀ b, X b → NoW u b) : ∀ k, s.ownBlock = some k → ¬ X k := fun k e hk => by
  obtain ⟨t, h1, h2⟩ := hx k hk
  exact own_typ h h2 (Ne.symm h1) e
theorem RK.typs {R : RP} {l : List Bool} (h : RK u R l) (hk : Kp X u u') (hx : ∀ b, X b → NoW u b) : RK u' R l :=
  h.kp hk (row_typs h.row hx) (fun _ hi => row_typs hi.row hx)
theorem IRow.typs {n W L m c : Nat} {a : Option Addr} {xs : List Int} (h : IRow u n W L a m c xs) (hk : Kp X u u') (hx : ∀ b, X b → NoW u b) : IRow u' n W L a m c xs := h.kp hk (row_typs h.row hx)
theorem RCx.kp {b o : Nat} {R : RP} (h : RCx u b o R) (hk : Kp X u u') (hx : ¬ X b) : RCx u' b o R :=
  ⟨by rw [hk.cell (p := ⟨b, o, none⟩) h.lt hx]; exact h.c0, by rw [hk.cell (p := ⟨b, o + 1, none⟩) h.lt hx]; exact h.c1, by rw [hk.cell (p := ⟨b, o + 2, none⟩) h.lt hx]; exact h.c2,
   by rw [hk.cell (p := ⟨b, o + 3, none⟩) h.lt hx]; exact h.c3, by rw [hk.cell (p := ⟨b, o + 4, none⟩) h.lt hx]; exact h.c4, by rw [hk.cell (p := ⟨b, o + 5, none⟩) h.lt hx]; exact h.c5⟩
theorem WX.typs {W : Nat} {a : Option Addr} (h : WX u l W a) (hk : Kp X u u') (hx : ∀ b, X b → NoW u b) (ha : 0 < W → ∀ p, a = some p → ¬ X p.block) : WX u' l W a :=
  { h with rs := ⟨h.rs.len, fun j hj => by
      obtain ⟨g, R, e, h1, h2, h3⟩ := h.rs.at_ j hj
      exact ⟨g, R, e, h1.kp hk (ha (by omega) _ e), h2.typs hk hx, h3⟩⟩ }
theorem WX.old {W : Nat} {a : Option Addr} (h : WX u l W a) : 0 < W → ∀ p, a = some p → p.block < u.heap.size := fun hW p e => by
  obtain ⟨g, R, e2, h1, -, -⟩ := h.rs.at_ 0 hW
  rw [e] at e2
  simp only [Option.some.injEq] at e2
  rw [e2]
  exact h1.lt
theorem FMI.typs (h : FMI u F l size) (hk : Kp X u u') (hx : ∀ b, X b → NoW u b) (ha : 0 < F.wW → ∀ p, F.wa = some p → ¬ X p.block) : FMI u' F l size :=
  { h with wx := h.wx.typs hk hx ha, rk := h.rk.typs hk hx, smp := h.smp.typs hk hx, plc := h.plc.typs hk hx }

/-- The parts but for the wave. -/
structure MP (u : World) (F : FQ) (l : List Int) : Prop where
  rk : RK u F.R (mkL l)
  smp : IRow u F.S.n F.S.W F.S.L F.S.a F.S.m F.S.c (smL l)
  plc : IRow u F.P.n F.P.W F.P.L F.P.a F.P.m F.P.c (pcL l)
  sW : F.S.W = wid (mostI (smL l)).toNat
theorem MP.typs (h : MP u F l) (hk : Kp X u u') (hx : ∀ b, X b → NoW u b) : MP u' F l := ⟨h.rk.typs hk hx, h.smp.typs hk hx, h.plc.typs hk hx, h.sW⟩
theorem MP.kept (h : MP u F l) (hb : Below u.heap.size u u') : MP u' F l := ⟨h.rk.kept hb, h.smp.kept hb, h.plc.kept hb, h.sW⟩

/-! ## Parts of a box -/
theorem there_new (w : World) : (w.alloc (.cells #[.int .i64 0, .int .i64 0, .slice none 0 0, .int .i64 0, .slice none 0 0, .int .i64 0, .int .i64 0, .int .i64 0, .slice none 0 0, .int .i64 0, .int .i64 0, .int .i64 0, .slice none 0 0, .int .i64 0, .int .i64 0, .int .i64 0, .slice none 0 0] 37)).there w.heap.size 0 17 := fun j hj => by
  rw [Nat.zero_add, cell_new _ _ _ _ _ rfl, frozen_new _ _ _ _ _ rfl]
  refine ⟨?_, rfl⟩
  match j, hj with
  | 0, _ => rfl
  | 1, _ => rfl
  | 2, _ => rfl
  | 3, _ => rfl
  | 4, _ => rfl
  | 5, _ => rfl
  | 6, _ => rfl
  | 7, _ => rfl
  | 8, _ => rfl
  | 9, _ => rfl
  | 10, _ => rfl
  | 11, _ => rfl
  | 12, _ => rfl
  | 13, _ => rfl
  | 14, _ => rfl
  | 15, _ => rfl
  | 16, _ => rfl
  | j + 17, hj => exact absurd hj (by omega)
theorem there_alloc (w : World) (cs : Array Value) (t : TypeId) (n : Nat) (h : cs.size = n) : (w.alloc (.cells cs t)).there w.heap.size 0 n := fun j hj => by
  rw [Nat.zero_add, cell_new _ _ _ _ _ rfl, frozen_new _ _ _ _ _ rfl]
  exact ⟨by simp; omega, rfl⟩
theorem there_part {b o n m : Nat} (h : u.there b 0 n) (hm : o + m ≤ n) : u.there b o m := fun j hj => by
  have := h (o + j) (by omega)
  rwa [Nat.zero_add] at this
theorem MBx.partS {b : Nat} (h : MBx u b F) (I : IP) (ht : u.there b 9 4) : MBx (u.setCells b 9 [.int .i64 (I.n : Int), .int .i64 (I.W : Int), .int .i64 (I.L : Int), .slice I.a I.m I.c]) b { F with S := I } := by
  have ho : ∀ o, o < 9 ∨ 13 ≤ o → (u.setCells b 9 [.int .i64 (I.n : Int), .int .i64 (I.W : Int), .int .i64 (I.L : Int), .slice I.a I.m I.c]).cell? ⟨b, o, none⟩ = u.cell? ⟨b, o, none⟩ := fun o h => World.cell?_setCells_out b _ 9 u ⟨b, o, none⟩ (fun _ _ => by show o < 9 ∨ 9 + 4 ≤ o; omega)
  have hi := World.rangeAt_setCells_same u b 9 [.int .i64 (I.n : Int), .int .i64 (I.W : Int), .int .i64 (I.L : Int), .slice I.a I.m I.c] ht
  exact ⟨by rw [ho _ (by omega)]; exact h.c0, by rw [ho _ (by omega)]; exact h.c1, by rw [ho _ (by omega)]; exact h.c2, by rw [ho _ (by omega)]; exact h.c3, by rw [ho _ (by omega)]; exact h.c4, by rw [ho _ (by omega)]; exact h.c5, by rw [ho _ (by omega)]; exact h.c6, by rw [ho _ (by omega)]; exact h.c7, by rw [ho _ (by omega)]; exact h.c8,
    hi 0 _ rfl, hi 1 _ rfl, hi 2 _ rfl, hi 3 _ rfl, by rw [ho _ (by omega)]; exact h.c13, by rw [ho _ (by omega)]; exact h.c14, by rw [ho _ (by omega)]; exact h.c15, by rw [ho _ (by omega)]; exact h.c16⟩
theorem MBx.partP {b : Nat} (h : MBx u b F) (I : IP) (ht : u.there b 13 4) : MBx (u.setCells b 13 [.int .i64 (I.n : Int), .int .i64 (I.W : Int), .int .i64 (I.L : Int), .slice I.a I.m I.c]) b { F with P := I } := by
  have ho : ∀ o, o < 13 → (u.setCells b 13 [.int .i64 (I.n : Int), .int .i64 (I.W : Int), .int .i64 (I.L : Int), .slice I.a I.m I.c]).cell? ⟨b, o, none⟩ = u.cell? ⟨b, o, none⟩ := fun o h => World.cell?_setCells_out b _ 13 u ⟨b, o, none⟩ (fun _ _ => by show o < 13 ∨ 13 + 4 ≤ o; omega)
  have hi := World.rangeAt_setCells_same u b 13 [.int .i64 (I.n : Int), .int .i64 (I.W : Int), .int .i64 (I.L : Int), .slice I.a I.m I.c] ht
  exact ⟨by rw [ho _ (by omega)]; exact h.c0, by rw [ho _ (by omega)]; exact h.c1, by rw [ho _ (by omega)]; exact h.c2, by rw [ho _ (by omega)]; exact h.c3, by rw [ho _ (by omega)]; exact h.c4, by rw [ho _ (by omega)]; exact h.c5, by rw [ho _ (by omega)]; exact h.c6, by rw [ho _ (by omega)]; exact h.c7, by rw [ho _ (by omega)]; exact h.c8,
    by rw [ho _ (by omega)]; exact h.c9, by rw [ho _ (by omega)]; exact h.c10, by rw [ho _ (by omega)]; exact h.c11, by rw [ho _ (by omega)]; exact h.c12, hi 0 _ rfl, hi 1 _ rfl, hi 2 _ rfl, hi 3 _ rfl⟩
theorem MBx.partW {b : Nat} (h : MBx u b F) (N : Nat) (Z : Int) (a : Option Addr) (W c : Nat) (ht : u.there b 0 3) : MBx (u.setCells b 0 [.int .i64 (N : Int), .int .i64 Z, .slice a W c]) b { F with N := N, Z := Z, wa := a, wW := W, wc := c } := by
  have ho : ∀ o, 3 ≤ o → (u.setCells b 0 [.int .i64 (N : Int), .int .i64 Z, .slice a W c]).cell? ⟨b, o, none⟩ = u.cell? ⟨b, o, none⟩ := fun o h => World.cell?_setCells_out b _ 0 u ⟨b, o, none⟩ (fun _ _ => by show o < 0 ∨ 0 + 3 ≤ o; omega)
  have hi := World.rangeAt_setCells_same u b 0 [.int .i64 (N : Int), .int .i64 Z, .slice a W c] ht
  exact ⟨hi 0 _ rfl, hi 1 _ rfl, hi 2 _ rfl, by rw [ho _ (by omega)]; exact h.c3, by rw [ho _ (by omega)]; exact h.c4, by rw [ho _ (by omega)]; exact h.c5, by rw [ho _ (by omega)]; exact h.c6, by rw [ho _ (by omega)]; exact h.c7, by rw [ho _ (by omega)]; exact h.c8,
    by rw [ho _ (by omega)]; exact h.c9, by rw [ho _ (by omega)]; exact h.c10, by rw [ho _ (by omega)]; exact h.c11, by rw [ho _ (by omega)]; exact h.c12, by rw [ho _ (by omega)]; exact h.c13, by rw [ho _ (by omega)]; exact h.c14, by rw [ho _ (by omega)]; exact h.c15, by rw [ho _ (by omega)]; exact h.c16⟩
theorem store32 {ops : Array Oper} {rest : List Oper} {op : Oper} {a : Act} {Q : Exit → Act → World → Prop} (I : IP) (b o : Nat) (x y : Operand) (ho : op.op = .store 33 x y) (hw : Region.wanted op (yielded ops a.tmps) = true)
    (hx : a.eval x = .pointer (some ⟨b, o, none⟩)) (hy : a.eval y = .agg #[.int .i64 (I.n : Int), .int .i64 (I.W : Int), .int .i64 (I.L : Int), .slice I.a I.m I.c]) (ht : w.there b o 4)
    (k : wpList Tryz.prog ops Q rest (a.put op.dst undef) (w.setCells b o [.int .i64 (I.n : Int), .int .i64 (I.W : Int), .int .i64 (I.L : Int), .slice I.a I.m I.c])) : wpList Tryz.prog ops Q (op :: rest) a w :=
  wpList_step fun K hK => by
    rw [if_pos hw]
    exact wp_store_mid 33 x y ho b o #[.int .i64 (I.n : Int), .int .i64 (I.W : Int), .int .i64 (I.L : Int), .slice I.a I.m I.c] hx hy ht (by kernel_rfl) (by kernel_rfl) (hK _ _ k)
theorem store27 {ops : Array Oper} {rest : List Oper} {op : Oper} {a : Act} {Q : Exit → Act → World → Prop} (N : Nat) (Z : Int) (A : Option Addr) (W c : Nat) (b : Nat) (x y : Operand) (ho : op.op = .store 28 x y) (hw : Region.wanted op (yielded ops a.tmps) = true)
    (hx : a.eval x = .pointer (some ⟨b, 0, none⟩)) (hy : a.eval y = .agg #[.int .i64 (N : Int), .int .i64 Z, .slice A W c]) (ht : w.there b 0 3)
    (k : wpList Tryz.prog ops Q rest (a.put op.dst undef) (w.setCells b 0 [.int .i64 (N : Int), .int .i64 Z, .slice A W c])) : wpList Tryz.prog ops Q (op :: rest) a w :=
  wpList_step fun K hK => by
    rw [if_pos hw]
    exact wp_store_mid 28 x y ho b 0 #[.int .i64 (N : Int), .int .i64 Z, .slice A W c] hx hy ht (by kernel_rfl) (by kernel_rfl) (hK _ _ k)

end Go.Proofs.YtpnjccomngdblaaGreat
