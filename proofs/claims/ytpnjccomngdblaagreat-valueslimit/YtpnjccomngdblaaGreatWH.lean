/- A part of a row, and how it goes on: the contracts of forkAt, next, follow, climb. -/
import Derived.Test.YtpnjccomngdblaaGreatWG
import Derived.BigQuiet
set_option maxRecDepth 100000
namespace Go.Proofs.YtpnjccomngdblaaGreat
open Go.RowKit
open M
attribute [local go_sem ↓] Go.wp_at_zero Go.wp_at_succ

/-- What a fork is made of. -/
structure FP where
  R : RP
  b : Nat
  m : Nat
  e : Nat
  z : Nat
  o : Nat

/-- It is the fork of the part from b to e of the row. -/
structure FK (w : World) (F : FP) (row : List Bool) : Prop where
  rk : RK w F.R row
  be : F.b ≤ F.e
  el : F.e ≤ row.length
  z : F.z = rkN false row F.b
  o : F.o = rkN true row F.b
  m : F.m + F.z = F.b + rkN false row F.e
theorem FK.kept {w w' : World} {F : FP} {row : List Bool} (h : FK w F row) (hb : Below w.heap.size w w') : FK w' F row := { h with rk := h.rk.kept hb }
theorem FK.zo {w : World} {F : FP} {row : List Bool} (h : FK w F row) : F.o + F.z = F.b := by
  rw [h.z, h.o]; exact rkN_both row F.b (by have := h.be; have := h.el; omega)
theorem FK.bm {w : World} {F : FP} {row : List Bool} (h : FK w F row) : F.b ≤ F.m := by
  have h1 := h.m
  have h2 := rkN_mono false row F.b F.e h.be
  rw [← h.z] at h2; omega
theorem FK.me {w : World} {F : FP} {row : List Bool} (h : FK w F row) : F.m ≤ F.e := by
  have h1 := h.m
  have h2 := rkN_mono true row F.b F.e h.be
  have h3 := rkN_both row F.e h.el
  have h4 := h.zo
  rw [← h.o] at h2; omega
theorem FK.small {w : World} {F : FP} {row : List Bool} (h : FK w F row) : F.e ≤ 1000000000 := by
  have h1 := h.el
  have h2 := h.rk.len
  have h3 := h.rk.small
  omega

/-- The cells of a boxed fork. -/
structure FBx (w : World) (b : Nat) (F : FP) : Prop where
  c0 : w.cell? ⟨b, 0, none⟩ = some (.int .i64 (F.R.n : Int))
  c1 : w.cell? ⟨b, 1, none⟩ = some (.slice F.R.a F.R.m F.R.c)
  c2 : w.cell? ⟨b, 2, none⟩ = some (.int .i64 (F.R.cn : Int))
  c3 : w.cell? ⟨b, 3, none⟩ = some (.int .i64 (F.R.cW : Int))
  c4 : w.cell? ⟨b, 4, none⟩ = some (.int .i64 (F.R.cL : Int))
  c5 : w.cell? ⟨b, 5, none⟩ = some (.slice F.R.a2 F.R.m2 F.R.c2)
  c6 : w.cell? ⟨b, 6, none⟩ = some (.int .i64 (F.b : Int))
  c7 : w.cell? ⟨b, 7, none⟩ = some (.int .i64 (F.m : Int))
  c8 : w.cell? ⟨b, 8, none⟩ = some (.int .i64 (F.e : Int))
  c9 : w.cell? ⟨b, 9, none⟩ = some (.int .i64 (F.z : Int))
  c10 : w.cell? ⟨b, 10, none⟩ = some (.int .i64 (F.o : Int))
theorem FBx.lt {w : World} {b : Nat} {F : FP} (h : FBx w b F) : b < w.heap.size := World.block_lt_of_cell? w _ h.c0
theorem FBx.kept {w w' : World} {b : Nat} {F : FP} (h : FBx w b F) (hb : Below w.heap.size w w') : FBx w' b F := by
  have cl : ∀ o, w'.cell? ⟨b, o, none⟩ = w.cell? ⟨b, o, none⟩ := fun o => hb.cell (p := ⟨b, o, none⟩) h.lt
  exact ⟨by rw [cl]; exact h.c0, by rw [cl]; exact h.c1, by rw [cl]; exact h.c2, by rw [cl]; exact h.c3, by rw [cl]; exact h.c4, by rw [cl]; exact h.c5, by rw [cl]; exact h.c6, by rw [cl]; exact h.c7, by rw [cl]; exact h.c8, by rw [cl]; exact h.c9, by rw [cl]; exact h.c10⟩
theorem FBx.new (w : World) (F : FP) : FBx (w.alloc (.cells #[.int .i64 (F.R.n : Int), .slice F.R.a F.R.m F.R.c, .int .i64 (F.R.cn : Int), .int .i64 (F.R.cW : Int), .int .i64 (F.R.cL : Int), .slice F.R.a2 F.R.m2 F.R.c2, .int .i64 (F.b : Int), .int .i64 (F.m : Int), .int .i64 (F.e : Int), .int .i64 (F.z : Int), .int .i64 (F.o : Int)] 111)) w.heap.size F :=
  ⟨by simp, by simp, by simp, by simp, by simp, by simp, by simp, by simp, by simp, by simp, by simp⟩
theorem fbel (w : World) (F : FP) : Below w.heap.size w (w.alloc (.cells #[.int .i64 (F.R.n : Int), .slice F.R.a F.R.m F.R.c, .int .i64 (F.R.cn : Int), .int .i64 (F.R.cW : Int), .int .i64 (F.R.cL : Int), .slice F.R.a2 F.R.m2 F.R.c2, .int .i64 (F.b : Int), .int .i64 (F.m : Int), .int .i64 (F.e : Int), .int .i64 (F.z : Int), .int .i64 (F.o : Int)] 111)) := (Below.refl _ _).alloc (Nat.le_refl _) _

/-- A boxed fork in a call that entered at w. -/
structure FX (w : World) (b : Nat) (F : FP) (row : List Bool) (u : World) : Prop where
  box : FBx u b F
  fk : FK u F row
  bel : Below w.heap.size w u
theorem FX.kept {w u u' : World} {b : Nat} {F : FP} {row : List Bool} (h : FX w b F row u) (hb : Below u.heap.size u u') : FX w b F row u' :=
  ⟨h.box.kept hb, h.fk.kept hb, h.bel.trans (hb.mono h.bel.size)⟩
theorem FX.drew {w u : World} {b : Nat} {F : FP} {row : List Bool} (h : FX w b F row u) : FX w b F row u.drew := h.kept ((Below.refl _ _).drew)
theorem FX.new {w : World} {F : FP} {row : List Bool} (h : FK w F row) : FX w w.heap.size F row (w.alloc (.cells #[.int .i64 (F.R.n : Int), .slice F.R.a F.R.m F.R.c, .int .i64 (F.R.cn : Int), .int .i64 (F.R.cW : Int), .int .i64 (F.R.cL : Int), .slice F.R.a2 F.R.m2 F.R.c2, .int .i64 (F.b : Int), .int .i64 (F.m : Int), .int .i64 (F.e : Int), .int .i64 (F.z : Int), .int .i64 (F.o : Int)] 111)) :=
  ⟨FBx.new w F, h.kept (fbel w F), fbel w F⟩
theorem rank0_fx {w u : World} {b : Nat} {F : FP} {row : List Bool} (i : Int) (h : FX w b F row u) :
    Calls Tryz.prog 109 #[.agg #[.int .i64 (F.R.n : Int), .slice F.R.a F.R.m F.R.c, .int .i64 (F.R.cn : Int), .int .i64 (F.R.cW : Int), .int .i64 (F.R.cL : Int), .slice F.R.a2 F.R.m2 F.R.c2], .int .i64 i] u fun e u' => e = .returned (.int .i64 (rk0 row i : Nat)) ∧ FX w b F row u' :=
  (rank0_any F.R row i u h.fk.rk).mono fun _ _ hh => ⟨hh.1, h.kept hh.2⟩
theorem rank1_fx {w u : World} {b : Nat} {F : FP} {row : List Bool} (i : Int) (h : FX w b F row u) :
    Calls Tryz.prog 88 #[.agg #[.int .i64 (F.R.n : Int), .slice F.R.a F.R.m F.R.c, .int .i64 (F.R.cn : Int), .int .i64 (F.R.cW : Int), .int .i64 (F.R.cL : Int), .slice F.R.a2 F.R.m2 F.R.c2], .int .i64 i] u fun e u' => e = .returned (.int .i64 (rk1 row i : Nat)) ∧ FX w b F row u' :=
  (rank1_any F.R row i u h.fk.rk).mono fun _ _ hh => ⟨hh.1, h.kept hh.2⟩

/-- A bit as a number. -/
def b2i (t : Bool) : Int := if t = true then 1 else 0

theorem far_off {u : World} {g o o' : Nat} {v : Value} (h : o ≠ o') : (u.setCell ⟨g, o, none⟩ v).cell? ⟨g, o', none⟩ = u.cell? ⟨g, o', none⟩ := World.cell?_setCell_other _ _ _ _ (by simp only [ne_eq, Addr.mk.injEq]; omega)

/-- A fork's cells written one by one. -/
abbrev setF (u : World) (g : Nat) (F : FP) : World := (((((((((((u.setCell ⟨g, 0, none⟩ (.int .i64 (F.R.n : Int))).setCell ⟨g, 1, none⟩ (.slice F.R.a F.R.m F.R.c)).setCell ⟨g, 2, none⟩ (.int .i64 (F.R.cn : Int))).setCell ⟨g, 3, none⟩ (.int .i64 (F.R.cW : Int))).setCell ⟨g, 4, none⟩ (.int .i64 (F.R.cL : Int))).setCell ⟨g, 5, none⟩ (.slice F.R.a2 F.R.m2 F.R.c2)).setCell ⟨g, 6, none⟩ (.int .i64 (F.b : Int))).setCell ⟨g, 7, none⟩ (.int .i64 (F.m : Int))).setCell ⟨g, 8, none⟩ (.int .i64 (F.e : Int))).setCell ⟨g, 9, none⟩ (.int .i64 (F.z : Int))).setCell ⟨g, 10, none⟩ (.int .i64 (F.o : Int)))
theorem setF_box {w u : World} {g : Nat} {f : Nat → Value} (F : FP) (h : Arr w g 11 f 0 u) : FBx (setF u g F) g F := by
  obtain ⟨⟨v0, y0⟩, -⟩ := h.ex 0 (by omega)
  obtain ⟨⟨v1, y1⟩, -⟩ := h.ex 1 (by omega)
  obtain ⟨⟨v2, y2⟩, -⟩ := h.ex 2 (by omega)
  obtain ⟨⟨v3, y3⟩, -⟩ := h.ex 3 (by omega)
  obtain ⟨⟨v4, y4⟩, -⟩ := h.ex 4 (by omega)
  obtain ⟨⟨v5, y5⟩, -⟩ := h.ex 5 (by omega)
  obtain ⟨⟨v6, y6⟩, -⟩ := h.ex 6 (by omega)
  obtain ⟨⟨v7, y7⟩, -⟩ := h.ex 7 (by omega)
  obtain ⟨⟨v8, y8⟩, -⟩ := h.ex 8 (by omega)
  obtain ⟨⟨v9, y9⟩, -⟩ := h.ex 9 (by omega)
  obtain ⟨⟨v10, y10⟩, -⟩ := h.ex 10 (by omega)
  unfold setF
  refine ⟨?_, ?_, ?_, ?_, ?_, ?_, ?_, ?_, ?_, ?_, ?_⟩
  · exact (far_off (by decide)).trans ((far_off (by decide)).trans ((far_off (by decide)).trans ((far_off (by decide)).trans ((far_off (by decide)).trans ((far_off (by decide)).trans ((far_off (by decide)).trans ((far_off (by decide)).trans ((far_off (by decide)).trans ((far_off (by decide)).trans (World.cell?_setCell_same _ _ _ (y0)))))))))))
  · exact (far_off (by decide)).trans ((far_off (by decide)).trans ((far_off (by decide)).trans ((far_off (by decide)).trans ((far_off (by decide)).trans ((far_off (by decide)).trans ((far_off (by decide)).trans ((far_off (by decide)).trans ((far_off (by decide)).trans (World.cell?_setCell_same _ _ _ ((far_off (by decide)).trans (y1)))))))))))
  · exact (far_off (by decide)).trans ((far_off (by decide)).trans ((far_off (by decide)).trans ((far_off (by decide)).trans ((far_off (by decide)).trans ((far_off (by decide)).trans ((far_off (by decide)).trans ((far_off (by decide)).trans (World.cell?_setCell_same _ _ _ ((far_off (by decide)).trans ((far_off (by decide)).trans (y2)))))))))))
  · exact (far_off (by decide)).trans ((far_off (by decide)).trans ((far_off (by decide)).trans ((far_off (by decide)).trans ((far_off (by decide)).trans ((far_off (by decide)).trans ((far_off (by decide)).trans (World.cell?_setCell_same _ _ _ ((far_off (by decide)).trans ((far_off (by decide)).trans ((far_off (by decide)).trans (y3)))))))))))
  · exact (far_off (by decide)).trans ((far_off (by decide)).trans ((far_off (by decide)).trans ((far_off (by decide)).trans ((far_off (by decide)).trans ((far_off (by decide)).trans (World.cell?_setCell_same _ _ _ ((far_off (by decide)).trans ((far_off (by decide)).trans ((far_off (by decide)).trans ((far_off (by decide)).trans (y4)))))))))))
  · exact (far_off (by decide)).trans ((far_off (by decide)).trans ((far_off (by decide)).trans ((far_off (by decide)).trans ((far_off (by decide)).trans (World.cell?_setCell_same _ _ _ ((far_off (by decide)).trans ((far_off (by decide)).trans ((far_off (by decide)).trans ((far_off (by decide)).trans ((far_off (by decide)).trans (y5)))))))))))
  · exact (far_off (by decide)).trans ((far_off (by decide)).trans ((far_off (by decide)).trans ((far_off (by decide)).trans (World.cell?_setCell_same _ _ _ ((far_off (by decide)).trans ((far_off (by decide)).trans ((far_off (by decide)).trans ((far_off (by decide)).trans ((far_off (by decide)).trans ((far_off (by decide)).trans (y6)))))))))))
  · exact (far_off (by decide)).trans ((far_off (by decide)).trans ((far_off (by decide)).trans (World.cell?_setCell_same _ _ _ ((far_off (by decide)).trans ((far_off (by decide)).trans ((far_off (by decide)).trans ((far_off (by decide)).trans ((far_off (by decide)).trans ((far_off (by decide)).trans ((far_off (by decide)).trans (y7)))))))))))
  · exact (far_off (by decide)).trans ((far_off (by decide)).trans (World.cell?_setCell_same _ _ _ ((far_off (by decide)).trans ((far_off (by decide)).trans ((far_off (by decide)).trans ((far_off (by decide)).trans ((far_off (by decide)).trans ((far_off (by decide)).trans ((far_off (by decide)).trans ((far_off (by decide)).trans (y8)))))))))))
  · exact (far_off (by decide)).trans (World.cell?_setCell_same _ _ _ ((far_off (by decide)).trans ((far_off (by decide)).trans ((far_off (by decide)).trans ((far_off (by decide)).trans ((far_off (by decide)).trans ((far_off (by decide)).trans ((far_off (by decide)).trans ((far_off (by decide)).trans ((far_off (by decide)).trans (y9)))))))))))
  · exact World.cell?_setCell_same _ _ _ ((far_off (by decide)).trans ((far_off (by decide)).trans ((far_off (by decide)).trans ((far_off (by decide)).trans ((far_off (by decide)).trans ((far_off (by decide)).trans ((far_off (by decide)).trans ((far_off (by decide)).trans ((far_off (by decide)).trans ((far_off (by decide)).trans (y10)))))))))))
theorem setF_bel {w u : World} {g : Nat} {f : Nat → Value} (F : FP) (h : Arr w g 11 f 0 u) : Below w.heap.size w (setF u g F) := by
  unfold setF
  have hg := h.gl
  exact (((((((((((h.bel.setCell (p := ⟨g, 0, none⟩) hg _).setCell (p := ⟨g, 1, none⟩) hg _).setCell (p := ⟨g, 2, none⟩) hg _).setCell (p := ⟨g, 3, none⟩) hg _).setCell (p := ⟨g, 4, none⟩) hg _).setCell (p := ⟨g, 5, none⟩) hg _).setCell (p := ⟨g, 6, none⟩) hg _).setCell (p := ⟨g, 7, none⟩) hg _).setCell (p := ⟨g, 8, none⟩) hg _).setCell (p := ⟨g, 9, none⟩) hg _).setCell (p := ⟨g, 10, none⟩) hg _)

/-- What forkAt tells. -/
def ForkEnd (w : World) (R : RP) (row : List Bool) (b e : Nat) (x : Ending) (w' : World) : Prop :=
  ∃ F : FP, x = .returned (.agg #[.int .i64 (F.R.n : Int), .slice F.R.a F.R.m F.R.c, .int .i64 (F.R.cn : Int), .int .i64 (F.R.cW : Int), .int .i64 (F.R.cL : Int), .slice F.R.a2 F.R.m2 F.R.c2, .int .i64 (F.b : Int), .int .i64 (F.m : Int), .int .i64 (F.e : Int), .int .i64 (F.z : Int), .int .i64 (F.o : Int)]) ∧ FK w' F row ∧ F.R = R ∧ F.b = b ∧ F.e = e ∧ Below w.heap.size w w'

set_option maxHeartbeats 1000000 in
theorem forkAt_any (R : RP) (row : List Bool) (b e : Nat) (w : World) (h : RK w R row) (hbe : b ≤ e) (he : e ≤ row.length) :
    Calls Tryz.prog 83 #[.agg #[.int .i64 (R.n : Int), .slice R.a R.m R.c, .int .i64 (R.cn : Int), .int .i64 (R.cW : Int), .int .i64 (R.cL : Int), .slice R.a2 R.m2 R.c2], .int .i64 (b : Int), .int .i64 (e : Int)] w (ForkEnd w R row b e) := by
  have hs := h.small
  have hlen := h.len
  have r1 := rk0_at row b (by omega)
  have r2 := rk0_at row e (by omega)
  have hmo := rkN_mono false row b e hbe
  have hbo := rkN_both row b (by omega)
  have l1 := rkN_le' false row b
  have l2 := rkN_le' false row e
  have hfk : ∀ u, RK u R row → FK u ⟨R, b, b + rkN false row e - rkN false row b, e, rkN false row b, b - rkN false row b⟩ row := fun u hu =>
    ⟨hu, hbe, he, rfl, by show b - rkN false row b = rkN true row b; omega, by show b + rkN false row e - rkN false row b + rkN false row b = b + rkN false row e; omega⟩
  have HR := Lib.hid (And.intro r1 (And.intro r2 hfk))
  have he2 : e ≤ 1000000000 := by omega
  have HS := Lib.hid (And.intro hs hlen)
  clear r1 r2 hfk hbo hs hlen he
  generalize hz : rkN false row b = z at *
  generalize hy : rkN false row e = y at *
  clear hz hy
  have HK : Hid (∀ u, Below w.heap.size w u → RK u R row) := Lib.hid (fun u hu => h.kept hu)
  have hA : Hid (RBx (w.alloc (.cells #[.int .i64 (R.n : Int), .slice R.a R.m R.c, .int .i64 (R.cn : Int), .int .i64 (R.cW : Int), .int .i64 (R.cL : Int), .slice R.a2 R.m2 R.c2] 35)) w.heap.size R ∧ Below w.heap.size w (w.alloc (.cells #[.int .i64 (R.n : Int), .slice R.a R.m R.c, .int .i64 (R.cn : Int), .int .i64 (R.cW : Int), .int .i64 (R.cL : Int), .slice R.a2 R.m2 R.c2] 35))) := Lib.hid ⟨RBx.new w R, rbel w R⟩
  clear h
  go_enter Tryz.func83, Tryz.ntmps83
  go_wp2_with fail
  refine (rank0_any R row _ _ (HK.out _ (hA.out.2.alloc (by simp) _))).mono ?_
  rintro x u ⟨rfl, hb⟩
  rw [HR.out.1]
  have hx : RBx u w.heap.size R := (hA.out.1.kept ((Below.refl _ _).alloc (Nat.le_refl _) _)).kept hb
  have hb2 : Below w.heap.size w u := (hA.out.2.alloc (by simp) _).trans (hb.mono (by simp; omega))
  have hR1 : Arr w (w.heap.size + 1) 11 (fun _ => .bool false) 0 ((w.alloc (.cells #[.int .i64 (R.n : Int), .slice R.a R.m R.c, .int .i64 (R.cn : Int), .int .i64 (R.cW : Int), .int .i64 (R.cL : Int), .slice R.a2 R.m2 R.c2] 35)).alloc (.cells #[.int .i64 0, .slice none 0 0, .int .i64 0, .int .i64 0, .int .i64 0, .slice none 0 0, .int .i64 0, .int .i64 0, .int .i64 0, .int .i64 0, .int .i64 0] 111)) :=
    ⟨by omega, fun o ho => by
      have : o = 0 ∨ o = 1 ∨ o = 2 ∨ o = 3 ∨ o = 4 ∨ o = 5 ∨ o = 6 ∨ o = 7 ∨ o = 8 ∨ o = 9 ∨ o = 10 := by omega
      rcases this with rfl | rfl | rfl | rfl | rfl | rfl | rfl | rfl | rfl | rfl | rfl <;> exact ⟨by simp, by simp⟩, fun j hj => absurd hj (by omega), hA.out.2.alloc (by simp) _, by simp⟩
  have hR1 := hR1.kept hb
  obtain ⟨x0, x1, x2, x3, x4, x5⟩ := hx
  have HX := Lib.hid (And.intro hb2 hR1)
  have hx0 := Lib.hid (RBx.mk x0 x1 x2 x3 x4 x5)
  clear hb hb2 hR1
  go_wp2_with fail
  refine (rank0_any R row _ _ (HK.out _ HX.out.1)).mono ?_
  rintro x u2 ⟨rfl, hb⟩
  rw [HR.out.2.1]
  have hR2 := HX.out.2.kept hb
  clear x0 x1 x2 x3 x4 x5
  obtain ⟨x0, x1, x2, x3, x4, x5⟩ := hx0.out.kept hb
  obtain ⟨⟨v0, y0⟩, f0⟩ := hR2.ex 0 (by omega)
  obtain ⟨⟨v1, y1⟩, f1⟩ := hR2.ex 1 (by omega)
  obtain ⟨⟨v2, y2⟩, f2⟩ := hR2.ex 2 (by omega)
  obtain ⟨⟨v3, y3⟩, f3⟩ := hR2.ex 3 (by omega)
  obtain ⟨⟨v4, y4⟩, f4⟩ := hR2.ex 4 (by omega)
  obtain ⟨⟨v5, y5⟩, f5⟩ := hR2.ex 5 (by omega)
  obtain ⟨⟨v6, y6⟩, f6⟩ := hR2.ex 6 (by omega)
  obtain ⟨⟨v7, y7⟩, f7⟩ := hR2.ex 7 (by omega)
  obtain ⟨⟨v8, y8⟩, f8⟩ := hR2.ex 8 (by omega)
  obtain ⟨⟨v9, y9⟩, f9⟩ := hR2.ex 9 (by omega)
  obtain ⟨⟨v10, y10⟩, f10⟩ := hR2.ex 10 (by omega)
  have HY := Lib.hid (HX.out.1.trans (hb.mono HX.out.1.size))
  clear hb hx0
  have HR2 := Lib.hid hR2
  clear hR2
  go_wp2
  obtain ⟨F, hF⟩ : ∃ F : FP, F = ⟨R, b, b + y - z, e, z, b - z⟩ := ⟨_, rfl⟩
  have eU : (((((((((((u2.setCell ⟨w.heap.size + 1, 0, none⟩ (.int .i64 (R.n : Int))).setCell ⟨w.heap.size + 1, 1, none⟩ (.slice R.a R.m R.c)).setCell ⟨w.heap.size + 1, 2, none⟩ (.int .i64 (R.cn : Int))).setCell ⟨w.heap.size + 1, 3, none⟩ (.int .i64 (R.cW : Int))).setCell ⟨w.heap.size + 1, 4, none⟩ (.int .i64 (R.cL : Int))).setCell ⟨w.heap.size + 1, 5, none⟩ (.slice R.a2 R.m2 R.c2)).setCell ⟨w.heap.size + 1, 6, none⟩ (.int .i64 (b : Int))).setCell ⟨w.heap.size + 1, 7, none⟩ (.int .i64 ((b : Int) + y - z))).setCell ⟨w.heap.size + 1, 8, none⟩ (.int .i64 (e : Int))).setCell ⟨w.heap.size + 1, 9, none⟩ (.int .i64 (z : Int))).setCell ⟨w.heap.size + 1, 10, none⟩ (.int .i64 ((b : Int) - z))) = setF u2 (w.heap.size + 1) F := by
    rw [hF]; unfold setF
    rw [show ((b + y - z : Nat) : Int) = (b : Int) + y - z by omega, show ((b - z : Nat) : Int) = (b : Int) - z by omega]
  rw [eU]
  obtain ⟨k0, k1, k2, k3, k4, k5, k6, k7, k8, k9, k10⟩ := setF_box F HR2.out
  have HU := Lib.hid (setF_bel F HR2.out)
  generalize setF u2 (w.heap.size + 1) F = U at *
  refine bodyPost_ret (v := .agg #[.int .i64 (F.R.n : Int), .slice F.R.a F.R.m F.R.c, .int .i64 (F.R.cn : Int), .int .i64 (F.R.cW : Int), .int .i64 (F.R.cL : Int), .slice F.R.a2 F.R.m2 F.R.c2, .int .i64 (F.b : Int), .int .i64 (F.m : Int), .int .i64 (F.e : Int), .int .i64 (F.z : Int), .int .i64 (F.o : Int)]) (by simp [results, Tryz.results83, go_sem, k0, k1, k2, k3, k4, k5, k6, k7, k8, k9, k10]) rfl ?_
  exact ⟨F, rfl, by rw [hF]; exact HR.out.2.2 U (HK.out U HU.out), by rw [hF], by rw [hF], by rw [hF], HU.out⟩

/-- Where the part goes on of those with that bit. -/
def nb (F : FP) (t : Bool) : Nat := if t = true then F.m else F.b
def ne (F : FP) (t : Bool) : Nat := if t = true then F.e else F.m

theorem next_any (F : FP) (t : Bool) (x : Int) (hx : x = b2i t) (w : World) :
    Calls Tryz.prog 86 #[.agg #[.int .i64 (F.R.n : Int), .slice F.R.a F.R.m F.R.c, .int .i64 (F.R.cn : Int), .int .i64 (F.R.cW : Int), .int .i64 (F.R.cL : Int), .slice F.R.a2 F.R.m2 F.R.c2, .int .i64 (F.b : Int), .int .i64 (F.m : Int), .int .i64 (F.e : Int), .int .i64 (F.z : Int), .int .i64 (F.o : Int)], .int .i64 x] w fun e w' => e = .returned (.tuple #[.int .i64 (nb F t : Nat), .int .i64 (ne F t : Nat)]) ∧ Below w.heap.size w w' := by
  have HB := Lib.hid (fbel w F)
  cases t with
  | false =>
    obtain rfl : x = 0 := hx
    go_enter Tryz.func86, Tryz.ntmps86
    go_wp2
    go_quiet (fail)
    go_wp2
    go_ret2
    exact ⟨rfl, below_drewN HB.out _⟩
  | true =>
    obtain rfl : x = 1 := hx
    go_enter Tryz.func86, Tryz.ntmps86
    go_wp2
    go_quiet (fail)
    go_wp2
    go_ret2
    exact ⟨rfl, below_drewN HB.out _⟩

/-- What follow tells. -/
def FolEnd (w : World) (F : FP) (row : List Bool) (t : Bool) (i : Nat) (x : Ending) (w' : World) : Prop :=
  ∃ r : Nat, x = .returned (.int .i64 (r : Int)) ∧ r + (if t = true then F.o else F.z) = nb F t + rkN t row i ∧ Below w.heap.size w w'

set_option maxHeartbeats 1000000 in
theorem follow_any (F : FP) (row : List Bool) (t : Bool) (i : Nat) (x : Int) (hx : x = b2i t) (w : World) (h : FK w F row) (hbi : F.b ≤ i) (hi : i ≤ row.length) :
    Calls Tryz.prog 85 #[.agg #[.int .i64 (F.R.n : Int), .slice F.R.a F.R.m F.R.c, .int .i64 (F.R.cn : Int), .int .i64 (F.R.cW : Int), .int .i64 (F.R.cL : Int), .slice F.R.a2 F.R.m2 F.R.c2, .int .i64 (F.b : Int), .int .i64 (F.m : Int), .int .i64 (F.e : Int), .int .i64 (F.z : Int), .int .i64 (F.o : Int)], .int .i64 x, .int .i64 (i : Int)] w (FolEnd w F row t i) := by
  have hs := h.rk.small
  have hlen := h.rk.len
  have hme := h.me
  have hbm := h.bm
  have hel := h.el
  have hA := FX.new h
  have r0 := rk0_at row i hi
  have r1 := rk1_at row i hi
  have m0 := rkN_mono false row F.b i hbi
  have m1 := rkN_mono true row F.b i hbi
  rw [← h.z] at m0
  rw [← h.o] at m1
  have l0 := rkN_le' false row i
  have l1 := rkN_le' true row i
  have HR := Lib.hid (And.intro r0 r1)
  have hi2 : i ≤ 1000000000 := by omega
  have he2 : F.e ≤ 1000000000 := by omega
  have h0 := fun u (hu : FX w w.heap.size F row u) => rank0_fx (i : Int) hu
  have h1 := fun u (hu : FX w w.heap.size F row u) => rank1_fx (i : Int) hu
  rw [r0] at h0
  rw [r1] at h1
  have H0 := Lib.hid h0
  have H1 := Lib.hid h1
  clear h0 h1 r0 r1 h HR hel hi hs hlen
  unfold FolEnd nb
  generalize hy0 : rkN false row i = y0 at *
  generalize hy1 : rkN true row i = y1 at *
  cases t with
  | false =>
    rw [hy0]
    clear hy0 hy1 H1
    obtain rfl : x = 0 := hx
    have q1 : IntKind.i64.wrap ((F.b : Int) + (y0 : Int)) = (F.b : Int) + (y0 : Int) := IntWalk.i64_in _ (by omega)
    have q2 : IntKind.i64.wrap ((F.b : Int) + (y0 : Int) - (F.z : Int)) = (F.b : Int) + (y0 : Int) - (F.z : Int) := IntWalk.i64_in _ (by omega)
    go_enter Tryz.func85, Tryz.ntmps85
    go_wp2
    obtain ⟨b0, b1, b2, b3, b4, b5, b6, b7, b8, b9, b10⟩ := hA.box
    generalize w.alloc (.cells #[.int .i64 (F.R.n : Int), .slice F.R.a F.R.m F.R.c, .int .i64 (F.R.cn : Int), .int .i64 (F.R.cW : Int), .int .i64 (F.R.cL : Int), .slice F.R.a2 F.R.m2 F.R.c2, .int .i64 (F.b : Int), .int .i64 (F.m : Int), .int .i64 (F.e : Int), .int .i64 (F.z : Int), .int .i64 (F.o : Int)] 111) = u at *
    generalize hbx : w.heap.size = bx at *
    go_region_held3 (fun w' => w'.cell? ⟨bx, 0, none⟩ = some (.int .i64 (F.R.n : Int)) ∧ w'.cell? ⟨bx, 1, none⟩ = some (.slice F.R.a F.R.m F.R.c) ∧ w'.cell? ⟨bx, 2, none⟩ = some (.int .i64 (F.R.cn : Int)) ∧ w'.cell? ⟨bx, 3, none⟩ = some (.int .i64 (F.R.cW : Int)) ∧ w'.cell? ⟨bx, 4, none⟩ = some (.int .i64 (F.R.cL : Int)) ∧ w'.cell? ⟨bx, 5, none⟩ = some (.slice F.R.a2 F.R.m2 F.R.c2) ∧ w'.cell? ⟨bx, 6, none⟩ = some (.int .i64 (F.b : Int)) ∧ w'.cell? ⟨bx, 9, none⟩ = some (.int .i64 (F.z : Int)))
      (first
        | go_keep
        | exact ⟨hA.box.c0, hA.box.c1, hA.box.c2, hA.box.c3, hA.box.c4, hA.box.c5, hA.box.c6, hA.box.c9⟩)
      (first
        | (go_at_call 109; (with_reducible refine (H0.out _ hA).mono ?_); rintro e u ⟨rfl, hA⟩)
        | (go_at_call 109; (with_reducible refine (H0.out _ hA.drew).mono ?_); rintro e u ⟨rfl, hA⟩))
    all_goals
      have HB := Lib.hid hA.bel
      subst hbx
      clear hA q1 q2
      go_wp2
      go_ret
      exact ⟨F.b + y0 - F.z, ret_int (by omega), by first | omega | (simp; omega), HB.out⟩
  | true =>
    rw [hy1]
    clear hy0 hy1 H0
    obtain rfl : x = 1 := hx
    have q1 : IntKind.i64.wrap ((F.m : Int) + (y1 : Int)) = (F.m : Int) + (y1 : Int) := IntWalk.i64_in _ (by omega)
    have q2 : IntKind.i64.wrap ((F.m : Int) + (y1 : Int) - (F.o : Int)) = (F.m : Int) + (y1 : Int) - (F.o : Int) := IntWalk.i64_in _ (by omega)
    go_enter Tryz.func85, Tryz.ntmps85
    go_wp2
    obtain ⟨b0, b1, b2, b3, b4, b5, b6, b7, b8, b9, b10⟩ := hA.box
    generalize w.alloc (.cells #[.int .i64 (F.R.n : Int), .slice F.R.a F.R.m F.R.c, .int .i64 (F.R.cn : Int), .int .i64 (F.R.cW : Int), .int .i64 (F.R.cL : Int), .slice F.R.a2 F.R.m2 F.R.c2, .int .i64 (F.b : Int), .int .i64 (F.m : Int), .int .i64 (F.e : Int), .int .i64 (F.z : Int), .int .i64 (F.o : Int)] 111) = u at *
    generalize hbx : w.heap.size = bx at *
    go_region_held3 (fun w' => w'.cell? ⟨bx, 0, none⟩ = some (.int .i64 (F.R.n : Int)) ∧ w'.cell? ⟨bx, 1, none⟩ = some (.slice F.R.a F.R.m F.R.c) ∧ w'.cell? ⟨bx, 2, none⟩ = some (.int .i64 (F.R.cn : Int)) ∧ w'.cell? ⟨bx, 3, none⟩ = some (.int .i64 (F.R.cW : Int)) ∧ w'.cell? ⟨bx, 4, none⟩ = some (.int .i64 (F.R.cL : Int)) ∧ w'.cell? ⟨bx, 5, none⟩ = some (.slice F.R.a2 F.R.m2 F.R.c2) ∧ w'.cell? ⟨bx, 7, none⟩ = some (.int .i64 (F.m : Int)) ∧ w'.cell? ⟨bx, 10, none⟩ = some (.int .i64 (F.o : Int)))
      (first
        | go_keep
        | exact ⟨hA.box.c0, hA.box.c1, hA.box.c2, hA.box.c3, hA.box.c4, hA.box.c5, hA.box.c7, hA.box.c10⟩)
      (first
        | (go_at_call 88; (with_reducible refine (H1.out _ hA).mono ?_); rintro e u ⟨rfl, hA⟩)
        | (go_at_call 88; (with_reducible refine (H1.out _ hA.drew).mono ?_); rintro e u ⟨rfl, hA⟩))
    all_goals
      have HB := Lib.hid hA.bel
      subst hbx
      clear hA q1 q2
      go_wp2
      go_ret
      exact ⟨F.m + y1 - F.o, ret_int (by omega), by first | omega | (simp; omega), HB.out⟩

/-- The bit of the symbol c in row k. -/
theorem wbit_any (n size : Int) (a : Option Addr) (m cap : Nat) (c : Int) (k : Nat) (w : World) (hk : k < m) (hm : m ≤ 62) :
    Calls Tryz.prog 108 #[.agg #[.int .i64 n, .int .i64 size, .slice a m cap], .int .i64 c, .int .i64 (k : Int)] w fun e w' => e = .returned (.int .i64 (b2i (decide (c / 2 ^ (m - 1 - k) % 2 = 1)))) ∧ Below w.heap.size w w' := by
  have HB := Lib.hid (wbel w (.int .i64 n) (.int .i64 size) (.slice a m cap))
  generalize hs : m - 1 - k = s
  have hand := and_mask (c / 2 ^ s) 1 (by omega)
  have hb2 : b2i (decide (c / 2 ^ s % 2 = 1)) = c / 2 ^ s % 2 := by
    unfold b2i
    by_cases h : c / 2 ^ s % 2 = 1
    · simp [h]
    · simp [h]; omega
  rw [hb2]
  obtain ⟨y, hy⟩ : ∃ y, c / 2 ^ s = y := ⟨_, rfl⟩
  rw [hy] at hand ⊢
  have hand : bits .and .i64 y 1 = y % 2 := hand
  have q0 : (m : Int) - 1 - (k : Int) = (s : Int) := by omega
  have q3 : (0 : Int) ≤ (s : Int) := by omega
  have q5 : ((s : Int)).toNat = s := by omega
  have q6 : min s 64 = s := by omega
  clear hb2 hs
  go_enter Tryz.func108, Tryz.ntmps108
  go_wp2
  go_ret
  exact ⟨rfl, HB.out⟩

end Go.Proofs.YtpnjccomngdblaaGreat
