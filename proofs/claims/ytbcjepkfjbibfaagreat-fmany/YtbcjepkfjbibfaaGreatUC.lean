/- The contracts of made and Load. -/
import Derived.Test.YtbcjepkfjbibfaaGreatZR
import Derived.Test.YtbcjepkfjbibfaaGreatUE
set_option maxRecDepth 100000
namespace Go.Proofs.YtbcjepkfjbibfaaGreat
open Go.RowKit
open M
attribute [local go_sem ↓] Go.wp_at_zero Go.wp_at_succ

set_option maxHeartbeats 1000000 in
theorem made_no (A : Option Addr) (n c : Nat) (b : List Int) (N : Nat) (Z : Int) (a : Option Addr) (W cw : Nat) (w : World) (hA : NumsAt .i64 w A b) (hl : b.length = n) (hn : n ≤ 1001) (h64 : I64s b) (hno : ¬ Tb b) :
    Calls Tryz.prog 45 #[.agg #[.int .i64 (N : Int), .int .i64 Z, .slice a W cw], .slice A n c] w fun e u => e = .returned (.tuple #[.agg #[.int .i64 0, .int .i64 0, .slice none 0 0, .int .i64 0, .slice none 0 0, .int .i64 0, .int .i64 0, .int .i64 0, .slice none 0 0, .int .i64 0, .int .i64 0, .int .i64 0, .slice none 0 0, .int .i64 0, .int .i64 0, .int .i64 0, .slice none 0 0], .int .i64 10]) ∧ Below w.heap.size w u := by
  obtain ⟨w1, hw1⟩ : ∃ w1, w1 = w.alloc (.cells #[.int .i64 (N : Int), .int .i64 Z, .slice a W cw] 27) := ⟨_, rfl⟩
  obtain ⟨w2, hw2⟩ : ∃ w2, w2 = w1.alloc (.cells #[.int .i64 0, .int .i64 0, .slice none 0 0, .int .i64 0, .slice none 0 0, .int .i64 0, .int .i64 0, .int .i64 0, .slice none 0 0, .int .i64 0, .int .i64 0, .int .i64 0, .slice none 0 0, .int .i64 0, .int .i64 0, .int .i64 0, .slice none 0 0] 36) := ⟨_, rfl⟩
  have hs1 : w1.heap.size = w.heap.size + 1 := by rw [hw1]; simp
  have b1 : Below w.heap.size w w1 := by rw [hw1]; exact al w _
  have b2 : Below w1.heap.size w1 w2 := by rw [hw2]; exact al w1 _
  have th2 : w2.there w1.heap.size 0 17 := by rw [hw2]; exact there_new w1
  have hs2 : w2.heap.size = w1.heap.size + 1 := by rw [hw2]; simp
  have b02 : Below w.heap.size w w2 := b1.trans (b2.mono (by omega))
  have hnx := next_no A n c b w2 (hA.kept b02) hl (by omega) h64 hno
  have HX := Lib.hid hnx
  have H2 := Lib.hid (And.intro th2 (And.intro b02 (And.intro hs1 hs2)))
  clear hnx hA hl h64 hno b1 b2 th2 b02 hs2
  go_enter Tryz.func45, Tryz.ntmps45
  go_upto_region 1 with fail
  rw [← hw1, ← hs1, ← hw2]
  obtain ⟨r, hr⟩ : ∃ r, w1.heap.size = r := ⟨_, rfl⟩
  rw [hr] at H2
  simp only [hr]
  clear hw1 hw2 hs1 hr
  go_wp2_with fail
  (with_reducible refine HX.out.mono ?_)
  rintro e u1 ⟨rfl, hb⟩
  have hth := there_kp H2.out.1 (by have := H2.out.2.2.2; omega) (Below.kp hb) (fun h => h)
  have hbb := H2.out.2.1.trans (hb.mono H2.out.2.1.size)
  have HT := Lib.hid hth
  have HB := Lib.hid (And.intro hbb H2.out.2.2.1)
  clear hb hth hbb
  go_wp2_with (refine store36 FQN r _ _ (by with_reducible rfl) rfl rfl rfl HT.out ?_)
  have hst := MBx.stored FQN HT.out
  refine bodyPost_ret (results_fm2 (F := FQN) (b := r) (v := .int .i64 10) Tryz.results45 _ ?hp ?hq hst) ?hd ?_
  case hp => rfl
  case hq => rfl
  case hd => rfl
  exact ⟨rfl, Below.setCells' (by have := HB.out.2; omega) _ 0 HB.out.1⟩


/-- What Load is handed. -/
structure LQ where
  N : Nat
  Z : Int
  a : Option Addr
  W : Nat
  cw : Nat
  nb : Nat
  ma : Option Addr
  mw : Nat
  mc : Nat
  J : IP
/-- Its boxes, and the box of its answer. -/
structure LW (w : World) (B : Nat) (Q : LQ) (u : World) : Prop where
  c0 : u.cell? ⟨B, 0, none⟩ = some (.int .i64 (Q.N : Int))
  c1 : u.cell? ⟨B, 1, none⟩ = some (.int .i64 Q.Z)
  c2 : u.cell? ⟨B, 2, none⟩ = some (.slice Q.a Q.W Q.cw)
  d0 : u.cell? ⟨B + 1, 0, none⟩ = some (.int .i64 (Q.nb : Int))
  d1 : u.cell? ⟨B + 1, 1, none⟩ = some (.slice Q.ma Q.mw Q.mc)
  e0 : u.cell? ⟨B + 2, 0, none⟩ = some (.int .i64 (Q.J.n : Int))
  e1 : u.cell? ⟨B + 2, 1, none⟩ = some (.int .i64 (Q.J.W : Int))
  e2 : u.cell? ⟨B + 2, 2, none⟩ = some (.int .i64 (Q.J.L : Int))
  e3 : u.cell? ⟨B + 2, 3, none⟩ = some (.slice Q.J.a Q.J.m Q.J.c)
  th : u.there (B + 3) 0 17
  ty : Typ u (B + 3) 36
  bel : Below B w u
  eq : w.heap.size = B
variable {w u u' : World} {B : Nat} {Q : LQ} {X : Nat → Prop}
theorem LW.kp (h : LW w B Q u) (hk : Kp X u u') (hx : ∀ b, b ≤ B + 3 → ¬ X b) : LW w B Q u' := by
  have hl := h.ty.lt
  have cl : ∀ b o, b ≤ B + 3 → u'.cell? ⟨b, o, none⟩ = u.cell? ⟨b, o, none⟩ := fun b o hb => hk.cell (p := ⟨b, o, none⟩) (Nat.lt_of_le_of_lt hb hl) (hx b hb)
  exact ⟨by rw [cl _ _ (by omega)]; exact h.c0, by rw [cl _ _ (by omega)]; exact h.c1, by rw [cl _ _ (by omega)]; exact h.c2, by rw [cl _ _ (by omega)]; exact h.d0, by rw [cl _ _ (by omega)]; exact h.d1,
    by rw [cl _ _ (by omega)]; exact h.e0, by rw [cl _ _ (by omega)]; exact h.e1, by rw [cl _ _ (by omega)]; exact h.e2, by rw [cl _ _ (by omega)]; exact h.e3,
    there_kp h.th hl hk (hx _ (Nat.le_refl _)), h.ty.kp hk (hx _ (Nat.le_refl _)), h.bel.trans (hk.toBelow (by omega) (fun k hk' => hx k (by omega))), h.eq⟩
theorem LW.kept (h : LW w B Q u) (hb : Below u.heap.size u u') : LW w B Q u' := h.kp (Below.kp hb) (fun _ _ e => e)
theorem LW.drew (h : LW w B Q u) : LW w B Q u.drew := h.kept ((Below.refl _ _).drew)
theorem LW.born (h : LW w B Q u) : LW w B Q (u.alloc (.cells #[.int .i64 0, .int .i64 0, .slice none 0 0, .int .i64 0, .slice none 0 0, .int .i64 0, .int .i64 0, .int .i64 0, .slice none 0 0, .int .i64 0, .int .i64 0, .int .i64 0, .slice none 0 0, .int .i64 0, .int .i64 0, .int .i64 0, .slice none 0 0] 36)) ∧ (u.alloc (.cells #[.int .i64 0, .int .i64 0, .slice none 0 0, .int .i64 0, .slice none 0 0, .int .i64 0, .int .i64 0, .int .i64 0, .slice none 0 0, .int .i64 0, .int .i64 0, .int .i64 0, .slice none 0 0, .int .i64 0, .int .i64 0, .int .i64 0, .slice none 0 0] 36)).there u.heap.size 0 17 ∧ Typ (u.alloc (.cells #[.int .i64 0, .int .i64 0, .slice none 0 0, .int .i64 0, .slice none 0 0, .int .i64 0, .int .i64 0, .int .i64 0, .slice none 0 0, .int .i64 0, .int .i64 0, .int .i64 0, .slice none 0 0, .int .i64 0, .int .i64 0, .int .i64 0, .slice none 0 0] 36)) u.heap.size 36 ∧ B + 3 < u.heap.size :=
  ⟨h.kept (al _ _), there_new u, ⟨_, _, heap_alloc_new u _⟩, h.ty.lt⟩
theorem LW.set (h : LW w B Q u) {g : Nat} (hg : B + 3 < g) (vs : List Value) : LW w B Q (u.setCells g 0 vs) := h.kp (setCells_kp g vs 0 u) (fun b hb e => by omega)
theorem LW.setF (h : LW w B Q u) {g : Nat} (hg : B + 3 < g) (F : FQ) : LW w B Q (u.setCells g 0 [.int .i64 (F.N : Int), .int .i64 F.Z, .slice F.wa F.wW F.wc, .int .i64 (F.R.n : Int), .slice F.R.a F.R.m F.R.c, .int .i64 (F.R.cn : Int), .int .i64 (F.R.cW : Int), .int .i64 (F.R.cL : Int), .slice F.R.a2 F.R.m2 F.R.c2, .int .i64 (F.S.n : Int), .int .i64 (F.S.W : Int), .int .i64 (F.S.L : Int), .slice F.S.a F.S.m F.S.c, .int .i64 (F.P.n : Int), .int .i64 (F.P.W : Int), .int .i64 (F.P.L : Int), .slice F.P.a F.P.m F.P.c]) := h.set hg _
theorem FMI.box {F9 : FQ} {l : List Int} {size g : Nat} (h : FMI u F9 l size) (hty : Typ u g 36) (F : FQ) (ha : 0 < F9.wW → ∀ p, F9.wa = some p → p.block ≠ g) : FMI (u.setCells g 0 [.int .i64 (F.N : Int), .int .i64 F.Z, .slice F.wa F.wW F.wc, .int .i64 (F.R.n : Int), .slice F.R.a F.R.m F.R.c, .int .i64 (F.R.cn : Int), .int .i64 (F.R.cW : Int), .int .i64 (F.R.cL : Int), .slice F.R.a2 F.R.m2 F.R.c2, .int .i64 (F.S.n : Int), .int .i64 (F.S.W : Int), .int .i64 (F.S.L : Int), .slice F.S.a F.S.m F.S.c, .int .i64 (F.P.n : Int), .int .i64 (F.P.W : Int), .int .i64 (F.P.L : Int), .slice F.P.a F.P.m F.P.c]) F9 l size :=
  h.typs (setCells_kp _ _ 0 _) (fun b e => ⟨36, by decide, by rw [e]; exact hty⟩) (fun h1 p e ek => ha h1 p e ek)
theorem bel_box {B' g : Nat} (hg : B' ≤ g) (F : FQ) (h : Below B' w u) : Below B' w (u.setCells g 0 [.int .i64 (F.N : Int), .int .i64 F.Z, .slice F.wa F.wW F.wc, .int .i64 (F.R.n : Int), .slice F.R.a F.R.m F.R.c, .int .i64 (F.R.cn : Int), .int .i64 (F.R.cW : Int), .int .i64 (F.R.cL : Int), .slice F.R.a2 F.R.m2 F.R.c2, .int .i64 (F.S.n : Int), .int .i64 (F.S.W : Int), .int .i64 (F.S.L : Int), .slice F.S.a F.S.m F.S.c, .int .i64 (F.P.n : Int), .int .i64 (F.P.W : Int), .int .i64 (F.P.L : Int), .slice F.P.a F.P.m F.P.c]) := Below.setCells' hg _ 0 h
theorem LW.new (w : World) (Q : LQ) (w1 w2 w3 w4 : World) (h1 : w1 = w.alloc (.cells #[.int .i64 (Q.N : Int), .int .i64 Q.Z, .slice Q.a Q.W Q.cw] 27)) (h2 : w2 = w1.alloc (.cells #[.int .i64 (Q.nb : Int), .slice Q.ma Q.mw Q.mc] 30)) (h3 : w3 = w2.alloc (.cells #[.int .i64 (Q.J.n : Int), .int .i64 (Q.J.W : Int), .int .i64 (Q.J.L : Int), .slice Q.J.a Q.J.m Q.J.c] 32)) (h4 : w4 = w3.alloc (.cells #[.int .i64 0, .int .i64 0, .slice none 0 0, .int .i64 0, .slice none 0 0, .int .i64 0, .int .i64 0, .int .i64 0, .slice none 0 0, .int .i64 0, .int .i64 0, .int .i64 0, .slice none 0 0, .int .i64 0, .int .i64 0, .int .i64 0, .slice none 0 0] 36)) : LW w w.heap.size Q w4 := by
  have s1 : w1.heap.size = w.heap.size + 1 := by rw [h1]; simp
  have s2 : w2.heap.size = w.heap.size + 2 := by rw [h2]; simp [s1]
  have s3 : w3.heap.size = w.heap.size + 3 := by rw [h3]; simp [s2]
  have b1 : Below w.heap.size w w1 := by rw [h1]; exact al _ _
  have b2 : Below w1.heap.size w1 w2 := by rw [h2]; exact al _ _
  have b3 : Below w2.heap.size w2 w3 := by rw [h3]; exact al _ _
  have b4 : Below w3.heap.size w3 w4 := by rw [h4]; exact al _ _
  have b34 := b3.trans (b4.mono b3.size)
  have b24 := b2.trans (b34.mono b2.size)
  have b14 := b1.trans (b24.mono b1.size)
  have x1 : ∀ o v, w1.cell? ⟨w.heap.size, o, none⟩ = some v → w4.cell? ⟨w.heap.size, o, none⟩ = some v := fun o v e => by rw [b24.cell (p := ⟨w.heap.size, o, none⟩) (by show w.heap.size < w1.heap.size; omega)]; exact e
  have x2 : ∀ o v, w2.cell? ⟨w1.heap.size, o, none⟩ = some v → w4.cell? ⟨w.heap.size + 1, o, none⟩ = some v := fun o v e => by rw [← s1, b34.cell (p := ⟨w1.heap.size, o, none⟩) (by show w1.heap.size < w2.heap.size; omega)]; exact e
  have x3 : ∀ o v, w3.cell? ⟨w2.heap.size, o, none⟩ = some v → w4.cell? ⟨w.heap.size + 2, o, none⟩ = some v := fun o v e => by rw [← s2, b4.cell (p := ⟨w2.heap.size, o, none⟩) (by show w2.heap.size < w3.heap.size; omega)]; exact e
  refine ⟨x1 _ _ (by rw [h1]; simp), x1 _ _ (by rw [h1]; simp), x1 _ _ (by rw [h1]; simp), x2 _ _ (by rw [h2]; simp), x2 _ _ (by rw [h2]; simp), x3 _ _ (by rw [h3]; simp), x3 _ _ (by rw [h3]; simp), x3 _ _ (by rw [h3]; simp), x3 _ _ (by rw [h3]; simp), ?_, ?_, b14, rfl⟩
  · rw [← s3, h4]; exact there_new w3
  · rw [← s3, h4]; exact ⟨_, _, heap_alloc_new w3 _⟩
theorem drew_alloc (w : World) (o : Obj) : w.drew.alloc o = (w.alloc o).drew := rfl
theorem drew_size (w : World) : w.drew.heap.size = w.heap.size := rfl
theorem store36R {ops : Array Oper} {o : Oper} {a : Act} {K : Act → World → Prop} {R : Exit → Act → World → Prop} {E : Prop} (F : FQ) (b : Nat) (x y : Operand) (ho : o.op = .store 36 x y) (hw : Region.wanted o (yielded ops a.tmps) = true)
    (hx : a.eval x = .pointer (some ⟨b, 0, none⟩)) (hy : a.eval y = .agg #[.int .i64 (F.N : Int), .int .i64 F.Z, .slice F.wa F.wW F.wc, .int .i64 (F.R.n : Int), .slice F.R.a F.R.m F.R.c, .int .i64 (F.R.cn : Int), .int .i64 (F.R.cW : Int), .int .i64 (F.R.cL : Int), .slice F.R.a2 F.R.m2 F.R.c2, .int .i64 (F.S.n : Int), .int .i64 (F.S.W : Int), .int .i64 (F.S.L : Int), .slice F.S.a F.S.m F.S.c, .int .i64 (F.P.n : Int), .int .i64 (F.P.W : Int), .int .i64 (F.P.L : Int), .slice F.P.a F.P.m F.P.c]) (ht : u.there b 0 17)
    (k : K (a.put o.dst undef) (u.setCells b 0 [.int .i64 (F.N : Int), .int .i64 F.Z, .slice F.wa F.wW F.wc, .int .i64 (F.R.n : Int), .slice F.R.a F.R.m F.R.c, .int .i64 (F.R.cn : Int), .int .i64 (F.R.cW : Int), .int .i64 (F.R.cL : Int), .slice F.R.a2 F.R.m2 F.R.c2, .int .i64 (F.S.n : Int), .int .i64 (F.S.W : Int), .int .i64 (F.S.L : Int), .slice F.S.a F.S.m F.S.c, .int .i64 (F.P.n : Int), .int .i64 (F.P.W : Int), .int .i64 (F.P.L : Int), .slice F.P.a F.P.m F.P.c])) : if Region.wanted o (yielded ops a.tmps) = true then Oper.wp Tryz.prog o a u K R else E := by
  rw [if_pos hw]
  exact wp_store_mid 36 x y ho b 0 #[.int .i64 (F.N : Int), .int .i64 F.Z, .slice F.wa F.wW F.wc, .int .i64 (F.R.n : Int), .slice F.R.a F.R.m F.R.c, .int .i64 (F.R.cn : Int), .int .i64 (F.R.cW : Int), .int .i64 (F.R.cL : Int), .slice F.R.a2 F.R.m2 F.R.c2, .int .i64 (F.S.n : Int), .int .i64 (F.S.W : Int), .int .i64 (F.S.L : Int), .slice F.S.a F.S.m F.S.c, .int .i64 (F.P.n : Int), .int .i64 (F.P.W : Int), .int .i64 (F.P.L : Int), .slice F.P.a F.P.m F.P.c] hx hy ht (by kernel_rfl) (by kernel_rfl) k


set_option linter.unusedSimpArgs false in
set_option maxHeartbeats 4000000 in
theorem load_no (Q : LQ) (mm : List Int) (w : World) (hW : WX w mm Q.W Q.a) (hN : mm.length = Q.N) (hn : Q.N ≤ 1001) (hsy : ∀ x ∈ mm, 0 ≤ x ∧ x < Q.Z) (hz : 0 ≤ Q.Z ∧ Q.Z ≤ 65536) (hno : Q.Z < 2 ∨ ¬ Tb (mm.map (· + (-1)))) :
    Calls Tryz.prog 37 #[.agg #[.int .i64 (Q.N : Int), .int .i64 Q.Z, .slice Q.a Q.W Q.cw], .agg #[.int .i64 (Q.nb : Int), .slice Q.ma Q.mw Q.mc], .agg #[.int .i64 (Q.J.n : Int), .int .i64 (Q.J.W : Int), .int .i64 (Q.J.L : Int), .slice Q.J.a Q.J.m Q.J.c]] w fun e u => e = .returned (.tuple #[.agg #[.int .i64 0, .int .i64 0, .slice none 0 0, .int .i64 0, .slice none 0 0, .int .i64 0, .int .i64 0, .int .i64 0, .slice none 0 0, .int .i64 0, .int .i64 0, .int .i64 0, .slice none 0 0, .int .i64 0, .int .i64 0, .int .i64 0, .slice none 0 0], .int .i64 10]) ∧ Below w.heap.size w u := by
  obtain ⟨w1, hw1⟩ : ∃ w1, w1 = w.alloc (.cells #[.int .i64 (Q.N : Int), .int .i64 Q.Z, .slice Q.a Q.W Q.cw] 27) := ⟨_, rfl⟩
  obtain ⟨w2, hw2⟩ : ∃ w2, w2 = w1.alloc (.cells #[.int .i64 (Q.nb : Int), .slice Q.ma Q.mw Q.mc] 30) := ⟨_, rfl⟩
  obtain ⟨w3, hw3⟩ : ∃ w3, w3 = w2.alloc (.cells #[.int .i64 (Q.J.n : Int), .int .i64 (Q.J.W : Int), .int .i64 (Q.J.L : Int), .slice Q.J.a Q.J.m Q.J.c] 32) := ⟨_, rfl⟩
  obtain ⟨w4, hw4⟩ : ∃ w4, w4 = w3.alloc (.cells #[.int .i64 0, .int .i64 0, .slice none 0 0, .int .i64 0, .slice none 0 0, .int .i64 0, .int .i64 0, .int .i64 0, .slice none 0 0, .int .i64 0, .int .i64 0, .int .i64 0, .slice none 0 0, .int .i64 0, .int .i64 0, .int .i64 0, .slice none 0 0] 36) := ⟨_, rfl⟩
  have hL := LW.new w Q w1 w2 w3 w4 hw1 hw2 hw3 hw4
  obtain ⟨B, hB⟩ : ∃ B, w.heap.size = B := ⟨_, rfl⟩
  rw [hB] at hL
  have hs1 : w1.heap.size = B + 1 := by rw [hw1]; simp [hB]
  have hs2 : w2.heap.size = B + 2 := by rw [hw2]; simp [hs1]
  have hs3 : w3.heap.size = B + 3 := by rw [hw3]; simp [hs2]
  have hbel := hL.bel
  have hzf := fun u => fsz_any (Q.Z - 1) u
  have hli : ∀ u, LW w B Q u → Calls Tryz.prog 18 #[.agg #[.int .i64 (Q.N : Int), .int .i64 Q.Z, .slice Q.a Q.W Q.cw]] u fun e u' => ∃ v, e = .returned (.slice v Q.N Q.N) ∧ NumsAt .i64 u' v mm ∧ Below u.heap.size u u' := fun u h => by
    have := wlist_any mm Q.W Q.a Q.cw Q.Z u (hW.kept (by rw [hB]; exact h.bel))
    rwa [hN] at this
  have hmv : ∀ u v, NumsAt .i64 u v mm → Calls Tryz.prog 44 #[.slice v Q.N Q.N, .int .i64 (-1)] u fun e u' => ∃ D, e = .returned (.slice (some ⟨D, 0, none⟩) Q.N Q.N) ∧ NumsAt .i64 u' (some ⟨D, 0, none⟩) (mm.map (· + (-1))) ∧ Below u.heap.size u u' := fun u v h => (moved_any v Q.N Q.N mm (-1) u h hN (by omega) (fun x hx => by have := hsy x hx; omega) (by omega)).mono fun e u' ⟨D, h1, h2, _, h3⟩ => ⟨D, h1, h2, h3⟩
  have hlen : (mm.map (· + (-1))).length = Q.N := by rw [List.length_map, hN]
  have h64 : I64s (mm.map (· + (-1))) := fun x hx => by
    obtain ⟨y, hy, rfl⟩ := List.mem_map.1 hx
    have := hsy y hy
    show -9223372036854775808 ≤ y + -1 ∧ y + -1 ≤ 9223372036854775807
    omega
  have HL := Lib.hid hL
  clear hW hN hsy hL hbel
  have qw : IntKind.i64.wrap (Q.Z - 1) = Q.Z - 1 := IntWalk.i64_in _ (by omega)
  by_cases h2 : Q.Z < 2
  · rw [decide_eq_false (by omega)] at hzf
    have HZ := Lib.hid hzf
    clear hno hzf hli hmv hlen h64 h2 hz
    go_enter Tryz.func37, Tryz.ntmps37
    go_upto_region 1 with fail
    simp only [Nat.add_assoc, Nat.reduceAdd]
    rw [← hw1, ← hw2, ← hw3, ← hw4]
    have HB := Lib.hid hB
    clear hw1 hw2 hw3 hw4 hs1 hs2 hs3 hB
    obtain ⟨x0, x1, x2⟩ : w4.cell? ⟨B, 0, none⟩ = some (.int .i64 (Q.N : Int)) ∧ w4.cell? ⟨B, 1, none⟩ = some (.int .i64 Q.Z) ∧ w4.cell? ⟨B, 2, none⟩ = some (.slice Q.a Q.W Q.cw) := ⟨HL.out.c0, HL.out.c1, HL.out.c2⟩
    go_wp2_with fail
    (with_reducible refine (wsize_any (Q.N : Int) Q.Z (.slice Q.a Q.W Q.cw) w4).mono ?_)
    clear x0 x1 x2
    rintro e u1 ⟨rfl, hb⟩
    have H1 := Lib.hid (HL.out.kept hb)
    clear hb
    go_wp2_with fail
    (with_reducible refine (HZ.out _).mono ?_)
    rintro e u2 ⟨rfl, rfl⟩
    have HT := Lib.hid H1.out.th
    go_wp2_with (refine store36 FQN (B + 3) _ _ (by with_reducible rfl) rfl rfl rfl HT.out ?_)
    have hst := MBx.stored FQN HT.out
    refine bodyPost_ret (results_fm2 (F := FQN) (b := B + 3) (v := .int .i64 10) Tryz.results37 _ ?hp ?hq hst) ?hd ?_
    case hp => rfl
    case hq => rfl
    case hd => rfl
    exact ⟨rfl, by rw [HB.out]; exact Below.setCells' (by omega) _ 0 H1.out.bel⟩

  · have hno2 := hno.resolve_left h2
    rw [decide_eq_true (by omega)] at hzf
    have hma : ∀ u D, NumsAt .i64 u (some ⟨D, 0, none⟩) (mm.map (· + (-1))) → Calls Tryz.prog 45 #[.agg #[.int .i64 (Q.N : Int), .int .i64 Q.Z, .slice Q.a Q.W Q.cw], .slice (some ⟨D, 0, none⟩) Q.N Q.N] u fun e u' => e = .returned (.tuple #[.agg #[.int .i64 0, .int .i64 0, .slice none 0 0, .int .i64 0, .slice none 0 0, .int .i64 0, .int .i64 0, .int .i64 0, .slice none 0 0, .int .i64 0, .int .i64 0, .int .i64 0, .slice none 0 0, .int .i64 0, .int .i64 0, .int .i64 0, .slice none 0 0], .int .i64 10]) ∧ Below u.heap.size u u' :=
      fun u D h => made_no (some ⟨D, 0, none⟩) Q.N Q.N _ Q.N Q.Z Q.a Q.W Q.cw u h hlen hn h64 hno2
    have HZ := Lib.hid hzf
    have HX := Lib.hid (And.intro hli (And.intro hmv hma))
    clear hno hzf hli hmv hlen h64 h2 hz hno2 hma
    go_enter Tryz.func37, Tryz.ntmps37
    go_upto_region 1 with fail
    simp only [Nat.add_assoc, Nat.reduceAdd]
    rw [← hw1, ← hw2, ← hw3, ← hw4]
    have HB := Lib.hid hB
    clear hw1 hw2 hw3 hw4 hs1 hs2 hs3 hB
    obtain ⟨x0, x1, x2⟩ : w4.cell? ⟨B, 0, none⟩ = some (.int .i64 (Q.N : Int)) ∧ w4.cell? ⟨B, 1, none⟩ = some (.int .i64 Q.Z) ∧ w4.cell? ⟨B, 2, none⟩ = some (.slice Q.a Q.W Q.cw) := ⟨HL.out.c0, HL.out.c1, HL.out.c2⟩
    go_wp2_with fail
    (with_reducible refine (wsize_any (Q.N : Int) Q.Z (.slice Q.a Q.W Q.cw) w4).mono ?_)
    clear x0 x1 x2
    rintro e u1 ⟨rfl, hb⟩
    have H1 := Lib.hid (HL.out.kept hb)
    clear hb
    go_wp2_with fail
    (with_reducible refine (HZ.out _).mono ?_)
    rintro e u2 ⟨rfl, rfl⟩

    go_upto_region 3 with fail
    go_cut [8, 9] from 16 to 23 (fun v8 v9 wx => ∃ g, v8 = .pointer (some ⟨g, 0, none⟩) ∧ v9 = .int .i64 10 ∧ LW w B Q wx)
    case first =>
      have hA := H1.out
      try simp only [List.append_eq, List.cons_append, List.nil_append]
      refine wp_region_held_drew (S := fun w' => LW w B Q w') (by kernel_rfl) (hA.drew) (fun hHeld => ?_)
      replace hA := hA.drew
      refine wpAnyH_take (i := 0) (oi := ⟨some 17, _, _, _, _, _⟩) (v := ?_) rfl (by kernel_rfl) (by kernel_rfl) (by kernel_rfl) (fun _ _ _ h => h) (Or.inl ⟨by kernel_rfl, ?_⟩) (by assumption) ?_
      case refine_2 => (intro w hSw; have y0 := hSw.c0; have y1 := hSw.c1; have y2 := hSw.c2; go_simp; try (with_reducible rfl))
      try simp only [Act.put, List.setIfInBounds_toArray, List.set_cons_zero, List.set_cons_succ]
      refine wpAnyH_take (i := 1) (oi := ⟨some 18, _, _, _, _, _⟩) (v := ?_) rfl (by kernel_rfl) (by kernel_rfl) (by kernel_rfl) (fun _ _ _ h => h) (Or.inl ⟨by kernel_rfl, ?_⟩) (by assumption) ?_
      case refine_2 => (intro w hSw; have y0 := hSw.c0; have y1 := hSw.c1; have y2 := hSw.c2; go_simp; try (with_reducible rfl))
      try simp only [Act.put, List.setIfInBounds_toArray, List.set_cons_zero, List.set_cons_succ]
      refine wpAnyH_ready (rs := [2, 8]) (by kernel_rfl) (by simp) ?_
      refine AllReadyH.cons rfl (fun K hK => ?_) (AllReadyH.cons rfl (fun K hK => ?_) AllReadyH.nil)
      · go_simp
        (with_reducible refine (HX.out.1 _ hA).mono ?_)
        rintro e u ⟨v, rfl, hv, hb⟩
        try replace hth := there_kp hth hty.lt (Below.kp hb) (fun h => h)
        try replace hty := hty.kept hb
        replace hA := hA.kept hb
        clear hb
        clear hHeld
        refine hK.out _ _ (hA) (fun hHeld => ?_)
        clear hK K
        try simp only [Act.put, List.setIfInBounds_toArray, List.set_cons_zero, List.set_cons_succ]
        refine wpAnyH_ready (rs := [3, 8]) (by kernel_rfl) (by simp) ?_
        refine AllReadyH.cons rfl (fun K hK => ?_) (AllReadyH.cons rfl (fun K hK => ?_) AllReadyH.nil)
        · go_simp
          (with_reducible refine (HX.out.2.1 _ _ hv).mono ?_)
          rintro e u ⟨D, rfl, hD, hb⟩
          clear hv
          try replace hth := there_kp hth hty.lt (Below.kp hb) (fun h => h)
          try replace hty := hty.kept hb
          replace hA := hA.kept hb
          clear hb
          clear hHeld
          refine hK.out _ _ (hA) (fun hHeld => ?_)
          clear hK K
          try simp only [Act.put, List.setIfInBounds_toArray, List.set_cons_zero, List.set_cons_succ]
          refine wpAnyH_ready (rs := [4, 8]) (by kernel_rfl) (by simp) ?_
          refine AllReadyH.cons rfl (fun K hK => ?_) (AllReadyH.cons rfl (fun K hK => ?_) AllReadyH.nil)
          · go_simp
            (with_reducible refine (HX.out.2.2 _ _ hD).mono ?_)
            rintro e u ⟨rfl, hb⟩
            clear hD
            try replace hth := there_kp hth hty.lt (Below.kp hb) (fun h => h)
            try replace hty := hty.kept hb
            replace hA := hA.kept hb
            clear hb
            clear hHeld
            refine hK.out _ _ (hA) (fun hHeld => ?_)
            clear hK K
            try simp only [Act.put, List.setIfInBounds_toArray, List.set_cons_zero, List.set_cons_succ]
            refine wpAnyH_take (i := 5) (oi := ⟨some 16, _, _, _, _, _⟩) (v := ?_) rfl (by kernel_rfl) (by kernel_rfl) (by kernel_rfl) (fun _ _ _ h => h) (Or.inl ⟨by kernel_rfl, ?_⟩) (by assumption) ?_
            case refine_2 => (intro w hSw; go_simp; try (with_reducible rfl))
            try simp only [Act.put, List.setIfInBounds_toArray, List.set_cons_zero, List.set_cons_succ]
            refine wpAnyH_take (i := 6) (oi := ⟨some 22, _, _, _, _, _⟩) (v := ?_) rfl (by kernel_rfl) (by kernel_rfl) (by kernel_rfl) (fun _ _ _ h => h) (Or.inl ⟨by kernel_rfl, ?_⟩) (by assumption) ?_
            case refine_2 => (intro w hSw; go_simp; try (with_reducible rfl))
            try simp only [Act.put, List.setIfInBounds_toArray, List.set_cons_zero, List.set_cons_succ]
            refine wpAnyH_take (i := 7) (oi := ⟨some 23, _, _, _, _, _⟩) (v := ?_) rfl (by kernel_rfl) (by kernel_rfl) (by kernel_rfl) (fun _ _ _ h => h) (Or.inl ⟨by kernel_rfl, ?_⟩) (by assumption) ?_
            case refine_2 => (intro w hSw; go_simp; try (with_reducible rfl))
            try simp only [Act.put, List.setIfInBounds_toArray, List.set_cons_zero, List.set_cons_succ]
            refine wpAnyH_ready (rs := [8]) (by kernel_rfl) (by simp) ?_
            refine AllReadyH.cons rfl (fun K hK => ?_) AllReadyH.nil
            go_simp
            obtain ⟨hA', hth, hty, hgr⟩ := hA.born
            replace hA := hA'
            clear hA'
            try replace hv := hv.kept (al _ (.cells #[.int .i64 0, .int .i64 0, .slice none 0 0, .int .i64 0, .slice none 0 0, .int .i64 0, .int .i64 0, .int .i64 0, .slice none 0 0, .int .i64 0, .int .i64 0, .int .i64 0, .slice none 0 0, .int .i64 0, .int .i64 0, .int .i64 0, .slice none 0 0] 36))
            try replace hD := hD.kept (al _ (.cells #[.int .i64 0, .int .i64 0, .slice none 0 0, .int .i64 0, .slice none 0 0, .int .i64 0, .int .i64 0, .int .i64 0, .slice none 0 0, .int .i64 0, .int .i64 0, .int .i64 0, .slice none 0 0, .int .i64 0, .int .i64 0, .int .i64 0, .slice none 0 0] 36))
            try simp only [drew_alloc, drew_size] at hA hth hty hgr
            try simp only [drew_alloc, drew_size] at hv
            try simp only [drew_alloc, drew_size] at hD
            clear hHeld
            refine hK.out _ _ (hA) (fun hHeld => ?_)
            clear hK K
            try simp only [Act.put, List.setIfInBounds_toArray, List.set_cons_zero, List.set_cons_succ]
            refine wpAnyH_ready (rs := [9]) (by kernel_rfl) (by simp) ?_
            refine AllReadyH.cons rfl (fun K hK => ?_) AllReadyH.nil
            refine store36R FQN _ _ _ (by rfl) rfl rfl rfl hth ?_
            replace hA := hA.setF hgr FQN
            clear hth hty
            clear hHeld
            refine hK.out _ _ (hA) (fun hHeld => ?_)
            clear hK K
            try simp only [Act.put, List.setIfInBounds_toArray, List.set_cons_zero, List.set_cons_succ]
            refine wpAnyH_take (i := 10) (oi := ⟨some 9, _, _, _, _, _⟩) (v := ?_) rfl (by kernel_rfl) (by kernel_rfl) (by kernel_rfl) (fun _ _ _ h => h) (Or.inl ⟨by kernel_rfl, ?_⟩) (by assumption) ?_
            case refine_2 => (intro w hSw; go_simp; try (with_reducible rfl))
            try simp only [Act.put, List.setIfInBounds_toArray, List.set_cons_zero, List.set_cons_succ]
            refine wpAnyH_done (by kernel_rfl) ?_ _
            clear hHeld
            have HE := Lib.hid hA
            clear hA
            go_wp2
            go_meet
            exact ⟨_, rfl, rfl, HE.out⟩
          · go_simp
            obtain ⟨hA', hth, hty, hgr⟩ := hA.born
            replace hA := hA'
            clear hA'
            try replace hv := hv.kept (al _ (.cells #[.int .i64 0, .int .i64 0, .slice none 0 0, .int .i64 0, .slice none 0 0, .int .i64 0, .int .i64 0, .int .i64 0, .slice none 0 0, .int .i64 0, .int .i64 0, .int .i64 0, .slice none 0 0, .int .i64 0, .int .i64 0, .int .i64 0, .slice none 0 0] 36))
            try replace hD := hD.kept (al _ (.cells #[.int .i64 0, .int .i64 0, .slice none 0 0, .int .i64 0, .slice none 0 0, .int .i64 0, .int .i64 0, .int .i64 0, .slice none 0 0, .int .i64 0, .int .i64 0, .int .i64 0, .slice none 0 0, .int .i64 0, .int .i64 0, .int .i64 0, .slice none 0 0] 36))
            try simp only [drew_alloc, drew_size] at hA hth hty hgr
            try simp only [drew_alloc, drew_size] at hv
            try simp only [drew_alloc, drew_size] at hD
            clear hHeld
            refine hK.out _ _ (hA) (fun hHeld => ?_)
            clear hK K
            try simp only [Act.put, List.setIfInBounds_toArray, List.set_cons_zero, List.set_cons_succ]
            refine wpAnyH_ready (rs := [4]) (by kernel_rfl) (by simp) ?_
            refine AllReadyH.cons rfl (fun K hK => ?_) AllReadyH.nil
            go_simp
            (with_reducible refine (HX.out.2.2 _ _ hD).mono ?_)
            rintro e u ⟨rfl, hb⟩
            clear hD
            try replace hth := there_kp hth hty.lt (Below.kp hb) (fun h => h)
            try replace hty := hty.kept hb
            replace hA := hA.kept hb
            clear hb
            clear hHeld
            refine hK.out _ _ (hA) (fun hHeld => ?_)
            clear hK K
            try simp only [Act.put, List.setIfInBounds_toArray, List.set_cons_zero, List.set_cons_succ]
            refine wpAnyH_take (i := 5) (oi := ⟨some 16, _, _, _, _, _⟩) (v := ?_) rfl (by kernel_rfl) (by kernel_rfl) (by kernel_rfl) (fun _ _ _ h => h) (Or.inl ⟨by kernel_rfl, ?_⟩) (by assumption) ?_
            case refine_2 => (intro w hSw; go_simp; try (with_reducible rfl))
            try simp only [Act.put, List.setIfInBounds_toArray, List.set_cons_zero, List.set_cons_succ]
            refine wpAnyH_take (i := 6) (oi := ⟨some 22, _, _, _, _, _⟩) (v := ?_) rfl (by kernel_rfl) (by kernel_rfl) (by kernel_rfl) (fun _ _ _ h => h) (Or.inl ⟨by kernel_rfl, ?_⟩) (by assumption) ?_
            case refine_2 => (intro w hSw; go_simp; try (with_reducible rfl))
            try simp only [Act.put, List.setIfInBounds_toArray, List.set_cons_zero, List.set_cons_succ]
            refine wpAnyH_take (i := 7) (oi := ⟨some 23, _, _, _, _, _⟩) (v := ?_) rfl (by kernel_rfl) (by kernel_rfl) (by kernel_rfl) (fun _ _ _ h => h) (Or.inl ⟨by kernel_rfl, ?_⟩) (by assumption) ?_
            case refine_2 => (intro w hSw; go_simp; try (with_reducible rfl))
            try simp only [Act.put, List.setIfInBounds_toArray, List.set_cons_zero, List.set_cons_succ]
            refine wpAnyH_ready (rs := [9]) (by kernel_rfl) (by simp) ?_
            refine AllReadyH.cons rfl (fun K hK => ?_) AllReadyH.nil
            refine store36R FQN _ _ _ (by rfl) rfl rfl rfl hth ?_
            replace hA := hA.setF hgr FQN
            clear hth hty
            clear hHeld
            refine hK.out _ _ (hA) (fun hHeld => ?_)
            clear hK K
            try simp only [Act.put, List.setIfInBounds_toArray, List.set_cons_zero, List.set_cons_succ]
            refine wpAnyH_take (i := 10) (oi := ⟨some 9, _, _, _, _, _⟩) (v := ?_) rfl (by kernel_rfl) (by kernel_rfl) (by kernel_rfl) (fun _ _ _ h => h) (Or.inl ⟨by kernel_rfl, ?_⟩) (by assumption) ?_
            case refine_2 => (intro w hSw; go_simp; try (with_reducible rfl))
            try simp only [Act.put, List.setIfInBounds_toArray, List.set_cons_zero, List.set_cons_succ]
            refine wpAnyH_done (by kernel_rfl) ?_ _
            clear hHeld
            have HE := Lib.hid hA
            clear hA
            go_wp2
            go_meet
            exact ⟨_, rfl, rfl, HE.out⟩
        · go_simp
          obtain ⟨hA', hth, hty, hgr⟩ := hA.born
          replace hA := hA'
          clear hA'
          try replace hv := hv.kept (al _ (.cells #[.int .i64 0, .int .i64 0, .slice none 0 0, .int .i64 0, .slice none 0 0, .int .i64 0, .int .i64 0, .int .i64 0, .slice none 0 0, .int .i64 0, .int .i64 0, .int .i64 0, .slice none 0 0, .int .i64 0, .int .i64 0, .int .i64 0, .slice none 0 0] 36))
          try replace hD := hD.kept (al _ (.cells #[.int .i64 0, .int .i64 0, .slice none 0 0, .int .i64 0, .slice none 0 0, .int .i64 0, .int .i64 0, .int .i64 0, .slice none 0 0, .int .i64 0, .int .i64 0, .int .i64 0, .slice none 0 0, .int .i64 0, .int .i64 0, .int .i64 0, .slice none 0 0] 36))
          try simp only [drew_alloc, drew_size] at hA hth hty hgr
          try simp only [drew_alloc, drew_size] at hv
          try simp only [drew_alloc, drew_size] at hD
          clear hHeld
          refine hK.out _ _ (hA) (fun hHeld => ?_)
          clear hK K
          try simp only [Act.put, List.setIfInBounds_toArray, List.set_cons_zero, List.set_cons_succ]
          refine wpAnyH_ready (rs := [3]) (by kernel_rfl) (by simp) ?_
          refine AllReadyH.cons rfl (fun K hK => ?_) AllReadyH.nil
          go_simp
          (with_reducible refine (HX.out.2.1 _ _ hv).mono ?_)
          rintro e u ⟨D, rfl, hD, hb⟩
          clear hv
          try replace hth := there_kp hth hty.lt (Below.kp hb) (fun h => h)
          try replace hty := hty.kept hb
          replace hA := hA.kept hb
          clear hb
          clear hHeld
          refine hK.out _ _ (hA) (fun hHeld => ?_)
          clear hK K
          try simp only [Act.put, List.setIfInBounds_toArray, List.set_cons_zero, List.set_cons_succ]
          refine wpAnyH_ready (rs := [4]) (by kernel_rfl) (by simp) ?_
          refine AllReadyH.cons rfl (fun K hK => ?_) AllReadyH.nil
          go_simp
          (with_reducible refine (HX.out.2.2 _ _ hD).mono ?_)
          rintro e u ⟨rfl, hb⟩
          clear hD
          try replace hth := there_kp hth hty.lt (Below.kp hb) (fun h => h)
          try replace hty := hty.kept hb
          replace hA := hA.kept hb
          clear hb
          clear hHeld
          refine hK.out _ _ (hA) (fun hHeld => ?_)
          clear hK K
          try simp only [Act.put, List.setIfInBounds_toArray, List.set_cons_zero, List.set_cons_succ]
          refine wpAnyH_take (i := 5) (oi := ⟨some 16, _, _, _, _, _⟩) (v := ?_) rfl (by kernel_rfl) (by kernel_rfl) (by kernel_rfl) (fun _ _ _ h => h) (Or.inl ⟨by kernel_rfl, ?_⟩) (by assumption) ?_
          case refine_2 => (intro w hSw; go_simp; try (with_reducible rfl))
          try simp only [Act.put, List.setIfInBounds_toArray, List.set_cons_zero, List.set_cons_succ]
          refine wpAnyH_take (i := 6) (oi := ⟨some 22, _, _, _, _, _⟩) (v := ?_) rfl (by kernel_rfl) (by kernel_rfl) (by kernel_rfl) (fun _ _ _ h => h) (Or.inl ⟨by kernel_rfl, ?_⟩) (by assumption) ?_
          case refine_2 => (intro w hSw; go_simp; try (with_reducible rfl))
          try simp only [Act.put, List.setIfInBounds_toArray, List.set_cons_zero, List.set_cons_succ]
          refine wpAnyH_take (i := 7) (oi := ⟨some 23, _, _, _, _, _⟩) (v := ?_) rfl (by kernel_rfl) (by kernel_rfl) (by kernel_rfl) (fun _ _ _ h => h) (Or.inl ⟨by kernel_rfl, ?_⟩) (by assumption) ?_
          case refine_2 => (intro w hSw; go_simp; try (with_reducible rfl))
          try simp only [Act.put, List.setIfInBounds_toArray, List.set_cons_zero, List.set_cons_succ]
          refine wpAnyH_ready (rs := [9]) (by kernel_rfl) (by simp) ?_
          refine AllReadyH.cons rfl (fun K hK => ?_) AllReadyH.nil
          refine store36R FQN _ _ _ (by rfl) rfl rfl rfl hth ?_
          replace hA := hA.setF hgr FQN
          clear hth hty
          clear hHeld
          refine hK.out _ _ (hA) (fun hHeld => ?_)
          clear hK K
          try simp only [Act.put, List.setIfInBounds_toArray, List.set_cons_zero, List.set_cons_succ]
          refine wpAnyH_take (i := 10) (oi := ⟨some 9, _, _, _, _, _⟩) (v := ?_) rfl (by kernel_rfl) (by kernel_rfl) (by kernel_rfl) (fun _ _ _ h => h) (Or.inl ⟨by kernel_rfl, ?_⟩) (by assumption) ?_
          case refine_2 => (intro w hSw; go_simp; try (with_reducible rfl))
          try simp only [Act.put, List.setIfInBounds_toArray, List.set_cons_zero, List.set_cons_succ]
          refine wpAnyH_done (by kernel_rfl) ?_ _
          clear hHeld
          have HE := Lib.hid hA
          clear hA
          go_wp2
          go_meet
          exact ⟨_, rfl, rfl, HE.out⟩
      · go_simp
        obtain ⟨hA', hth, hty, hgr⟩ := hA.born
        replace hA := hA'
        clear hA'
        try replace hv := hv.kept (al _ (.cells #[.int .i64 0, .int .i64 0, .slice none 0 0, .int .i64 0, .slice none 0 0, .int .i64 0, .int .i64 0, .int .i64 0, .slice none 0 0, .int .i64 0, .int .i64 0, .int .i64 0, .slice none 0 0, .int .i64 0, .int .i64 0, .int .i64 0, .slice none 0 0] 36))
        try replace hD := hD.kept (al _ (.cells #[.int .i64 0, .int .i64 0, .slice none 0 0, .int .i64 0, .slice none 0 0, .int .i64 0, .int .i64 0, .int .i64 0, .slice none 0 0, .int .i64 0, .int .i64 0, .int .i64 0, .slice none 0 0, .int .i64 0, .int .i64 0, .int .i64 0, .slice none 0 0] 36))
        try simp only [drew_alloc, drew_size] at hA hth hty hgr
        try simp only [drew_alloc, drew_size] at hv
        try simp only [drew_alloc, drew_size] at hD
        clear hHeld
        refine hK.out _ _ (hA) (fun hHeld => ?_)
        clear hK K
        try simp only [Act.put, List.setIfInBounds_toArray, List.set_cons_zero, List.set_cons_succ]
        refine wpAnyH_ready (rs := [2]) (by kernel_rfl) (by simp) ?_
        refine AllReadyH.cons rfl (fun K hK => ?_) AllReadyH.nil
        go_simp
        (with_reducible refine (HX.out.1 _ hA).mono ?_)
        rintro e u ⟨v, rfl, hv, hb⟩
        try replace hth := there_kp hth hty.lt (Below.kp hb) (fun h => h)
        try replace hty := hty.kept hb
        replace hA := hA.kept hb
        clear hb
        clear hHeld
        refine hK.out _ _ (hA) (fun hHeld => ?_)
        clear hK K
        try simp only [Act.put, List.setIfInBounds_toArray, List.set_cons_zero, List.set_cons_succ]
        refine wpAnyH_ready (rs := [3]) (by kernel_rfl) (by simp) ?_
        refine AllReadyH.cons rfl (fun K hK => ?_) AllReadyH.nil
        go_simp
        (with_reducible refine (HX.out.2.1 _ _ hv).mono ?_)
        rintro e u ⟨D, rfl, hD, hb⟩
        clear hv
        try replace hth := there_kp hth hty.lt (Below.kp hb) (fun h => h)
        try replace hty := hty.kept hb
        replace hA := hA.kept hb
        clear hb
        clear hHeld
        refine hK.out _ _ (hA) (fun hHeld => ?_)
        clear hK K
        try simp only [Act.put, List.setIfInBounds_toArray, List.set_cons_zero, List.set_cons_succ]
        refine wpAnyH_ready (rs := [4]) (by kernel_rfl) (by simp) ?_
        refine AllReadyH.cons rfl (fun K hK => ?_) AllReadyH.nil
        go_simp
        (with_reducible refine (HX.out.2.2 _ _ hD).mono ?_)
        rintro e u ⟨rfl, hb⟩
        clear hD
        try replace hth := there_kp hth hty.lt (Below.kp hb) (fun h => h)
        try replace hty := hty.kept hb
        replace hA := hA.kept hb
        clear hb
        clear hHeld
        refine hK.out _ _ (hA) (fun hHeld => ?_)
        clear hK K
        try simp only [Act.put, List.setIfInBounds_toArray, List.set_cons_zero, List.set_cons_succ]
        refine wpAnyH_take (i := 5) (oi := ⟨some 16, _, _, _, _, _⟩) (v := ?_) rfl (by kernel_rfl) (by kernel_rfl) (by kernel_rfl) (fun _ _ _ h => h) (Or.inl ⟨by kernel_rfl, ?_⟩) (by assumption) ?_
        case refine_2 => (intro w hSw; go_simp; try (with_reducible rfl))
        try simp only [Act.put, List.setIfInBounds_toArray, List.set_cons_zero, List.set_cons_succ]
        refine wpAnyH_take (i := 6) (oi := ⟨some 22, _, _, _, _, _⟩) (v := ?_) rfl (by kernel_rfl) (by kernel_rfl) (by kernel_rfl) (fun _ _ _ h => h) (Or.inl ⟨by kernel_rfl, ?_⟩) (by assumption) ?_
        case refine_2 => (intro w hSw; go_simp; try (with_reducible rfl))
        try simp only [Act.put, List.setIfInBounds_toArray, List.set_cons_zero, List.set_cons_succ]
        refine wpAnyH_take (i := 7) (oi := ⟨some 23, _, _, _, _, _⟩) (v := ?_) rfl (by kernel_rfl) (by kernel_rfl) (by kernel_rfl) (fun _ _ _ h => h) (Or.inl ⟨by kernel_rfl, ?_⟩) (by assumption) ?_
        case refine_2 => (intro w hSw; go_simp; try (with_reducible rfl))
        try simp only [Act.put, List.setIfInBounds_toArray, List.set_cons_zero, List.set_cons_succ]
        refine wpAnyH_ready (rs := [9]) (by kernel_rfl) (by simp) ?_
        refine AllReadyH.cons rfl (fun K hK => ?_) AllReadyH.nil
        refine store36R FQN _ _ _ (by rfl) rfl rfl rfl hth ?_
        replace hA := hA.setF hgr FQN
        clear hth hty
        clear hHeld
        refine hK.out _ _ (hA) (fun hHeld => ?_)
        clear hK K
        try simp only [Act.put, List.setIfInBounds_toArray, List.set_cons_zero, List.set_cons_succ]
        refine wpAnyH_take (i := 10) (oi := ⟨some 9, _, _, _, _, _⟩) (v := ?_) rfl (by kernel_rfl) (by kernel_rfl) (by kernel_rfl) (fun _ _ _ h => h) (Or.inl ⟨by kernel_rfl, ?_⟩) (by assumption) ?_
        case refine_2 => (intro w hSw; go_simp; try (with_reducible rfl))
        try simp only [Act.put, List.setIfInBounds_toArray, List.set_cons_zero, List.set_cons_succ]
        refine wpAnyH_done (by kernel_rfl) ?_ _
        clear hHeld
        have HE := Lib.hid hA
        clear hA
        go_wp2
        go_meet
        exact ⟨_, rfl, rfl, HE.out⟩
    case rest =>
      obtain ⟨g, rfl, rfl, hA⟩ := hcut
      go_upto_region 4 with fail
      try simp only [List.append_eq, List.cons_append, List.nil_append]
      refine wp_region_held_drew (S := fun w' => LW w B Q w') (by kernel_rfl) (hA.drew) (fun hHeld => ?_)
      replace hA := hA.drew
      refine wpAnyH_take (i := 0) (oi := ⟨some 24, _, _, _, _, _⟩) (v := ?_) rfl (by kernel_rfl) (by kernel_rfl) (by kernel_rfl) (fun _ _ _ h => h) (Or.inl ⟨by kernel_rfl, ?_⟩) (by assumption) ?_
      case refine_2 => (intro w hSw; go_simp; try (with_reducible rfl))
      try simp only [Act.put, List.setIfInBounds_toArray, List.set_cons_zero, List.set_cons_succ]
      refine wpAnyH_take (i := 1) (oi := ⟨some 25, _, _, _, _, _⟩) (v := ?_) rfl (by kernel_rfl) (by kernel_rfl) (by kernel_rfl) (fun _ _ _ h => h) (Or.inl ⟨by kernel_rfl, ?_⟩) (by assumption) ?_
      case refine_2 => (intro w hSw; go_simp; try (with_reducible rfl))
      try simp only [Act.put, List.setIfInBounds_toArray, List.set_cons_zero, List.set_cons_succ]
      refine wpAnyH_take (i := 2) (oi := ⟨some 26, _, _, _, _, _⟩) (v := ?_) rfl (by kernel_rfl) (by kernel_rfl) (by kernel_rfl) (fun _ _ _ h => h) (Or.inl ⟨by kernel_rfl, ?_⟩) (by assumption) ?_
      case refine_2 => (intro w hSw; go_simp; try (with_reducible rfl))
      try simp only [Act.put, List.setIfInBounds_toArray, List.set_cons_zero, List.set_cons_succ]
      refine wpAnyH_take (i := 3) (oi := ⟨some 27, _, _, _, _, _⟩) (v := undef) rfl (by kernel_rfl) (by kernel_rfl) (by kernel_rfl) (fun _ _ _ h => h) (Or.inr ⟨by kernel_rfl, rfl⟩) (by assumption) ?_
      try simp only [Act.put, List.setIfInBounds_toArray, List.set_cons_zero, List.set_cons_succ]
      refine wpAnyH_take (i := 4) (oi := ⟨some 28, _, _, _, _, _⟩) (v := undef) rfl (by kernel_rfl) (by kernel_rfl) (by kernel_rfl) (fun _ _ _ h => h) (Or.inr ⟨by kernel_rfl, rfl⟩) (by assumption) ?_
      try simp only [Act.put, List.setIfInBounds_toArray, List.set_cons_zero, List.set_cons_succ]
      refine wpAnyH_take (i := 5) (oi := ⟨some 29, _, _, _, _, _⟩) (v := undef) rfl (by kernel_rfl) (by kernel_rfl) (by kernel_rfl) (fun _ _ _ h => h) (Or.inr ⟨by kernel_rfl, rfl⟩) (by assumption) ?_
      try simp only [Act.put, List.setIfInBounds_toArray, List.set_cons_zero, List.set_cons_succ]
      refine wpAnyH_take (i := 6) (oi := ⟨some 30, _, _, _, _, _⟩) (v := undef) rfl (by kernel_rfl) (by kernel_rfl) (by kernel_rfl) (fun _ _ _ h => h) (Or.inr ⟨by kernel_rfl, rfl⟩) (by assumption) ?_
      try simp only [Act.put, List.setIfInBounds_toArray, List.set_cons_zero, List.set_cons_succ]
      refine wpAnyH_take (i := 7) (oi := ⟨some 31, _, _, _, _, _⟩) (v := undef) rfl (by kernel_rfl) (by kernel_rfl) (by kernel_rfl) (fun _ _ _ h => h) (Or.inr ⟨by kernel_rfl, rfl⟩) (by assumption) ?_
      try simp only [Act.put, List.setIfInBounds_toArray, List.set_cons_zero, List.set_cons_succ]
      refine wpAnyH_take (i := 8) (oi := ⟨some 32, _, _, _, _, _⟩) (v := ?_) rfl (by kernel_rfl) (by kernel_rfl) (by kernel_rfl) (fun _ _ _ h => h) (Or.inl ⟨by kernel_rfl, ?_⟩) (by assumption) ?_
      case refine_2 => (intro w hSw; go_simp; try (with_reducible rfl))
      try simp only [Act.put, List.setIfInBounds_toArray, List.set_cons_zero, List.set_cons_succ]
      refine wpAnyH_take (i := 9) (oi := ⟨some 33, _, _, _, _, _⟩) (v := ?_) rfl (by kernel_rfl) (by kernel_rfl) (by kernel_rfl) (fun _ _ _ h => h) (Or.inl ⟨by kernel_rfl, ?_⟩) (by assumption) ?_
      case refine_2 => (intro w hSw; go_simp; try (with_reducible rfl))
      try simp only [Act.put, List.setIfInBounds_toArray, List.set_cons_zero, List.set_cons_succ]
      refine wpAnyH_take (i := 10) (oi := ⟨some 34, _, _, _, _, _⟩) (v := undef) rfl (by kernel_rfl) (by kernel_rfl) (by kernel_rfl) (fun _ _ _ h => h) (Or.inr ⟨by kernel_rfl, rfl⟩) (by assumption) ?_
      try simp only [Act.put, List.setIfInBounds_toArray, List.set_cons_zero, List.set_cons_succ]
      refine wpAnyH_take (i := 11) (oi := ⟨some 35, _, _, _, _, _⟩) (v := undef) rfl (by kernel_rfl) (by kernel_rfl) (by kernel_rfl) (fun _ _ _ h => h) (Or.inr ⟨by kernel_rfl, rfl⟩) (by assumption) ?_
      try simp only [Act.put, List.setIfInBounds_toArray, List.set_cons_zero, List.set_cons_succ]
      refine wpAnyH_take (i := 12) (oi := ⟨some 36, _, _, _, _, _⟩) (v := undef) rfl (by kernel_rfl) (by kernel_rfl) (by kernel_rfl) (fun _ _ _ h => h) (Or.inr ⟨by kernel_rfl, rfl⟩) (by assumption) ?_
      try simp only [Act.put, List.setIfInBounds_toArray, List.set_cons_zero, List.set_cons_succ]
      refine wpAnyH_take (i := 13) (oi := ⟨some 37, _, _, _, _, _⟩) (v := undef) rfl (by kernel_rfl) (by kernel_rfl) (by kernel_rfl) (fun _ _ _ h => h) (Or.inr ⟨by kernel_rfl, rfl⟩) (by assumption) ?_
      try simp only [Act.put, List.setIfInBounds_toArray, List.set_cons_zero, List.set_cons_succ]
      refine wpAnyH_take (i := 14) (oi := ⟨some 38, _, _, _, _, _⟩) (v := undef) rfl (by kernel_rfl) (by kernel_rfl) (by kernel_rfl) (fun _ _ _ h => h) (Or.inr ⟨by kernel_rfl, rfl⟩) (by assumption) ?_
      try simp only [Act.put, List.setIfInBounds_toArray, List.set_cons_zero, List.set_cons_succ]
      refine wpAnyH_take (i := 15) (oi := ⟨some 39, _, _, _, _, _⟩) (v := ?_) rfl (by kernel_rfl) (by kernel_rfl) (by kernel_rfl) (fun _ _ _ h => h) (Or.inl ⟨by kernel_rfl, ?_⟩) (by assumption) ?_
      case refine_2 => (intro w hSw; go_simp; try (with_reducible rfl))
      try simp only [Act.put, List.setIfInBounds_toArray, List.set_cons_zero, List.set_cons_succ]
      refine wpAnyH_done (by kernel_rfl) ?_ _
      clear hHeld
      have H4 := Lib.hid hA
      clear hA
      have HT := Lib.hid H4.out.th
      go_wp2_with (refine store36 FQN (B + 3) _ _ (by with_reducible rfl) rfl rfl rfl HT.out ?_)
      have hst := MBx.stored FQN HT.out
      refine bodyPost_ret (results_fm2 (F := FQN) (b := B + 3) (v := .int .i64 10) Tryz.results37 _ ?hp ?hq hst) ?hd ?_
      case hp => rfl
      case hq => rfl
      case hd => rfl
      exact ⟨rfl, by rw [HB.out]; exact Below.setCells' (by omega) _ 0 H4.out.bel⟩


/-- The same, with the row that was made in its box. -/
structure LM (w : World) (B : Nat) (Q : LQ) (g : Nat) (F : FQ) (l : List Int) (size : Nat) (u : World) : Prop where
  lw : LW w B Q u
  bx : MBx u g F
  fm : FMI u F l size
theorem LM.kept {g size : Nat} {F : FQ} {l : List Int} (h : LM w B Q g F l size u) (hb : Below u.heap.size u u') : LM w B Q g F l size u' := ⟨h.lw.kept hb, h.bx.kept hb, h.fm.kept hb⟩
theorem LM.drew {g size : Nat} {F : FQ} {l : List Int} (h : LM w B Q g F l size u) : LM w B Q g F l size u.drew := h.kept ((Below.refl _ _).drew)
/-- The samples that belong to a row, of their own width. -/
def smpOk (Q : LQ) (xs : List Int) (l : List Int) : Bool := decide (wid (mostI (smL l)).toNat = Q.J.W ∧ smL l = xs)
/-- What Load tells of the parts of a row. -/
def LoadEnd (w : World) (Q : LQ) (l : List Int) (size : Nat) (mk : List Bool) (xs : List Int) (e : Ending) (u : World) : Prop :=
  (if mkL l = mk ∧ smpOk Q xs l = true then ∃ F : FQ, e = .returned (.tuple #[.agg #[.int .i64 (F.N : Int), .int .i64 F.Z, .slice F.wa F.wW F.wc, .int .i64 (F.R.n : Int), .slice F.R.a F.R.m F.R.c, .int .i64 (F.R.cn : Int), .int .i64 (F.R.cW : Int), .int .i64 (F.R.cL : Int), .slice F.R.a2 F.R.m2 F.R.c2, .int .i64 (F.S.n : Int), .int .i64 (F.S.W : Int), .int .i64 (F.S.L : Int), .slice F.S.a F.S.m F.S.c, .int .i64 (F.P.n : Int), .int .i64 (F.P.W : Int), .int .i64 (F.P.L : Int), .slice F.P.a F.P.m F.P.c], .int .i64 0]) ∧ FMI u F l size ∧ F.wa = Q.a ∧ F.wW = Q.W else e = .returned (.tuple #[.agg #[.int .i64 0, .int .i64 0, .slice none 0 0, .int .i64 0, .slice none 0 0, .int .i64 0, .int .i64 0, .int .i64 0, .slice none 0 0, .int .i64 0, .int .i64 0, .int .i64 0, .slice none 0 0, .int .i64 0, .int .i64 0, .int .i64 0, .slice none 0 0], .int .i64 10])) ∧ Below w.heap.size w u

set_option linter.unusedSimpArgs false in
set_option maxHeartbeats 8000000 in
theorem load_row (Q : LQ) (l : List Int) (size : Nat) (mk : List Bool) (xs : List Int) (w : World) (hW : WX w (wavL l) Q.W Q.a) (hN : l.length + 1 = Q.N) (hn : Q.N ≤ 1001) (hsy : ∀ x ∈ l, 0 ≤ x ∧ x < (size : Int)) (hz1 : 1 ≤ size) (hz2 : size ≤ 65535) (hZ : Q.Z = (size : Int) + 1) (hpw : Q.Z ≤ 2 ^ Q.W)
    (hM : RowAt w (.slice Q.ma Q.mw Q.mc) mk) (hnb : mk.length = Q.nb) (hmd : MarkedSaid) (hJ : IRow w Q.J.n Q.J.W Q.J.L Q.J.a Q.J.m Q.J.c xs) :
    Calls Tryz.prog 37 #[.agg #[.int .i64 (Q.N : Int), .int .i64 Q.Z, .slice Q.a Q.W Q.cw], .agg #[.int .i64 (Q.nb : Int), .slice Q.ma Q.mw Q.mc], .agg #[.int .i64 (Q.J.n : Int), .int .i64 (Q.J.W : Int), .int .i64 (Q.J.L : Int), .slice Q.J.a Q.J.m Q.J.c]] w fun e u => LoadEnd w Q l size mk xs e u := by
  obtain ⟨w1, hw1⟩ : ∃ w1, w1 = w.alloc (.cells #[.int .i64 (Q.N : Int), .int .i64 Q.Z, .slice Q.a Q.W Q.cw] 27) := ⟨_, rfl⟩
  obtain ⟨w2, hw2⟩ : ∃ w2, w2 = w1.alloc (.cells #[.int .i64 (Q.nb : Int), .slice Q.ma Q.mw Q.mc] 30) := ⟨_, rfl⟩
  obtain ⟨w3, hw3⟩ : ∃ w3, w3 = w2.alloc (.cells #[.int .i64 (Q.J.n : Int), .int .i64 (Q.J.W : Int), .int .i64 (Q.J.L : Int), .slice Q.J.a Q.J.m Q.J.c] 32) := ⟨_, rfl⟩
  obtain ⟨w4, hw4⟩ : ∃ w4, w4 = w3.alloc (.cells #[.int .i64 0, .int .i64 0, .slice none 0 0, .int .i64 0, .slice none 0 0, .int .i64 0, .int .i64 0, .int .i64 0, .slice none 0 0, .int .i64 0, .int .i64 0, .int .i64 0, .slice none 0 0, .int .i64 0, .int .i64 0, .int .i64 0, .slice none 0 0] 36) := ⟨_, rfl⟩
  have hL := LW.new w Q w1 w2 w3 w4 hw1 hw2 hw3 hw4
  obtain ⟨B, hB⟩ : ∃ B, w.heap.size = B := ⟨_, rfl⟩
  rw [hB] at hL
  have hs1 : w1.heap.size = B + 1 := by rw [hw1]; simp [hB]
  have hs2 : w2.heap.size = B + 2 := by rw [hw2]; simp [hs1]
  have hs3 : w3.heap.size = B + 3 := by rw [hw3]; simp [hs2]
  have h64 := sy_64 hsy hz2
  have hnn := sy_nn hsy
  have hzf := fun u => fsz_any (Q.Z - 1) u
  rw [decide_eq_true (by omega)] at hzf
  have hwl : (wavL l).length = Q.N := by rw [wavL_len, hN]
  have hli : ∀ u, LW w B Q u → Calls Tryz.prog 18 #[.agg #[.int .i64 (Q.N : Int), .int .i64 Q.Z, .slice Q.a Q.W Q.cw]] u fun e u' => ∃ v, e = .returned (.slice v Q.N Q.N) ∧ NumsAt .i64 u' v (wavL l) ∧ Below u.heap.size u u' := fun u h => by
    have := wlist_any (wavL l) Q.W Q.a Q.cw Q.Z u (hW.kept (by rw [hB]; exact h.bel))
    rwa [hwl] at this
  have hwt : (wavL l).map (· + (-1)) = turnL l := by
    unfold wavL
    rw [List.map_map]
    conv => rhs; rw [← List.map_id (turnL l)]
    refine List.map_congr_left fun x _ => ?_
    show x + 1 + -1 = x
    omega
  have hmv : ∀ u v, NumsAt .i64 u v (wavL l) → Calls Tryz.prog 44 #[.slice v Q.N Q.N, .int .i64 (-1)] u fun e u' => ∃ D, e = .returned (.slice (some ⟨D, 0, none⟩) Q.N Q.N) ∧ NumsAt .i64 u' (some ⟨D, 0, none⟩) (turnL l) ∧ Below u.heap.size u u' := fun u v h => (moved_any v Q.N Q.N (wavL l) (-1) u h hwl (by omega) (fun x hx => by have := wav_in hsy x hx; omega) (by omega)).mono fun e u' ⟨D, h1, h2, _, h3⟩ => ⟨D, h1, by rw [← hwt]; exact h2, h3⟩
  have hma : ∀ u D, NumsAt .i64 u (some ⟨D, 0, none⟩) (turnL l) → LW w B Q u → Calls Tryz.prog 45 #[.agg #[.int .i64 (Q.N : Int), .int .i64 Q.Z, .slice Q.a Q.W Q.cw], .slice (some ⟨D, 0, none⟩) Q.N Q.N] u fun e u' => ∃ F : FQ, e = .returned (.tuple #[.agg #[.int .i64 (F.N : Int), .int .i64 F.Z, .slice F.wa F.wW F.wc, .int .i64 (F.R.n : Int), .slice F.R.a F.R.m F.R.c, .int .i64 (F.R.cn : Int), .int .i64 (F.R.cW : Int), .int .i64 (F.R.cL : Int), .slice F.R.a2 F.R.m2 F.R.c2, .int .i64 (F.S.n : Int), .int .i64 (F.S.W : Int), .int .i64 (F.S.L : Int), .slice F.S.a F.S.m F.S.c, .int .i64 (F.P.n : Int), .int .i64 (F.P.W : Int), .int .i64 (F.P.L : Int), .slice F.P.a F.P.m F.P.c], .int .i64 0]) ∧ FMI u' F l size ∧ F.wa = Q.a ∧ F.wW = Q.W ∧ Below u.heap.size u u' :=
    fun u D h hL => made_ok hmd (some ⟨D, 0, none⟩) Q.N Q.N l size Q.N Q.Z Q.a Q.W Q.cw u h hN hn hsy hz2 (by omega) hZ hpw (hW.kept (by rw [hB]; exact hL.bel))
  have hsa : ∀ u g F, LM w B Q g F l size u → Calls Tryz.prog 63 #[.agg #[.int .i64 (F.R.n : Int), .slice F.R.a F.R.m F.R.c], .agg #[.int .i64 (Q.nb : Int), .slice Q.ma Q.mw Q.mc]] u fun e u' => e = .returned (.bool (decide (mkL l = mk))) ∧ Below u.heap.size u u' := fun u g F h => by
    have := same_any F.R.a Q.ma F.R.m F.R.c Q.mw Q.mc (mkL l) mk u h.fm.rk.row (hM.kept (by rw [hB]; exact h.lw.bel)) (by rw [mkL_len]; omega)
    rwa [h.fm.rk.len, hnb] at this
  have hsi : ∀ u g F, LM w B Q g F l size u → Calls Tryz.prog 64 #[.agg #[.int .i64 (F.S.n : Int), .int .i64 (F.S.W : Int), .int .i64 (F.S.L : Int), .slice F.S.a F.S.m F.S.c], .agg #[.int .i64 (Q.J.n : Int), .int .i64 (Q.J.W : Int), .int .i64 (Q.J.L : Int), .slice Q.J.a Q.J.m Q.J.c]] u fun e u' => e = .returned (.bool (smpOk Q xs l)) ∧ Below u.heap.size u u' := fun u g F h => by
    have := isame_any F.S.n F.S.W F.S.L Q.J.n Q.J.W Q.J.L F.S.a Q.J.a F.S.m F.S.c Q.J.m Q.J.c (smL l) xs u h.fm.smp (hJ.kept (by rw [hB]; exact h.lw.bel))
    rw [h.fm.sW] at this
    rw [← h.fm.sW] at this
    unfold smpOk
    rw [← h.fm.sW]
    exact this
  have hold : 0 < Q.W → ∀ p, Q.a = some p → p.block < B := fun h p e => by rw [← hB]; exact hW.old h p e
  have HL := Lib.hid hL
  have qw : IntKind.i64.wrap (Q.Z - 1) = Q.Z - 1 := IntWalk.i64_in _ (by omega)
  have HZ := Lib.hid hzf
  have HX := Lib.hid (And.intro hli (And.intro hmv (And.intro hma (And.intro hsa (And.intro hsi hold)))))
  clear hW hN hsy hL hzf hli hmv hma hsa hsi hold hwt hwl hZ hpw hM hnb hJ h64 hnn hz1 hz2 hn
  go_enter Tryz.func37, Tryz.ntmps37
  go_upto_region 1 with fail
  simp only [Nat.add_assoc, Nat.reduceAdd]
  rw [← hw1, ← hw2, ← hw3, ← hw4]
  have HB := Lib.hid hB
  clear hw1 hw2 hw3 hw4 hs1 hs2 hs3 hB
  obtain ⟨x0, x1, x2⟩ : w4.cell? ⟨B, 0, none⟩ = some (.int .i64 (Q.N : Int)) ∧ w4.cell? ⟨B, 1, none⟩ = some (.int .i64 Q.Z) ∧ w4.cell? ⟨B, 2, none⟩ = some (.slice Q.a Q.W Q.cw) := ⟨HL.out.c0, HL.out.c1, HL.out.c2⟩
  go_wp2_with fail
  (with_reducible refine (wsize_any (Q.N : Int) Q.Z (.slice Q.a Q.W Q.cw) w4).mono ?_)
  clear x0 x1 x2
  rintro e u1 ⟨rfl, hb⟩
  have H1 := Lib.hid (HL.out.kept hb)
  clear hb
  go_wp2_with fail
  (with_reducible refine (HZ.out _).mono ?_)
  rintro e u2 ⟨rfl, rfl⟩

  go_upto_region 3 with fail
  go_cut [8, 9] from 16 to 23 (fun v8 v9 wx => ∃ (g : Nat) (F : FQ), v8 = .pointer (some ⟨g, 0, none⟩) ∧ v9 = .int .i64 0 ∧ LM w B Q g F l size wx ∧ F.wa = Q.a ∧ F.wW = Q.W)
  case first =>
    have hA := H1.out
    try simp only [List.append_eq, List.cons_append, List.nil_append]
    refine wp_region_held_drew (S := fun w' => LW w B Q w') (by kernel_rfl) (hA.drew) (fun hHeld => ?_)
    replace hA := hA.drew
    refine wpAnyH_take (i := 0) (oi := ⟨some 17, _, _, _, _, _⟩) (v := ?_) rfl (by kernel_rfl) (by kernel_rfl) (by kernel_rfl) (fun _ _ _ h => h) (Or.inl ⟨by kernel_rfl, ?_⟩) (by assumption) ?_
    case refine_2 => (intro w hSw; have y0 := hSw.c0; have y1 := hSw.c1; have y2 := hSw.c2; go_simp; try (with_reducible rfl))
    try simp only [Act.put, List.setIfInBounds_toArray, List.set_cons_zero, List.set_cons_succ]
    refine wpAnyH_take (i := 1) (oi := ⟨some 18, _, _, _, _, _⟩) (v := ?_) rfl (by kernel_rfl) (by kernel_rfl) (by kernel_rfl) (fun _ _ _ h => h) (Or.inl ⟨by kernel_rfl, ?_⟩) (by assumption) ?_
    case refine_2 => (intro w hSw; have y0 := hSw.c0; have y1 := hSw.c1; have y2 := hSw.c2; go_simp; try (with_reducible rfl))
    try simp only [Act.put, List.setIfInBounds_toArray, List.set_cons_zero, List.set_cons_succ]
    refine wpAnyH_ready (rs := [2, 8]) (by kernel_rfl) (by simp) ?_
    refine AllReadyH.cons rfl (fun K hK => ?_) (AllReadyH.cons rfl (fun K hK => ?_) AllReadyH.nil)
    · go_simp
      (with_reducible refine (HX.out.1 _ hA).mono ?_)
      rintro e u ⟨v, rfl, hv, hb⟩
      try replace hth := there_kp hth hty.lt (Below.kp hb) (fun h => h)
      try replace hty := hty.kept hb
      replace hA := hA.kept hb
      clear hb
      clear hHeld
      refine hK.out _ _ (hA) (fun hHeld => ?_)
      clear hK K
      try simp only [Act.put, List.setIfInBounds_toArray, List.set_cons_zero, List.set_cons_succ]
      refine wpAnyH_ready (rs := [3, 8]) (by kernel_rfl) (by simp) ?_
      refine AllReadyH.cons rfl (fun K hK => ?_) (AllReadyH.cons rfl (fun K hK => ?_) AllReadyH.nil)
      · go_simp
        (with_reducible refine (HX.out.2.1 _ _ hv).mono ?_)
        rintro e u ⟨D, rfl, hD, hb⟩
        clear hv
        try replace hth := there_kp hth hty.lt (Below.kp hb) (fun h => h)
        try replace hty := hty.kept hb
        replace hA := hA.kept hb
        clear hb
        clear hHeld
        refine hK.out _ _ (hA) (fun hHeld => ?_)
        clear hK K
        try simp only [Act.put, List.setIfInBounds_toArray, List.set_cons_zero, List.set_cons_succ]
        refine wpAnyH_ready (rs := [4, 8]) (by kernel_rfl) (by simp) ?_
        refine AllReadyH.cons rfl (fun K hK => ?_) (AllReadyH.cons rfl (fun K hK => ?_) AllReadyH.nil)
        · go_simp
          (with_reducible refine (HX.out.2.2.1 _ _ hD hA).mono ?_)
          rintro e u ⟨F, rfl, hF, hFa, hFW, hb⟩
          have HFW := Lib.hid (And.intro hFa hFW)
          clear hD hFa hFW
          try replace hth := there_kp hth hty.lt (Below.kp hb) (fun h => h)
          try replace hty := hty.kept hb
          replace hA := hA.kept hb
          clear hb
          clear hHeld
          refine hK.out _ _ (hA) (fun hHeld => ?_)
          clear hK K
          try simp only [Act.put, List.setIfInBounds_toArray, List.set_cons_zero, List.set_cons_succ]
          refine wpAnyH_take (i := 5) (oi := ⟨some 16, _, _, _, _, _⟩) (v := ?_) rfl (by kernel_rfl) (by kernel_rfl) (by kernel_rfl) (fun _ _ _ h => h) (Or.inl ⟨by kernel_rfl, ?_⟩) (by assumption) ?_
          case refine_2 => (intro w hSw; go_simp; try (with_reducible rfl))
          try simp only [Act.put, List.setIfInBounds_toArray, List.set_cons_zero, List.set_cons_succ]
          refine wpAnyH_take (i := 6) (oi := ⟨some 22, _, _, _, _, _⟩) (v := ?_) rfl (by kernel_rfl) (by kernel_rfl) (by kernel_rfl) (fun _ _ _ h => h) (Or.inl ⟨by kernel_rfl, ?_⟩) (by assumption) ?_
          case refine_2 => (intro w hSw; go_simp; try (with_reducible rfl))
          try simp only [Act.put, List.setIfInBounds_toArray, List.set_cons_zero, List.set_cons_succ]
          refine wpAnyH_take (i := 7) (oi := ⟨some 23, _, _, _, _, _⟩) (v := ?_) rfl (by kernel_rfl) (by kernel_rfl) (by kernel_rfl) (fun _ _ _ h => h) (Or.inl ⟨by kernel_rfl, ?_⟩) (by assumption) ?_
          case refine_2 => (intro w hSw; go_simp; try (with_reducible rfl))
          try simp only [Act.put, List.setIfInBounds_toArray, List.set_cons_zero, List.set_cons_succ]
          refine wpAnyH_ready (rs := [8]) (by kernel_rfl) (by simp) ?_
          refine AllReadyH.cons rfl (fun K hK => ?_) AllReadyH.nil
          go_simp
          obtain ⟨hA', hth, hty, hgr⟩ := hA.born
          replace hA := hA'
          clear hA'
          try replace hv := hv.kept (al _ (.cells #[.int .i64 0, .int .i64 0, .slice none 0 0, .int .i64 0, .slice none 0 0, .int .i64 0, .int .i64 0, .int .i64 0, .slice none 0 0, .int .i64 0, .int .i64 0, .int .i64 0, .slice none 0 0, .int .i64 0, .int .i64 0, .int .i64 0, .slice none 0 0] 36))
          try replace hD := hD.kept (al _ (.cells #[.int .i64 0, .int .i64 0, .slice none 0 0, .int .i64 0, .slice none 0 0, .int .i64 0, .int .i64 0, .int .i64 0, .slice none 0 0, .int .i64 0, .int .i64 0, .int .i64 0, .slice none 0 0, .int .i64 0, .int .i64 0, .int .i64 0, .slice none 0 0] 36))
          try simp only [drew_alloc, drew_size] at hA hth hty hgr
          try simp only [drew_alloc, drew_size] at hv
          try simp only [drew_alloc, drew_size] at hD
          try replace hF := hF.kept (al _ (.cells #[.int .i64 0, .int .i64 0, .slice none 0 0, .int .i64 0, .slice none 0 0, .int .i64 0, .int .i64 0, .int .i64 0, .slice none 0 0, .int .i64 0, .int .i64 0, .int .i64 0, .slice none 0 0, .int .i64 0, .int .i64 0, .int .i64 0, .slice none 0 0] 36))
          try simp only [drew_alloc, drew_size] at hF
          clear hHeld
          refine hK.out _ _ (hA) (fun hHeld => ?_)
          clear hK K
          try simp only [Act.put, List.setIfInBounds_toArray, List.set_cons_zero, List.set_cons_succ]
          refine wpAnyH_ready (rs := [9]) (by kernel_rfl) (by simp) ?_
          refine AllReadyH.cons rfl (fun K hK => ?_) AllReadyH.nil
          refine store36R F _ _ _ (by rfl) rfl rfl rfl hth ?_
          have hbx := MBx.stored F hth
          replace hA := hA.setF hgr F
          have hF2 := hF.box hty F (fun h p e ek => by have := HX.out.2.2.2.2.2 (by rw [← HFW.out.2]; exact h) p (by rw [← HFW.out.1]; exact e); omega)
          clear hth hty hF
          clear hHeld
          refine hK.out _ _ (hA) (fun hHeld => ?_)
          clear hK K
          try simp only [Act.put, List.setIfInBounds_toArray, List.set_cons_zero, List.set_cons_succ]
          refine wpAnyH_take (i := 10) (oi := ⟨some 9, _, _, _, _, _⟩) (v := ?_) rfl (by kernel_rfl) (by kernel_rfl) (by kernel_rfl) (fun _ _ _ h => h) (Or.inl ⟨by kernel_rfl, ?_⟩) (by assumption) ?_
          case refine_2 => (intro w hSw; go_simp; try (with_reducible rfl))
          try simp only [Act.put, List.setIfInBounds_toArray, List.set_cons_zero, List.set_cons_succ]
          refine wpAnyH_done (by kernel_rfl) ?_ _
          clear hHeld
          have HE := Lib.hid (And.intro (show LM w B Q _ F l size _ from ⟨hA, hbx, hF2⟩) HFW.out)
          clear hA hbx hF2 HFW hgr
          go_wp2
          go_meet
          exact ⟨_, F, rfl, rfl, HE.out.1, HE.out.2.1, HE.out.2.2⟩
        · go_simp
          obtain ⟨hA', hth, hty, hgr⟩ := hA.born
          replace hA := hA'
          clear hA'
          try replace hv := hv.kept (al _ (.cells #[.int .i64 0, .int .i64 0, .slice none 0 0, .int .i64 0, .slice none 0 0, .int .i64 0, .int .i64 0, .int .i64 0, .slice none 0 0, .int .i64 0, .int .i64 0, .int .i64 0, .slice none 0 0, .int .i64 0, .int .i64 0, .int .i64 0, .slice none 0 0] 36))
          try replace hD := hD.kept (al _ (.cells #[.int .i64 0, .int .i64 0, .slice none 0 0, .int .i64 0, .slice none 0 0, .int .i64 0, .int .i64 0, .int .i64 0, .slice none 0 0, .int .i64 0, .int .i64 0, .int .i64 0, .slice none 0 0, .int .i64 0, .int .i64 0, .int .i64 0, .slice none 0 0] 36))
          try simp only [drew_alloc, drew_size] at hA hth hty hgr
          try simp only [drew_alloc, drew_size] at hv
          try simp only [drew_alloc, drew_size] at hD
          try replace hF := hF.kept (al _ (.cells #[.int .i64 0, .int .i64 0, .slice none 0 0, .int .i64 0, .slice none 0 0, .int .i64 0, .int .i64 0, .int .i64 0, .slice none 0 0, .int .i64 0, .int .i64 0, .int .i64 0, .slice none 0 0, .int .i64 0, .int .i64 0, .int .i64 0, .slice none 0 0] 36))
          try simp only [drew_alloc, drew_size] at hF
          clear hHeld
          refine hK.out _ _ (hA) (fun hHeld => ?_)
          clear hK K
          try simp only [Act.put, List.setIfInBounds_toArray, List.set_cons_zero, List.set_cons_succ]
          refine wpAnyH_ready (rs := [4]) (by kernel_rfl) (by simp) ?_
          refine AllReadyH.cons rfl (fun K hK => ?_) AllReadyH.nil
          go_simp
          (with_reducible refine (HX.out.2.2.1 _ _ hD hA).mono ?_)
          rintro e u ⟨F, rfl, hF, hFa, hFW, hb⟩
          have HFW := Lib.hid (And.intro hFa hFW)
          clear hD hFa hFW
          try replace hth := there_kp hth hty.lt (Below.kp hb) (fun h => h)
          try replace hty := hty.kept hb
          replace hA := hA.kept hb
          clear hb
          clear hHeld
          refine hK.out _ _ (hA) (fun hHeld => ?_)
          clear hK K
          try simp only [Act.put, List.setIfInBounds_toArray, List.set_cons_zero, List.set_cons_succ]
          refine wpAnyH_take (i := 5) (oi := ⟨some 16, _, _, _, _, _⟩) (v := ?_) rfl (by kernel_rfl) (by kernel_rfl) (by kernel_rfl) (fun _ _ _ h => h) (Or.inl ⟨by kernel_rfl, ?_⟩) (by assumption) ?_
          case refine_2 => (intro w hSw; go_simp; try (with_reducible rfl))
          try simp only [Act.put, List.setIfInBounds_toArray, List.set_cons_zero, List.set_cons_succ]
          refine wpAnyH_take (i := 6) (oi := ⟨some 22, _, _, _, _, _⟩) (v := ?_) rfl (by kernel_rfl) (by kernel_rfl) (by kernel_rfl) (fun _ _ _ h => h) (Or.inl ⟨by kernel_rfl, ?_⟩) (by assumption) ?_
          case refine_2 => (intro w hSw; go_simp; try (with_reducible rfl))
          try simp only [Act.put, List.setIfInBounds_toArray, List.set_cons_zero, List.set_cons_succ]
          refine wpAnyH_take (i := 7) (oi := ⟨some 23, _, _, _, _, _⟩) (v := ?_) rfl (by kernel_rfl) (by kernel_rfl) (by kernel_rfl) (fun _ _ _ h => h) (Or.inl ⟨by kernel_rfl, ?_⟩) (by assumption) ?_
          case refine_2 => (intro w hSw; go_simp; try (with_reducible rfl))
          try simp only [Act.put, List.setIfInBounds_toArray, List.set_cons_zero, List.set_cons_succ]
          refine wpAnyH_ready (rs := [9]) (by kernel_rfl) (by simp) ?_
          refine AllReadyH.cons rfl (fun K hK => ?_) AllReadyH.nil
          refine store36R F _ _ _ (by rfl) rfl rfl rfl hth ?_
          have hbx := MBx.stored F hth
          replace hA := hA.setF hgr F
          have hF2 := hF.box hty F (fun h p e ek => by have := HX.out.2.2.2.2.2 (by rw [← HFW.out.2]; exact h) p (by rw [← HFW.out.1]; exact e); omega)
          clear hth hty hF
          clear hHeld
          refine hK.out _ _ (hA) (fun hHeld => ?_)
          clear hK K
          try simp only [Act.put, List.setIfInBounds_toArray, List.set_cons_zero, List.set_cons_succ]
          refine wpAnyH_take (i := 10) (oi := ⟨some 9, _, _, _, _, _⟩) (v := ?_) rfl (by kernel_rfl) (by kernel_rfl) (by kernel_rfl) (fun _ _ _ h => h) (Or.inl ⟨by kernel_rfl, ?_⟩) (by assumption) ?_
          case refine_2 => (intro w hSw; go_simp; try (with_reducible rfl))
          try simp only [Act.put, List.setIfInBounds_toArray, List.set_cons_zero, List.set_cons_succ]
          refine wpAnyH_done (by kernel_rfl) ?_ _
          clear hHeld
          have HE := Lib.hid (And.intro (show LM w B Q _ F l size _ from ⟨hA, hbx, hF2⟩) HFW.out)
          clear hA hbx hF2 HFW hgr
          go_wp2
          go_meet
          exact ⟨_, F, rfl, rfl, HE.out.1, HE.out.2.1, HE.out.2.2⟩
      · go_simp
        obtain ⟨hA', hth, hty, hgr⟩ := hA.born
        replace hA := hA'
        clear hA'
        try replace hv := hv.kept (al _ (.cells #[.int .i64 0, .int .i64 0, .slice none 0 0, .int .i64 0, .slice none 0 0, .int .i64 0, .int .i64 0, .int .i64 0, .slice none 0 0, .int .i64 0, .int .i64 0, .int .i64 0, .slice none 0 0, .int .i64 0, .int .i64 0, .int .i64 0, .slice none 0 0] 36))
        try replace hD := hD.kept (al _ (.cells #[.int .i64 0, .int .i64 0, .slice none 0 0, .int .i64 0, .slice none 0 0, .int .i64 0, .int .i64 0, .int .i64 0, .slice none 0 0, .int .i64 0, .int .i64 0, .int .i64 0, .slice none 0 0, .int .i64 0, .int .i64 0, .int .i64 0, .slice none 0 0] 36))
        try simp only [drew_alloc, drew_size] at hA hth hty hgr
        try simp only [drew_alloc, drew_size] at hv
        try simp only [drew_alloc, drew_size] at hD
        try replace hF := hF.kept (al _ (.cells #[.int .i64 0, .int .i64 0, .slice none 0 0, .int .i64 0, .slice none 0 0, .int .i64 0, .int .i64 0, .int .i64 0, .slice none 0 0, .int .i64 0, .int .i64 0, .int .i64 0, .slice none 0 0, .int .i64 0, .int .i64 0, .int .i64 0, .slice none 0 0] 36))
        try simp only [drew_alloc, drew_size] at hF
        clear hHeld
        refine hK.out _ _ (hA) (fun hHeld => ?_)
        clear hK K
        try simp only [Act.put, List.setIfInBounds_toArray, List.set_cons_zero, List.set_cons_succ]
        refine wpAnyH_ready (rs := [3]) (by kernel_rfl) (by simp) ?_
        refine AllReadyH.cons rfl (fun K hK => ?_) AllReadyH.nil
        go_simp
        (with_reducible refine (HX.out.2.1 _ _ hv).mono ?_)
        rintro e u ⟨D, rfl, hD, hb⟩
        clear hv
        try replace hth := there_kp hth hty.lt (Below.kp hb) (fun h => h)
        try replace hty := hty.kept hb
        replace hA := hA.kept hb
        clear hb
        clear hHeld
        refine hK.out _ _ (hA) (fun hHeld => ?_)
        clear hK K
        try simp only [Act.put, List.setIfInBounds_toArray, List.set_cons_zero, List.set_cons_succ]
        refine wpAnyH_ready (rs := [4]) (by kernel_rfl) (by simp) ?_
        refine AllReadyH.cons rfl (fun K hK => ?_) AllReadyH.nil
        go_simp
        (with_reducible refine (HX.out.2.2.1 _ _ hD hA).mono ?_)
        rintro e u ⟨F, rfl, hF, hFa, hFW, hb⟩
        have HFW := Lib.hid (And.intro hFa hFW)
        clear hD hFa hFW
        try replace hth := there_kp hth hty.lt (Below.kp hb) (fun h => h)
        try replace hty := hty.kept hb
        replace hA := hA.kept hb
        clear hb
        clear hHeld
        refine hK.out _ _ (hA) (fun hHeld => ?_)
        clear hK K
        try simp only [Act.put, List.setIfInBounds_toArray, List.set_cons_zero, List.set_cons_succ]
        refine wpAnyH_take (i := 5) (oi := ⟨some 16, _, _, _, _, _⟩) (v := ?_) rfl (by kernel_rfl) (by kernel_rfl) (by kernel_rfl) (fun _ _ _ h => h) (Or.inl ⟨by kernel_rfl, ?_⟩) (by assumption) ?_
        case refine_2 => (intro w hSw; go_simp; try (with_reducible rfl))
        try simp only [Act.put, List.setIfInBounds_toArray, List.set_cons_zero, List.set_cons_succ]
        refine wpAnyH_take (i := 6) (oi := ⟨some 22, _, _, _, _, _⟩) (v := ?_) rfl (by kernel_rfl) (by kernel_rfl) (by kernel_rfl) (fun _ _ _ h => h) (Or.inl ⟨by kernel_rfl, ?_⟩) (by assumption) ?_
        case refine_2 => (intro w hSw; go_simp; try (with_reducible rfl))
        try simp only [Act.put, List.setIfInBounds_toArray, List.set_cons_zero, List.set_cons_succ]
        refine wpAnyH_take (i := 7) (oi := ⟨some 23, _, _, _, _, _⟩) (v := ?_) rfl (by kernel_rfl) (by kernel_rfl) (by kernel_rfl) (fun _ _ _ h => h) (Or.inl ⟨by kernel_rfl, ?_⟩) (by assumption) ?_
        case refine_2 => (intro w hSw; go_simp; try (with_reducible rfl))
        try simp only [Act.put, List.setIfInBounds_toArray, List.set_cons_zero, List.set_cons_succ]
        refine wpAnyH_ready (rs := [9]) (by kernel_rfl) (by simp) ?_
        refine AllReadyH.cons rfl (fun K hK => ?_) AllReadyH.nil
        refine store36R F _ _ _ (by rfl) rfl rfl rfl hth ?_
        have hbx := MBx.stored F hth
        replace hA := hA.setF hgr F
        have hF2 := hF.box hty F (fun h p e ek => by have := HX.out.2.2.2.2.2 (by rw [← HFW.out.2]; exact h) p (by rw [← HFW.out.1]; exact e); omega)
        clear hth hty hF
        clear hHeld
        refine hK.out _ _ (hA) (fun hHeld => ?_)
        clear hK K
        try simp only [Act.put, List.setIfInBounds_toArray, List.set_cons_zero, List.set_cons_succ]
        refine wpAnyH_take (i := 10) (oi := ⟨some 9, _, _, _, _, _⟩) (v := ?_) rfl (by kernel_rfl) (by kernel_rfl) (by kernel_rfl) (fun _ _ _ h => h) (Or.inl ⟨by kernel_rfl, ?_⟩) (by assumption) ?_
        case refine_2 => (intro w hSw; go_simp; try (with_reducible rfl))
        try simp only [Act.put, List.setIfInBounds_toArray, List.set_cons_zero, List.set_cons_succ]
        refine wpAnyH_done (by kernel_rfl) ?_ _
        clear hHeld
        have HE := Lib.hid (And.intro (show LM w B Q _ F l size _ from ⟨hA, hbx, hF2⟩) HFW.out)
        clear hA hbx hF2 HFW hgr
        go_wp2
        go_meet
        exact ⟨_, F, rfl, rfl, HE.out.1, HE.out.2.1, HE.out.2.2⟩
    · go_simp
      obtain ⟨hA', hth, hty, hgr⟩ := hA.born
      replace hA := hA'
      clear hA'
      try replace hv := hv.kept (al _ (.cells #[.int .i64 0, .int .i64 0, .slice none 0 0, .int .i64 0, .slice none 0 0, .int .i64 0, .int .i64 0, .int .i64 0, .slice none 0 0, .int .i64 0, .int .i64 0, .int .i64 0, .slice none 0 0, .int .i64 0, .int .i64 0, .int .i64 0, .slice none 0 0] 36))
      try replace hD := hD.kept (al _ (.cells #[.int .i64 0, .int .i64 0, .slice none 0 0, .int .i64 0, .slice none 0 0, .int .i64 0, .int .i64 0, .int .i64 0, .slice none 0 0, .int .i64 0, .int .i64 0, .int .i64 0, .slice none 0 0, .int .i64 0, .int .i64 0, .int .i64 0, .slice none 0 0] 36))
      try simp only [drew_alloc, drew_size] at hA hth hty hgr
      try simp only [drew_alloc, drew_size] at hv
      try simp only [drew_alloc, drew_size] at hD
      try replace hF := hF.kept (al _ (.cells #[.int .i64 0, .int .i64 0, .slice none 0 0, .int .i64 0, .slice none 0 0, .int .i64 0, .int .i64 0, .int .i64 0, .slice none 0 0, .int .i64 0, .int .i64 0, .int .i64 0, .slice none 0 0, .int .i64 0, .int .i64 0, .int .i64 0, .slice none 0 0] 36))
      try simp only [drew_alloc, drew_size] at hF
      clear hHeld
      refine hK.out _ _ (hA) (fun hHeld => ?_)
      clear hK K
      try simp only [Act.put, List.setIfInBounds_toArray, List.set_cons_zero, List.set_cons_succ]
      refine wpAnyH_ready (rs := [2]) (by kernel_rfl) (by simp) ?_
      refine AllReadyH.cons rfl (fun K hK => ?_) AllReadyH.nil
      go_simp
      (with_reducible refine (HX.out.1 _ hA).mono ?_)
      rintro e u ⟨v, rfl, hv, hb⟩
      try replace hth := there_kp hth hty.lt (Below.kp hb) (fun h => h)
      try replace hty := hty.kept hb
      replace hA := hA.kept hb
      clear hb
      clear hHeld
      refine hK.out _ _ (hA) (fun hHeld => ?_)
      clear hK K
      try simp only [Act.put, List.setIfInBounds_toArray, List.set_cons_zero, List.set_cons_succ]
      refine wpAnyH_ready (rs := [3]) (by kernel_rfl) (by simp) ?_
      refine AllReadyH.cons rfl (fun K hK => ?_) AllReadyH.nil
      go_simp
      (with_reducible refine (HX.out.2.1 _ _ hv).mono ?_)
      rintro e u ⟨D, rfl, hD, hb⟩
      clear hv
      try replace hth := there_kp hth hty.lt (Below.kp hb) (fun h => h)
      try replace hty := hty.kept hb
      replace hA := hA.kept hb
      clear hb
      clear hHeld
      refine hK.out _ _ (hA) (fun hHeld => ?_)
      clear hK K
      try simp only [Act.put, List.setIfInBounds_toArray, List.set_cons_zero, List.set_cons_succ]
      refine wpAnyH_ready (rs := [4]) (by kernel_rfl) (by simp) ?_
      refine AllReadyH.cons rfl (fun K hK => ?_) AllReadyH.nil
      go_simp
      (with_reducible refine (HX.out.2.2.1 _ _ hD hA).mono ?_)
      rintro e u ⟨F, rfl, hF, hFa, hFW, hb⟩
      have HFW := Lib.hid (And.intro hFa hFW)
      clear hD hFa hFW
      try replace hth := there_kp hth hty.lt (Below.kp hb) (fun h => h)
      try replace hty := hty.kept hb
      replace hA := hA.kept hb
      clear hb
      clear hHeld
      refine hK.out _ _ (hA) (fun hHeld => ?_)
      clear hK K
      try simp only [Act.put, List.setIfInBounds_toArray, List.set_cons_zero, List.set_cons_succ]
      refine wpAnyH_take (i := 5) (oi := ⟨some 16, _, _, _, _, _⟩) (v := ?_) rfl (by kernel_rfl) (by kernel_rfl) (by kernel_rfl) (fun _ _ _ h => h) (Or.inl ⟨by kernel_rfl, ?_⟩) (by assumption) ?_
      case refine_2 => (intro w hSw; go_simp; try (with_reducible rfl))
      try simp only [Act.put, List.setIfInBounds_toArray, List.set_cons_zero, List.set_cons_succ]
      refine wpAnyH_take (i := 6) (oi := ⟨some 22, _, _, _, _, _⟩) (v := ?_) rfl (by kernel_rfl) (by kernel_rfl) (by kernel_rfl) (fun _ _ _ h => h) (Or.inl ⟨by kernel_rfl, ?_⟩) (by assumption) ?_
      case refine_2 => (intro w hSw; go_simp; try (with_reducible rfl))
      try simp only [Act.put, List.setIfInBounds_toArray, List.set_cons_zero, List.set_cons_succ]
      refine wpAnyH_take (i := 7) (oi := ⟨some 23, _, _, _, _, _⟩) (v := ?_) rfl (by kernel_rfl) (by kernel_rfl) (by kernel_rfl) (fun _ _ _ h => h) (Or.inl ⟨by kernel_rfl, ?_⟩) (by assumption) ?_
      case refine_2 => (intro w hSw; go_simp; try (with_reducible rfl))
      try simp only [Act.put, List.setIfInBounds_toArray, List.set_cons_zero, List.set_cons_succ]
      refine wpAnyH_ready (rs := [9]) (by kernel_rfl) (by simp) ?_
      refine AllReadyH.cons rfl (fun K hK => ?_) AllReadyH.nil
      refine store36R F _ _ _ (by rfl) rfl rfl rfl hth ?_
      have hbx := MBx.stored F hth
      replace hA := hA.setF hgr F
      have hF2 := hF.box hty F (fun h p e ek => by have := HX.out.2.2.2.2.2 (by rw [← HFW.out.2]; exact h) p (by rw [← HFW.out.1]; exact e); omega)
      clear hth hty hF
      clear hHeld
      refine hK.out _ _ (hA) (fun hHeld => ?_)
      clear hK K
      try simp only [Act.put, List.setIfInBounds_toArray, List.set_cons_zero, List.set_cons_succ]
      refine wpAnyH_take (i := 10) (oi := ⟨some 9, _, _, _, _, _⟩) (v := ?_) rfl (by kernel_rfl) (by kernel_rfl) (by kernel_rfl) (fun _ _ _ h => h) (Or.inl ⟨by kernel_rfl, ?_⟩) (by assumption) ?_
      case refine_2 => (intro w hSw; go_simp; try (with_reducible rfl))
      try simp only [Act.put, List.setIfInBounds_toArray, List.set_cons_zero, List.set_cons_succ]
      refine wpAnyH_done (by kernel_rfl) ?_ _
      clear hHeld
      have HE := Lib.hid (And.intro (show LM w B Q _ F l size _ from ⟨hA, hbx, hF2⟩) HFW.out)
      clear hA hbx hF2 HFW hgr
      go_wp2
      go_meet
      exact ⟨_, F, rfl, rfl, HE.out.1, HE.out.2.1, HE.out.2.2⟩
  case rest =>
    obtain ⟨g, F, rfl, rfl, hA, hFa, hFW⟩ := hcut
    have HF := Lib.hid (And.intro hFa hFW)
    clear hFa hFW
    by_cases hm : mkL l = mk
    · by_cases hx : smpOk Q xs l = true
      · skip
        have HD := Lib.hid (And.intro hm hx)
        go_upto_region 4 with fail
        have hmk : decide (mkL l = mk) = true := by rw [decide_eq_true hm]
        have hsm : smpOk Q xs l = true := hx
        try simp only [List.append_eq, List.cons_append, List.nil_append]
        refine wp_region_held_drew (S := fun w' => LM w B Q g F l size w') (by kernel_rfl) (hA.drew) (fun hHeld => ?_)
        replace hA := hA.drew
        refine wpAnyH_take (i := 0) (oi := ⟨some 24, _, _, _, _, _⟩) (v := ?_) rfl (by kernel_rfl) (by kernel_rfl) (by kernel_rfl) (fun _ _ _ h => h) (Or.inl ⟨by kernel_rfl, ?_⟩) (by assumption) ?_
        case refine_2 => (intro w hSw; go_simp; try (with_reducible rfl))
        try simp only [Act.put, List.setIfInBounds_toArray, List.set_cons_zero, List.set_cons_succ]
        refine wpAnyH_take (i := 1) (oi := ⟨some 25, _, _, _, _, _⟩) (v := ?_) rfl (by kernel_rfl) (by kernel_rfl) (by kernel_rfl) (fun _ _ _ h => h) (Or.inl ⟨by kernel_rfl, ?_⟩) (by assumption) ?_
        case refine_2 => (intro w hSw; go_simp; try (with_reducible rfl))
        try simp only [Act.put, List.setIfInBounds_toArray, List.set_cons_zero, List.set_cons_succ]
        refine wpAnyH_take (i := 2) (oi := ⟨some 26, _, _, _, _, _⟩) (v := ?_) rfl (by kernel_rfl) (by kernel_rfl) (by kernel_rfl) (fun _ _ _ h => h) (Or.inl ⟨by kernel_rfl, ?_⟩) (by assumption) ?_
        case refine_2 => (intro w hSw; go_simp; try (with_reducible rfl))
        try simp only [Act.put, List.setIfInBounds_toArray, List.set_cons_zero, List.set_cons_succ]
        refine wpAnyH_take (i := 3) (oi := ⟨some 27, _, _, _, _, _⟩) rfl (by kernel_rfl) (by kernel_rfl) (by kernel_rfl) (fun _ _ _ h => h) (yieldsIf_load_mid (by kernel_rfl) 36 _ rfl _ 0 rfl _ _ (fun w hw => MBx.range (LM.bx hw)) Tryz.underlying36 rfl (by kernel_rfl)) (by assumption) ?_
        try simp only [Act.put, List.setIfInBounds_toArray, List.set_cons_zero, List.set_cons_succ]
        refine wpAnyH_take (i := 5) (oi := ⟨some 29, _, _, _, _, _⟩) (v := ?_) rfl (by kernel_rfl) (by kernel_rfl) (by kernel_rfl) (fun _ _ _ h => h) (Or.inl ⟨by kernel_rfl, ?_⟩) (by assumption) ?_
        case refine_2 => (intro w hSw; have y0 := hSw.lw.d0; have y1 := hSw.lw.d1; have y2 := hSw.lw.e0; have y3 := hSw.lw.e1; have y4 := hSw.lw.e2; have y5 := hSw.lw.e3; go_simp; try (with_reducible rfl))
        try simp only [Act.put, List.setIfInBounds_toArray, List.set_cons_zero, List.set_cons_succ]
        refine wpAnyH_ready (rs := [4]) (by kernel_rfl) (by simp) ?_
        refine AllReadyH.cons rfl (fun K hK => ?_) AllReadyH.nil
        go_simp
        (with_reducible refine (gmarks_any F _).mono ?_)
        rintro e u ⟨rfl, hb⟩
        replace hA := hA.kept hb
        clear hb
        clear hHeld
        refine hK.out _ _ (hA) (fun hHeld => ?_)
        clear hK K
        try simp only [Act.put, List.setIfInBounds_toArray, List.set_cons_zero, List.set_cons_succ]
        refine wpAnyH_ready (rs := [6]) (by kernel_rfl) (by simp) ?_
        refine AllReadyH.cons rfl (fun K hK => ?_) AllReadyH.nil
        go_simp
        (with_reducible refine (HX.out.2.2.2.1 _ _ _ hA).mono ?_)
        rintro e u ⟨rfl, hb⟩
        rw [hmk]
        replace hA := hA.kept hb
        clear hb
        clear hHeld
        refine hK.out _ _ (hA) (fun hHeld => ?_)
        clear hK K
        try simp only [Act.put, List.setIfInBounds_toArray, List.set_cons_zero, List.set_cons_succ]
        refine wpAnyH_take (i := 7) (oi := ⟨some 31, _, _, _, _, _⟩) (v := ?_) rfl (by kernel_rfl) (by kernel_rfl) (by kernel_rfl) (fun _ _ _ h => h) (Or.inl ⟨by kernel_rfl, ?_⟩) (by assumption) ?_
        case refine_2 => (intro w hSw; go_simp; try (with_reducible rfl))
        try simp only [Act.put, List.setIfInBounds_toArray, List.set_cons_zero, List.set_cons_succ]
        refine wpAnyH_take (i := 8) (oi := ⟨some 32, _, _, _, _, _⟩) (v := ?_) rfl (by kernel_rfl) (by kernel_rfl) (by kernel_rfl) (fun _ _ _ h => h) (Or.inl ⟨by kernel_rfl, ?_⟩) (by assumption) ?_
        case refine_2 => (intro w hSw; go_simp; try (with_reducible rfl))
        try simp only [Act.put, List.setIfInBounds_toArray, List.set_cons_zero, List.set_cons_succ]
        refine wpAnyH_take (i := 9) (oi := ⟨some 33, _, _, _, _, _⟩) (v := ?_) rfl (by kernel_rfl) (by kernel_rfl) (by kernel_rfl) (fun _ _ _ h => h) (Or.inl ⟨by kernel_rfl, ?_⟩) (by assumption) ?_
        case refine_2 => (intro w hSw; go_simp; try (with_reducible rfl))
        try simp only [Act.put, List.setIfInBounds_toArray, List.set_cons_zero, List.set_cons_succ]
        refine wpAnyH_take (i := 10) (oi := ⟨some 34, _, _, _, _, _⟩) rfl (by kernel_rfl) (by kernel_rfl) (by kernel_rfl) (fun _ _ _ h => h) (yieldsIf_load_mid (by kernel_rfl) 36 _ rfl _ 0 rfl _ _ (fun w hw => MBx.range (LM.bx hw)) Tryz.underlying36 rfl (by kernel_rfl)) (by assumption) ?_
        try simp only [Act.put, List.setIfInBounds_toArray, List.set_cons_zero, List.set_cons_succ]
        refine wpAnyH_take (i := 12) (oi := ⟨some 36, _, _, _, _, _⟩) (v := ?_) rfl (by kernel_rfl) (by kernel_rfl) (by kernel_rfl) (fun _ _ _ h => h) (Or.inl ⟨by kernel_rfl, ?_⟩) (by assumption) ?_
        case refine_2 => (intro w hSw; have y0 := hSw.lw.d0; have y1 := hSw.lw.d1; have y2 := hSw.lw.e0; have y3 := hSw.lw.e1; have y4 := hSw.lw.e2; have y5 := hSw.lw.e3; go_simp; try (with_reducible rfl))
        try simp only [Act.put, List.setIfInBounds_toArray, List.set_cons_zero, List.set_cons_succ]
        refine wpAnyH_ready (rs := [11]) (by kernel_rfl) (by simp) ?_
        refine AllReadyH.cons rfl (fun K hK => ?_) AllReadyH.nil
        go_simp
        (with_reducible refine (gsamples_any F _).mono ?_)
        rintro e u ⟨rfl, hb⟩
        replace hA := hA.kept hb
        clear hb
        clear hHeld
        refine hK.out _ _ (hA) (fun hHeld => ?_)
        clear hK K
        try simp only [Act.put, List.setIfInBounds_toArray, List.set_cons_zero, List.set_cons_succ]
        refine wpAnyH_ready (rs := [13]) (by kernel_rfl) (by simp) ?_
        refine AllReadyH.cons rfl (fun K hK => ?_) AllReadyH.nil
        go_simp
        (with_reducible refine (HX.out.2.2.2.2.1 _ _ _ hA).mono ?_)
        rintro e u ⟨rfl, hb⟩
        rw [hsm]
        replace hA := hA.kept hb
        clear hb
        clear hHeld
        refine hK.out _ _ (hA) (fun hHeld => ?_)
        clear hK K
        try simp only [Act.put, List.setIfInBounds_toArray, List.set_cons_zero, List.set_cons_succ]
        refine wpAnyH_take (i := 14) (oi := ⟨some 38, _, _, _, _, _⟩) (v := ?_) rfl (by kernel_rfl) (by kernel_rfl) (by kernel_rfl) (fun _ _ _ h => h) (Or.inl ⟨by kernel_rfl, ?_⟩) (by assumption) ?_
        case refine_2 => (intro w hSw; go_simp; try (with_reducible rfl))
        try simp only [Act.put, List.setIfInBounds_toArray, List.set_cons_zero, List.set_cons_succ]
        refine wpAnyH_take (i := 15) (oi := ⟨some 39, _, _, _, _, _⟩) (v := ?_) rfl (by kernel_rfl) (by kernel_rfl) (by kernel_rfl) (fun _ _ _ h => h) (Or.inl ⟨by kernel_rfl, ?_⟩) (by assumption) ?_
        case refine_2 => (intro w hSw; go_simp; try (with_reducible rfl))
        try simp only [Act.put, List.setIfInBounds_toArray, List.set_cons_zero, List.set_cons_succ]
        refine wpAnyH_done (by kernel_rfl) ?_ _
        clear hHeld
        have H4 := Lib.hid hA
        clear hA hmk hsm

        have HT := Lib.hid H4.out.lw.th
        go_wp2_with (first
          | (refine load36 H4.out.bx _ (by with_reducible rfl) rfl rfl ?_)
          | (refine store36 F (B + 3) _ _ (by with_reducible rfl) rfl rfl rfl HT.out ?_))
        have hst := MBx.stored F HT.out
        have hF2 := H4.out.fm.typs (setCells_kp (B + 3) [.int .i64 (F.N : Int), .int .i64 F.Z, .slice F.wa F.wW F.wc, .int .i64 (F.R.n : Int), .slice F.R.a F.R.m F.R.c, .int .i64 (F.R.cn : Int), .int .i64 (F.R.cW : Int), .int .i64 (F.R.cL : Int), .slice F.R.a2 F.R.m2 F.R.c2, .int .i64 (F.S.n : Int), .int .i64 (F.S.W : Int), .int .i64 (F.S.L : Int), .slice F.S.a F.S.m F.S.c, .int .i64 (F.P.n : Int), .int .i64 (F.P.W : Int), .int .i64 (F.P.L : Int), .slice F.P.a F.P.m F.P.c] 0 _) (fun b e => ⟨36, by decide, by rw [e]; exact H4.out.lw.ty⟩) (fun h p e ek => by have := HX.out.2.2.2.2.2 (by rw [← HF.out.2]; exact h) p (by rw [← HF.out.1]; exact e); omega)
        refine bodyPost_ret (results_fm2 (F := F) (b := B + 3) (v := .int .i64 0) Tryz.results37 _ ?hp ?hq hst) ?hd ?_
        case hp => rfl
        case hq => rfl
        case hd => rfl
        unfold LoadEnd
        exact ⟨by rw [if_pos HD.out]; exact ⟨F, rfl, hF2, HF.out.1, HF.out.2⟩, by rw [HB.out]; exact Below.setCells' (by omega) _ 0 H4.out.lw.bel⟩
      · skip
        have HD := Lib.hid (And.intro hm hx)
        go_upto_region 4 with fail
        have hmk : decide (mkL l = mk) = true := by rw [decide_eq_true hm]
        have hsm : smpOk Q xs l = false := by simpa using hx
        try simp only [List.append_eq, List.cons_append, List.nil_append]
        refine wp_region_held_drew (S := fun w' => LM w B Q g F l size w') (by kernel_rfl) (hA.drew) (fun hHeld => ?_)
        replace hA := hA.drew
        refine wpAnyH_take (i := 0) (oi := ⟨some 24, _, _, _, _, _⟩) (v := ?_) rfl (by kernel_rfl) (by kernel_rfl) (by kernel_rfl) (fun _ _ _ h => h) (Or.inl ⟨by kernel_rfl, ?_⟩) (by assumption) ?_
        case refine_2 => (intro w hSw; go_simp; try (with_reducible rfl))
        try simp only [Act.put, List.setIfInBounds_toArray, List.set_cons_zero, List.set_cons_succ]
        refine wpAnyH_take (i := 1) (oi := ⟨some 25, _, _, _, _, _⟩) (v := ?_) rfl (by kernel_rfl) (by kernel_rfl) (by kernel_rfl) (fun _ _ _ h => h) (Or.inl ⟨by kernel_rfl, ?_⟩) (by assumption) ?_
        case refine_2 => (intro w hSw; go_simp; try (with_reducible rfl))
        try simp only [Act.put, List.setIfInBounds_toArray, List.set_cons_zero, List.set_cons_succ]
        refine wpAnyH_take (i := 2) (oi := ⟨some 26, _, _, _, _, _⟩) (v := ?_) rfl (by kernel_rfl) (by kernel_rfl) (by kernel_rfl) (fun _ _ _ h => h) (Or.inl ⟨by kernel_rfl, ?_⟩) (by assumption) ?_
        case refine_2 => (intro w hSw; go_simp; try (with_reducible rfl))
        try simp only [Act.put, List.setIfInBounds_toArray, List.set_cons_zero, List.set_cons_succ]
        refine wpAnyH_take (i := 3) (oi := ⟨some 27, _, _, _, _, _⟩) rfl (by kernel_rfl) (by kernel_rfl) (by kernel_rfl) (fun _ _ _ h => h) (yieldsIf_load_mid (by kernel_rfl) 36 _ rfl _ 0 rfl _ _ (fun w hw => MBx.range (LM.bx hw)) Tryz.underlying36 rfl (by kernel_rfl)) (by assumption) ?_
        try simp only [Act.put, List.setIfInBounds_toArray, List.set_cons_zero, List.set_cons_succ]
        refine wpAnyH_take (i := 5) (oi := ⟨some 29, _, _, _, _, _⟩) (v := ?_) rfl (by kernel_rfl) (by kernel_rfl) (by kernel_rfl) (fun _ _ _ h => h) (Or.inl ⟨by kernel_rfl, ?_⟩) (by assumption) ?_
        case refine_2 => (intro w hSw; have y0 := hSw.lw.d0; have y1 := hSw.lw.d1; have y2 := hSw.lw.e0; have y3 := hSw.lw.e1; have y4 := hSw.lw.e2; have y5 := hSw.lw.e3; go_simp; try (with_reducible rfl))
        try simp only [Act.put, List.setIfInBounds_toArray, List.set_cons_zero, List.set_cons_succ]
        refine wpAnyH_ready (rs := [4]) (by kernel_rfl) (by simp) ?_
        refine AllReadyH.cons rfl (fun K hK => ?_) AllReadyH.nil
        go_simp
        (with_reducible refine (gmarks_any F _).mono ?_)
        rintro e u ⟨rfl, hb⟩
        replace hA := hA.kept hb
        clear hb
        clear hHeld
        refine hK.out _ _ (hA) (fun hHeld => ?_)
        clear hK K
        try simp only [Act.put, List.setIfInBounds_toArray, List.set_cons_zero, List.set_cons_succ]
        refine wpAnyH_ready (rs := [6]) (by kernel_rfl) (by simp) ?_
        refine AllReadyH.cons rfl (fun K hK => ?_) AllReadyH.nil
        go_simp
        (with_reducible refine (HX.out.2.2.2.1 _ _ _ hA).mono ?_)
        rintro e u ⟨rfl, hb⟩
        rw [hmk]
        replace hA := hA.kept hb
        clear hb
        clear hHeld
        refine hK.out _ _ (hA) (fun hHeld => ?_)
        clear hK K
        try simp only [Act.put, List.setIfInBounds_toArray, List.set_cons_zero, List.set_cons_succ]
        refine wpAnyH_take (i := 7) (oi := ⟨some 31, _, _, _, _, _⟩) (v := ?_) rfl (by kernel_rfl) (by kernel_rfl) (by kernel_rfl) (fun _ _ _ h => h) (Or.inl ⟨by kernel_rfl, ?_⟩) (by assumption) ?_
        case refine_2 => (intro w hSw; go_simp; try (with_reducible rfl))
        try simp only [Act.put, List.setIfInBounds_toArray, List.set_cons_zero, List.set_cons_succ]
        refine wpAnyH_take (i := 8) (oi := ⟨some 32, _, _, _, _, _⟩) (v := ?_) rfl (by kernel_rfl) (by kernel_rfl) (by kernel_rfl) (fun _ _ _ h => h) (Or.inl ⟨by kernel_rfl, ?_⟩) (by assumption) ?_
        case refine_2 => (intro w hSw; go_simp; try (with_reducible rfl))
        try simp only [Act.put, List.setIfInBounds_toArray, List.set_cons_zero, List.set_cons_succ]
        refine wpAnyH_take (i := 9) (oi := ⟨some 33, _, _, _, _, _⟩) (v := ?_) rfl (by kernel_rfl) (by kernel_rfl) (by kernel_rfl) (fun _ _ _ h => h) (Or.inl ⟨by kernel_rfl, ?_⟩) (by assumption) ?_
        case refine_2 => (intro w hSw; go_simp; try (with_reducible rfl))
        try simp only [Act.put, List.setIfInBounds_toArray, List.set_cons_zero, List.set_cons_succ]
        refine wpAnyH_take (i := 10) (oi := ⟨some 34, _, _, _, _, _⟩) rfl (by kernel_rfl) (by kernel_rfl) (by kernel_rfl) (fun _ _ _ h => h) (yieldsIf_load_mid (by kernel_rfl) 36 _ rfl _ 0 rfl _ _ (fun w hw => MBx.range (LM.bx hw)) Tryz.underlying36 rfl (by kernel_rfl)) (by assumption) ?_
        try simp only [Act.put, List.setIfInBounds_toArray, List.set_cons_zero, List.set_cons_succ]
        refine wpAnyH_take (i := 12) (oi := ⟨some 36, _, _, _, _, _⟩) (v := ?_) rfl (by kernel_rfl) (by kernel_rfl) (by kernel_rfl) (fun _ _ _ h => h) (Or.inl ⟨by kernel_rfl, ?_⟩) (by assumption) ?_
        case refine_2 => (intro w hSw; have y0 := hSw.lw.d0; have y1 := hSw.lw.d1; have y2 := hSw.lw.e0; have y3 := hSw.lw.e1; have y4 := hSw.lw.e2; have y5 := hSw.lw.e3; go_simp; try (with_reducible rfl))
        try simp only [Act.put, List.setIfInBounds_toArray, List.set_cons_zero, List.set_cons_succ]
        refine wpAnyH_ready (rs := [11]) (by kernel_rfl) (by simp) ?_
        refine AllReadyH.cons rfl (fun K hK => ?_) AllReadyH.nil
        go_simp
        (with_reducible refine (gsamples_any F _).mono ?_)
        rintro e u ⟨rfl, hb⟩
        replace hA := hA.kept hb
        clear hb
        clear hHeld
        refine hK.out _ _ (hA) (fun hHeld => ?_)
        clear hK K
        try simp only [Act.put, List.setIfInBounds_toArray, List.set_cons_zero, List.set_cons_succ]
        refine wpAnyH_ready (rs := [13]) (by kernel_rfl) (by simp) ?_
        refine AllReadyH.cons rfl (fun K hK => ?_) AllReadyH.nil
        go_simp
        (with_reducible refine (HX.out.2.2.2.2.1 _ _ _ hA).mono ?_)
        rintro e u ⟨rfl, hb⟩
        rw [hsm]
        replace hA := hA.kept hb
        clear hb
        clear hHeld
        refine hK.out _ _ (hA) (fun hHeld => ?_)
        clear hK K
        try simp only [Act.put, List.setIfInBounds_toArray, List.set_cons_zero, List.set_cons_succ]
        refine wpAnyH_take (i := 14) (oi := ⟨some 38, _, _, _, _, _⟩) (v := ?_) rfl (by kernel_rfl) (by kernel_rfl) (by kernel_rfl) (fun _ _ _ h => h) (Or.inl ⟨by kernel_rfl, ?_⟩) (by assumption) ?_
        case refine_2 => (intro w hSw; go_simp; try (with_reducible rfl))
        try simp only [Act.put, List.setIfInBounds_toArray, List.set_cons_zero, List.set_cons_succ]
        refine wpAnyH_take (i := 15) (oi := ⟨some 39, _, _, _, _, _⟩) (v := ?_) rfl (by kernel_rfl) (by kernel_rfl) (by kernel_rfl) (fun _ _ _ h => h) (Or.inl ⟨by kernel_rfl, ?_⟩) (by assumption) ?_
        case refine_2 => (intro w hSw; go_simp; try (with_reducible rfl))
        try simp only [Act.put, List.setIfInBounds_toArray, List.set_cons_zero, List.set_cons_succ]
        refine wpAnyH_done (by kernel_rfl) ?_ _
        clear hHeld
        have H4 := Lib.hid hA
        clear hA hmk hsm

        have HT := Lib.hid H4.out.lw.th
        go_wp2_with (refine store36 FQN (B + 3) _ _ (by with_reducible rfl) rfl rfl rfl HT.out ?_)
        have hst := MBx.stored FQN HT.out
        refine bodyPost_ret (results_fm2 (F := FQN) (b := B + 3) (v := .int .i64 10) Tryz.results37 _ ?hp ?hq hst) ?hd ?_
        case hp => rfl
        case hq => rfl
        case hd => rfl
        exact ⟨by rw [if_neg (fun h => HD.out.2 h.2)]; rfl, by rw [HB.out]; exact Below.setCells' (by omega) _ 0 H4.out.lw.bel⟩
    · skip
      have HD := Lib.hid (And.intro hm trivial)
      go_upto_region 4 with fail
      have hmk : decide (mkL l = mk) = false := by rw [decide_eq_false hm]
      try simp only [List.append_eq, List.cons_append, List.nil_append]
      refine wp_region_held_drew (S := fun w' => LM w B Q g F l size w') (by kernel_rfl) (hA.drew) (fun hHeld => ?_)
      replace hA := hA.drew
      refine wpAnyH_take (i := 0) (oi := ⟨some 24, _, _, _, _, _⟩) (v := ?_) rfl (by kernel_rfl) (by kernel_rfl) (by kernel_rfl) (fun _ _ _ h => h) (Or.inl ⟨by kernel_rfl, ?_⟩) (by assumption) ?_
      case refine_2 => (intro w hSw; go_simp; try (with_reducible rfl))
      try simp only [Act.put, List.setIfInBounds_toArray, List.set_cons_zero, List.set_cons_succ]
      refine wpAnyH_take (i := 1) (oi := ⟨some 25, _, _, _, _, _⟩) (v := ?_) rfl (by kernel_rfl) (by kernel_rfl) (by kernel_rfl) (fun _ _ _ h => h) (Or.inl ⟨by kernel_rfl, ?_⟩) (by assumption) ?_
      case refine_2 => (intro w hSw; go_simp; try (with_reducible rfl))
      try simp only [Act.put, List.setIfInBounds_toArray, List.set_cons_zero, List.set_cons_succ]
      refine wpAnyH_take (i := 2) (oi := ⟨some 26, _, _, _, _, _⟩) (v := ?_) rfl (by kernel_rfl) (by kernel_rfl) (by kernel_rfl) (fun _ _ _ h => h) (Or.inl ⟨by kernel_rfl, ?_⟩) (by assumption) ?_
      case refine_2 => (intro w hSw; go_simp; try (with_reducible rfl))
      try simp only [Act.put, List.setIfInBounds_toArray, List.set_cons_zero, List.set_cons_succ]
      refine wpAnyH_take (i := 3) (oi := ⟨some 27, _, _, _, _, _⟩) rfl (by kernel_rfl) (by kernel_rfl) (by kernel_rfl) (fun _ _ _ h => h) (yieldsIf_load_mid (by kernel_rfl) 36 _ rfl _ 0 rfl _ _ (fun w hw => MBx.range (LM.bx hw)) Tryz.underlying36 rfl (by kernel_rfl)) (by assumption) ?_
      try simp only [Act.put, List.setIfInBounds_toArray, List.set_cons_zero, List.set_cons_succ]
      refine wpAnyH_take (i := 5) (oi := ⟨some 29, _, _, _, _, _⟩) (v := ?_) rfl (by kernel_rfl) (by kernel_rfl) (by kernel_rfl) (fun _ _ _ h => h) (Or.inl ⟨by kernel_rfl, ?_⟩) (by assumption) ?_
      case refine_2 => (intro w hSw; have y0 := hSw.lw.d0; have y1 := hSw.lw.d1; have y2 := hSw.lw.e0; have y3 := hSw.lw.e1; have y4 := hSw.lw.e2; have y5 := hSw.lw.e3; go_simp; try (with_reducible rfl))
      try simp only [Act.put, List.setIfInBounds_toArray, List.set_cons_zero, List.set_cons_succ]
      refine wpAnyH_ready (rs := [4]) (by kernel_rfl) (by simp) ?_
      refine AllReadyH.cons rfl (fun K hK => ?_) AllReadyH.nil
      go_simp
      (with_reducible refine (gmarks_any F _).mono ?_)
      rintro e u ⟨rfl, hb⟩
      replace hA := hA.kept hb
      clear hb
      clear hHeld
      refine hK.out _ _ (hA) (fun hHeld => ?_)
      clear hK K
      try simp only [Act.put, List.setIfInBounds_toArray, List.set_cons_zero, List.set_cons_succ]
      refine wpAnyH_ready (rs := [6]) (by kernel_rfl) (by simp) ?_
      refine AllReadyH.cons rfl (fun K hK => ?_) AllReadyH.nil
      go_simp
      (with_reducible refine (HX.out.2.2.2.1 _ _ _ hA).mono ?_)
      rintro e u ⟨rfl, hb⟩
      rw [hmk]
      replace hA := hA.kept hb
      clear hb
      clear hHeld
      refine hK.out _ _ (hA) (fun hHeld => ?_)
      clear hK K
      try simp only [Act.put, List.setIfInBounds_toArray, List.set_cons_zero, List.set_cons_succ]
      refine wpAnyH_take (i := 7) (oi := ⟨some 31, _, _, _, _, _⟩) (v := ?_) rfl (by kernel_rfl) (by kernel_rfl) (by kernel_rfl) (fun _ _ _ h => h) (Or.inl ⟨by kernel_rfl, ?_⟩) (by assumption) ?_
      case refine_2 => (intro w hSw; go_simp; try (with_reducible rfl))
      try simp only [Act.put, List.setIfInBounds_toArray, List.set_cons_zero, List.set_cons_succ]
      refine wpAnyH_take (i := 8) (oi := ⟨some 32, _, _, _, _, _⟩) (v := ?_) rfl (by kernel_rfl) (by kernel_rfl) (by kernel_rfl) (fun _ _ _ h => h) (Or.inl ⟨by kernel_rfl, ?_⟩) (by assumption) ?_
      case refine_2 => (intro w hSw; go_simp; try (with_reducible rfl))
      try simp only [Act.put, List.setIfInBounds_toArray, List.set_cons_zero, List.set_cons_succ]
      refine wpAnyH_take (i := 9) (oi := ⟨some 33, _, _, _, _, _⟩) (v := ?_) rfl (by kernel_rfl) (by kernel_rfl) (by kernel_rfl) (fun _ _ _ h => h) (Or.inl ⟨by kernel_rfl, ?_⟩) (by assumption) ?_
      case refine_2 => (intro w hSw; go_simp; try (with_reducible rfl))
      try simp only [Act.put, List.setIfInBounds_toArray, List.set_cons_zero, List.set_cons_succ]
      refine wpAnyH_take (i := 10) (oi := ⟨some 34, _, _, _, _, _⟩) (v := undef) rfl (by kernel_rfl) (by kernel_rfl) (by kernel_rfl) (fun _ _ _ h => h) (Or.inr ⟨by kernel_rfl, rfl⟩) (by assumption) ?_
      try simp only [Act.put, List.setIfInBounds_toArray, List.set_cons_zero, List.set_cons_succ]
      refine wpAnyH_take (i := 11) (oi := ⟨some 35, _, _, _, _, _⟩) (v := undef) rfl (by kernel_rfl) (by kernel_rfl) (by kernel_rfl) (fun _ _ _ h => h) (Or.inr ⟨by kernel_rfl, rfl⟩) (by assumption) ?_
      try simp only [Act.put, List.setIfInBounds_toArray, List.set_cons_zero, List.set_cons_succ]
      refine wpAnyH_take (i := 12) (oi := ⟨some 36, _, _, _, _, _⟩) (v := undef) rfl (by kernel_rfl) (by kernel_rfl) (by kernel_rfl) (fun _ _ _ h => h) (Or.inr ⟨by kernel_rfl, rfl⟩) (by assumption) ?_
      try simp only [Act.put, List.setIfInBounds_toArray, List.set_cons_zero, List.set_cons_succ]
      refine wpAnyH_take (i := 13) (oi := ⟨some 37, _, _, _, _, _⟩) (v := undef) rfl (by kernel_rfl) (by kernel_rfl) (by kernel_rfl) (fun _ _ _ h => h) (Or.inr ⟨by kernel_rfl, rfl⟩) (by assumption) ?_
      try simp only [Act.put, List.setIfInBounds_toArray, List.set_cons_zero, List.set_cons_succ]
      refine wpAnyH_take (i := 14) (oi := ⟨some 38, _, _, _, _, _⟩) (v := undef) rfl (by kernel_rfl) (by kernel_rfl) (by kernel_rfl) (fun _ _ _ h => h) (Or.inr ⟨by kernel_rfl, rfl⟩) (by assumption) ?_
      try simp only [Act.put, List.setIfInBounds_toArray, List.set_cons_zero, List.set_cons_succ]
      refine wpAnyH_take (i := 15) (oi := ⟨some 39, _, _, _, _, _⟩) (v := ?_) rfl (by kernel_rfl) (by kernel_rfl) (by kernel_rfl) (fun _ _ _ h => h) (Or.inl ⟨by kernel_rfl, ?_⟩) (by assumption) ?_
      case refine_2 => (intro w hSw; go_simp; try (with_reducible rfl))
      try simp only [Act.put, List.setIfInBounds_toArray, List.set_cons_zero, List.set_cons_succ]
      refine wpAnyH_done (by kernel_rfl) ?_ _
      clear hHeld
      have H4 := Lib.hid hA
      clear hA hmk

      have HT := Lib.hid H4.out.lw.th
      go_wp2_with (refine store36 FQN (B + 3) _ _ (by with_reducible rfl) rfl rfl rfl HT.out ?_)
      have hst := MBx.stored FQN HT.out
      refine bodyPost_ret (results_fm2 (F := FQN) (b := B + 3) (v := .int .i64 10) Tryz.results37 _ ?hp ?hq hst) ?hd ?_
      case hp => rfl
      case hq => rfl
      case hd => rfl
      exact ⟨by rw [if_neg (fun h => HD.out.1 h.1)]; rfl, by rw [HB.out]; exact Below.setCells' (by omega) _ 0 H4.out.lw.bel⟩

end Go.Proofs.YtbcjepkfjbibfaaGreat
