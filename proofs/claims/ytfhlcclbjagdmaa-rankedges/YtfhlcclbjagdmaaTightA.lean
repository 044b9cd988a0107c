/- Facts for the walk of IntsTight: a row of numbers in its box, beside it a new box that is filled in any order. -/
import Derived.Test.YtfhlcclbjagdmaaIM
namespace Go.Proofs.Ytfhlcclbjagdmaa
open Go.RowKit
open M

/-- The row p in its box bx; beside it the numbers themselves, at a4. -/
structure TK (w : World) (bx n W L g m : Nat) (p : List Int) (a4 : Option Addr) (u : World) : Prop where
  box : IBx u bx n W L (.slice (some ⟨g, 0, none⟩) m m)
  row : IRow u n W L (some ⟨g, 0, none⟩) m m p
  nums : NumsAt .i64 u a4 p
  old : ∀ b o, a4 = some ⟨b, o, none⟩ → b < bx
  wb : w.heap.size ≤ bx
  bel : Below w.heap.size w u

variable {w u u' : World} {bx n W L g m : Nat} {p : List Int} {a4 : Option Addr}

theorem TK.kept (h : TK w bx n W L g m p a4 u) (hb : Below u.heap.size u u') : TK w bx n W L g m p a4 u' :=
  ⟨h.box.kept hb, h.row.kept hb, h.nums.kept hb, h.old, h.wb, h.bel.trans (hb.mono h.bel.size)⟩
theorem TK.drew (h : TK w bx n W L g m p a4 u) : TK w bx n W L g m p a4 u.drew := h.kept ((Below.refl _ _).drew)
theorem TK.alloc (h : TK w bx n W L g m p a4 u) (o : Obj) : TK w bx n W L g m p a4 (u.alloc o) := h.kept ((Below.refl _ _).alloc (Nat.le_refl _) _)
theorem TK.cells (h : TK w bx n W L g m p a4 u) : u.cell? ⟨bx, 0, none⟩ = some (.int .i64 (n : Int)) ∧ u.cell? ⟨bx, 1, none⟩ = some (.int .i64 (W : Int)) ∧ u.cell? ⟨bx, 2, none⟩ = some (.int .i64 (L : Int)) ∧ u.cell? ⟨bx, 3, none⟩ = some (.slice (some ⟨g, 0, none⟩) m m) := ⟨h.box.c0, h.box.c1, h.box.c2, h.box.c3⟩

/-- A new box, not yet filled. -/
structure Fr (bx g cb : Nat) (u : World) : Prop where
  r0 : u.cell? ⟨cb, 0, none⟩ = some (.int .i64 0)
  r1 : u.cell? ⟨cb, 1, none⟩ = some (.int .i64 0)
  r2 : u.cell? ⟨cb, 2, none⟩ = some (.int .i64 0)
  r3 : u.cell? ⟨cb, 3, none⟩ = some (.slice none 0 0)
  z0 : u.frozen? ⟨cb, 0, none⟩ = false
  z1 : u.frozen? ⟨cb, 1, none⟩ = false
  z2 : u.frozen? ⟨cb, 2, none⟩ = false
  z3 : u.frozen? ⟨cb, 3, none⟩ = false
  nb : bx < cb
  ng : cb ≠ g
  lt : cb < u.heap.size

theorem Fr.kept {cb : Nat} (h : Fr bx g cb u) (hb : Below u.heap.size u u') : Fr bx g cb u' :=
  ⟨by rw [hb.cell (p := ⟨cb, 0, none⟩) h.lt]; exact h.r0, by rw [hb.cell (p := ⟨cb, 1, none⟩) h.lt]; exact h.r1, by rw [hb.cell (p := ⟨cb, 2, none⟩) h.lt]; exact h.r2, by rw [hb.cell (p := ⟨cb, 3, none⟩) h.lt]; exact h.r3,
   by rw [hb.frozen (p := ⟨cb, 0, none⟩) h.lt]; exact h.z0, by rw [hb.frozen (p := ⟨cb, 1, none⟩) h.lt]; exact h.z1, by rw [hb.frozen (p := ⟨cb, 2, none⟩) h.lt]; exact h.z2, by rw [hb.frozen (p := ⟨cb, 3, none⟩) h.lt]; exact h.z3, h.nb, h.ng, Nat.lt_of_lt_of_le h.lt hb.size⟩
theorem Fr.drew {cb : Nat} (h : Fr bx g cb u) : Fr bx g cb u.drew := h.kept ((Below.refl _ _).drew)
theorem TK.fresh (h : TK w bx n W L g m p a4 u) : Fr bx g u.heap.size (u.alloc (.cells #[.int .i64 0, .int .i64 0, .int .i64 0, .slice none 0 0] 33)) := by
  have h1 := h.box.lt
  have h2 := row_lt h.row.row g rfl
  exact ⟨by simp, by simp, by simp, by simp, by simp, by simp, by simp, by simp, h1, by omega, by simp⟩

/-- Both rows in their boxes. -/
structure TF (w : World) (bx n W L g m cb g' m' : Nat) (p : List Int) (a4 : Option Addr) (u : World) : Prop where
  t : TK w bx n W L g m p a4 u
  box : IBx u cb n W L (.slice (some ⟨g', 0, none⟩) m' m')
  row : IRow u n W L (some ⟨g', 0, none⟩) m' m' p

theorem TF.kept {cb g' m' : Nat} (h : TF w bx n W L g m cb g' m' p a4 u) (hb : Below u.heap.size u u') : TF w bx n W L g m cb g' m' p a4 u' := ⟨h.t.kept hb, h.box.kept hb, h.row.kept hb⟩
theorem TF.drew {cb g' m' : Nat} (h : TF w bx n W L g m cb g' m' p a4 u) : TF w bx n W L g m cb g' m' p a4 u.drew := h.kept ((Below.refl _ _).drew)

theorem tf_alloc {g' m' : Nat} (h : TK w bx n W L g m p a4 u) (hrow : IRow u n W L (some ⟨g', 0, none⟩) m' m' p) : TF w bx n W L g m u.heap.size g' m' p a4 (u.alloc (.cells #[.int .i64 (n : Int), .int .i64 (W : Int), .int .i64 (L : Int), .slice (some ⟨g', 0, none⟩) m' m'] 33)) :=
  ⟨h.alloc _, IBx.new _ _ _ _ _, hrow.kept ((Below.refl _ _).alloc (Nat.le_refl _) _)⟩

theorem nums_kp {k : IntKind} {X : Nat → Prop} {w w' : World} {a : Option Addr} {xs : List Int} (h : NumsAt k w a xs) (hb : Kp X w w') (hx : ∀ b o, a = some ⟨b, o, none⟩ → ¬ X b) : NumsAt k w' a xs := by
  rcases h with h | ⟨b, off, h1, h2, h3⟩
  · exact .inl h
  · refine .inr ⟨b, off, h1, Nat.lt_of_lt_of_le h2 hb.size, fun j hj => ?_⟩
    rw [hb.cell (p := ⟨b, off + j, none⟩) h2 (hx b off h1)]
    exact h3 j hj

theorem set4_cells {u : World} {cb : Nat} {o0 o1 o2 o3 : Value} (h0 : u.cell? ⟨cb, 0, none⟩ = some o0) (h1 : u.cell? ⟨cb, 1, none⟩ = some o1) (h2 : u.cell? ⟨cb, 2, none⟩ = some o2) (h3 : u.cell? ⟨cb, 3, none⟩ = some o3) (v0 v1 v2 v3 : Value) :
    ((((u.setCell ⟨cb, 0, none⟩ v0).setCell ⟨cb, 1, none⟩ v1).setCell ⟨cb, 2, none⟩ v2).setCell ⟨cb, 3, none⟩ v3).cell? ⟨cb, 0, none⟩ = some v0 ∧
    ((((u.setCell ⟨cb, 0, none⟩ v0).setCell ⟨cb, 1, none⟩ v1).setCell ⟨cb, 2, none⟩ v2).setCell ⟨cb, 3, none⟩ v3).cell? ⟨cb, 1, none⟩ = some v1 ∧
    ((((u.setCell ⟨cb, 0, none⟩ v0).setCell ⟨cb, 1, none⟩ v1).setCell ⟨cb, 2, none⟩ v2).setCell ⟨cb, 3, none⟩ v3).cell? ⟨cb, 2, none⟩ = some v2 ∧
    ((((u.setCell ⟨cb, 0, none⟩ v0).setCell ⟨cb, 1, none⟩ v1).setCell ⟨cb, 2, none⟩ v2).setCell ⟨cb, 3, none⟩ v3).cell? ⟨cb, 3, none⟩ = some v3 := by
  have n : ∀ i j, i ≠ j → (⟨cb, i, none⟩ : Addr) ≠ ⟨cb, j, none⟩ := fun i j h e => h (by simp only [Addr.mk.injEq] at e; exact e.2.1)
  have ot : ∀ (u : World) (i j : Nat) (v : Value), i ≠ j → (u.setCell ⟨cb, i, none⟩ v).cell? ⟨cb, j, none⟩ = u.cell? ⟨cb, j, none⟩ := fun u i j v h => World.cell?_setCell_other _ _ _ _ (n i j h)
  refine ⟨?_, ?_, ?_, ?_⟩
  · rw [ot _ 3 0 _ (by decide), ot _ 2 0 _ (by decide), ot _ 1 0 _ (by decide)]
    exact World.cell?_setCell_same _ _ _ h0
  · rw [ot _ 3 1 _ (by decide), ot _ 2 1 _ (by decide)]
    exact World.cell?_setCell_same _ _ _ (by rw [ot _ 0 1 _ (by decide)]; exact h1)
  · rw [ot _ 3 2 _ (by decide)]
    exact World.cell?_setCell_same _ _ _ (by rw [ot _ 1 2 _ (by decide), ot _ 0 2 _ (by decide)]; exact h2)
  · exact World.cell?_setCell_same _ _ _ (by rw [ot _ 2 3 _ (by decide), ot _ 1 3 _ (by decide), ot _ 0 3 _ (by decide)]; exact h3)

theorem tf_set {cb g' m' : Nat} (h : TK w bx n W L g m p a4 u) (hrow : IRow u n W L (some ⟨g', 0, none⟩) m' m' p) (hq : Fr bx g cb u) (hne : g' ≠ cb) :
    TF w bx n W L g m cb g' m' p a4 ((((u.setCell ⟨cb, 0, none⟩ (.int .i64 (n : Int))).setCell ⟨cb, 1, none⟩ (.int .i64 (W : Int))).setCell ⟨cb, 2, none⟩ (.int .i64 (L : Int))).setCell ⟨cb, 3, none⟩ (.slice (some ⟨g', 0, none⟩) m' m')) := by
  have hk : Kp (fun k => k = cb) u ((((u.setCell ⟨cb, 0, none⟩ (.int .i64 (n : Int))).setCell ⟨cb, 1, none⟩ (.int .i64 (W : Int))).setCell ⟨cb, 2, none⟩ (.int .i64 (L : Int))).setCell ⟨cb, 3, none⟩ (.slice (some ⟨g', 0, none⟩) m' m')) :=
    Kp.setCell (p := ⟨cb, 3, none⟩) (Kp.setCell (p := ⟨cb, 2, none⟩) (Kp.setCell (p := ⟨cb, 1, none⟩) (Kp.setCell (p := ⟨cb, 0, none⟩) (Kp.refl (fun k => k = cb) u) (.inl rfl) _) (.inl rfl) _) (.inl rfl) _) (.inl rfl) _
  have nb := hq.nb
  have ng := hq.ng
  have wb := h.wb
  obtain ⟨s0, s1, s2, s3⟩ := set4_cells hq.r0 hq.r1 hq.r2 hq.r3 (.int .i64 (n : Int)) (.int .i64 (W : Int)) (.int .i64 (L : Int)) (.slice (some ⟨g', 0, none⟩) m' m')
  refine ⟨⟨h.box.kp hk (by omega), h.row.kp hk (fun k e ek => ?_), nums_kp h.nums hk (fun b o e ek => ?_), h.old, h.wb, h.bel.trans (hk.toBelow h.bel.size (fun k hlt e => by omega))⟩, ⟨s0, s1, s2, s3⟩, hrow.kp hk (fun k e ek => ?_)⟩
  · simp only [Value.ownBlock, Option.some.injEq] at e; omega
  · have := h.old b o e; omega
  · simp only [Value.ownBlock, Option.some.injEq] at e; omega

/-- One width less does not do. -/
theorem tight_less (p : List Int) (W : Nat) (h : wid (mostI p).toNat = W + 1) : ¬ Fits p W := by
  intro hf
  have h1 : ¬ (mostI p).toNat < 2 ^ W := fun e => by have := (wid_le _ _).2 e; omega
  have h2 : (0 : Nat) < 2 ^ W := Nat.pow_pos (by decide)
  rcases mostI_mem p with e | e
  · rw [e] at h1; exact h1 h2
  · have h3 := hf _ e
    have e2 : ((2 : Int) ^ W) = ((2 ^ W : Nat) : Int) := by simp
    rw [e2] at h3
    omega

def X2 : List Int := [5, -1]
theorem x2_64 : I64s X2 := by intro x hx; simp [X2] at hx; omega
theorem x2_wid : wid (mostI X2).toNat = 3 := by
  have e : (mostI X2).toNat = 5 := by decide
  rw [e]; exact wid_eq 5 2 (by decide) (by decide)
theorem x2_no : ¬ Fits X2 3 := fun h => by have := h (-1) (by simp [X2]); omega

theorem tight2 (u : World) (b : Nat) (h : ∀ j, j < 2 → u.cell? ⟨b, j, none⟩ = some (.int .i64 (X2.getD j 0))) (hb : b < u.heap.size) :
    Calls Try.prog 31 #[.slice (some ⟨b, 0, none⟩) 2 2] u fun e w' => e = .returned (.tuple #[.agg #[.int .i64 0, .int .i64 0, .int .i64 0, .slice none 0 0], .int .i64 1]) ∧ Below u.heap.size u w' :=
  tight_bad (some ⟨b, 0, none⟩) 2 2 X2 u (.inr ⟨b, 0, rfl, hb, fun j hj => by rw [Nat.zero_add]; exact h j hj⟩) rfl (by omega) x2_64 (by rw [x2_wid]; omega) (by rw [x2_wid]; exact x2_no)

end Go.Proofs.Ytfhlcclbjagdmaa
