/- The contract of New of ranks. -/
import Derived.Test.YtfhlcclbjagdmaaKG
namespace Go.Proofs.Ytfhlcclbjagdmaa
open Go.RowKit
open M
attribute [local go_sem ↓] Go.wp_at_zero Go.wp_at_succ

/-- A row of small numbers, made tight: a new one. -/
theorem tight_new (a0 : Option Addr) (n cap : Nat) (xs : List Int) (w : World) (K : Nat) (hK : K ≤ 62) (hx : NumsAt .i64 w a0 xs) (hn : xs.length = n) (hn' : n ≤ 10000000) (hs : ∀ x ∈ xs, 0 ≤ x ∧ x < 2 ^ K) :
    Calls Try.prog 31 #[.slice a0 n cap] w fun e w' => ∃ W g L m : Nat, e = .returned (.tuple #[.agg #[.int .i64 (n : Int), .int .i64 (W : Int), .int .i64 (L : Int), .slice (some ⟨g, 0, none⟩) m m], .int .i64 0]) ∧
      IRow w' n W L (some ⟨g, 0, none⟩) m m xs ∧ w.heap.size ≤ g ∧ Below w.heap.size w w' := by
  have e2 : ((2 : Int) ^ K) = ((2 ^ K : Nat) : Int) := by simp
  have hp : (2 : Nat) ^ K ≤ 2 ^ 62 := Nat.pow_le_pow_right (by decide) hK
  have hp0 : (0 : Nat) < 2 ^ K := Nat.pow_pos (by decide)
  rw [e2] at hs
  have h64 : I64s xs := fun x hx => by have := hs x hx; omega
  have hm : (mostI xs).toNat < 2 ^ K := by
    rcases mostI_mem xs with e | e
    · rw [e]; exact hp0
    · have := hs _ e; omega
  have hW := (wid_le _ _).2 hm
  have hfit : Fits xs (wid (mostI xs).toNat) := by
    intro x hx
    have h1 := hs x hx
    have h2 := (mostI_ge xs).2 x hx
    have h3 := (wid_le (mostI xs).toNat _).1 (Nat.le_refl _)
    have e3 : ((2 : Int) ^ wid (mostI xs).toNat) = ((2 ^ wid (mostI xs).toNat : Nat) : Int) := by simp
    rw [e3]
    omega
  refine (tight_ok a0 n cap xs _ w hx hn hn' h64 rfl (by omega) hfit).mono ?_
  rintro e w' ⟨g, rfl, hr, hg, hb⟩
  exact ⟨_, g, _, _, rfl, ⟨hr, hn, rfl, hfit, by omega, hn'⟩, hg, hb⟩

/-- The counts that are made: up to number i, the others 0. -/
def cl (l : List Bool) (K i : Nat) : List Int := (List.range K).map fun j => if j ≤ i then (rkN true l (j * 256) : Int) else 0
theorem cl_length (l : List Bool) (K i : Nat) : (cl l K i).length = K := by simp [cl]
theorem cl_zero (l : List Bool) (K : Nat) : (cl l K 0).map (Value.int .i64) = List.replicate K (.int .i64 0) := by
  rw [List.eq_replicate_iff]
  refine ⟨by simp [cl], ?_⟩
  intro b hb
  simp only [cl, List.map_map, List.mem_map, List.mem_range, Function.comp] at hb
  obtain ⟨j, -, rfl⟩ := hb
  by_cases h : j ≤ 0
  · obtain rfl : j = 0 := by omega
    simp [rkN]
  · simp; intro h'; omega
theorem cl_get (l : List Bool) (K i j : Nat) (hj : j < K) : ((cl l K i).map (Value.int .i64))[j]? = some (.int .i64 (if j ≤ i then (rkN true l (j * 256) : Int) else 0)) := by
  simp [cl, hj]
theorem cl_set (l : List Bool) (K i : Nat) : ((cl l K i).map (Value.int .i64)).set (i + 1) (.int .i64 (rkN true l ((i + 1) * 256) : Nat)) = (cl l K (i + 1)).map (Value.int .i64) := by
  apply List.ext_getElem?
  intro j
  by_cases hj : j < K
  · rw [cl_get l K (i + 1) j hj, List.getElem?_set]
    by_cases e : i + 1 = j
    · subst e; rw [if_pos rfl, if_pos (by simp [cl]; omega), if_pos (Nat.le_refl _)]
    · rw [if_neg e, cl_get l K i j hj]
      by_cases h : j ≤ i
      · rw [if_pos h, if_pos (by omega)]
      · rw [if_neg h, if_neg (by omega)]
  · rw [List.getElem?_eq_none (by simp [cl]; omega), List.getElem?_eq_none (by simp [cl]; omega)]
theorem cl_ahd (l : List Bool) (K : Nat) (hK : K = l.length / 256 + 1) : cl l K (K - 1) = ahd l := by
  unfold cl ahd
  rw [← hK]
  apply List.map_congr_left
  intro j hj
  rw [if_pos (by have := List.mem_range.1 hj; omega)]

/-- What New holds while it counts: block w.heap.size has the row, the next one the rank to come. -/
structure NW (w : World) (n : Nat) (a : Option Addr) (m c : Nat) (l : List Bool) (K g i : Nat) (u : World) : Prop where
  b0 : u.cell? ⟨w.heap.size, 0, none⟩ = some (.int .i64 (n : Int))
  b1 : u.cell? ⟨w.heap.size, 1, none⟩ = some (.slice a m c)
  r0 : u.cell? ⟨w.heap.size + 1, 0, none⟩ = some (.int .i64 0)
  r1 : u.cell? ⟨w.heap.size + 1, 1, none⟩ = some (.slice none 0 0)
  r2 : u.cell? ⟨w.heap.size + 1, 2, none⟩ = some (.int .i64 0)
  r3 : u.cell? ⟨w.heap.size + 1, 3, none⟩ = some (.int .i64 0)
  r4 : u.cell? ⟨w.heap.size + 1, 4, none⟩ = some (.int .i64 0)
  r5 : u.cell? ⟨w.heap.size + 1, 5, none⟩ = some (.slice none 0 0)
  z0 : u.frozen? ⟨w.heap.size + 1, 0, none⟩ = false
  z1 : u.frozen? ⟨w.heap.size + 1, 1, none⟩ = false
  z2 : u.frozen? ⟨w.heap.size + 1, 2, none⟩ = false
  z3 : u.frozen? ⟨w.heap.size + 1, 3, none⟩ = false
  z4 : u.frozen? ⟨w.heap.size + 1, 4, none⟩ = false
  z5 : u.frozen? ⟨w.heap.size + 1, 5, none⟩ = false
  own : u.ownsRow (w.heap.size + 2) 3 1 (.slice (some ⟨g, 0, none⟩) K K) K ((cl l K i).map (Value.int .i64))
  row : RowAt u (.slice a m c) l
  bel : Below w.heap.size w u

variable {w u u' : World} {n : Nat} {a : Option Addr} {m c : Nat} {l : List Bool} {K g i : Nat}

theorem NW.kp {X : Nat → Prop} (h : NW w n a m c l K g i u) (hk : Kp X u u') (hx : ∀ k, X k → k = g) (hr : RowAt u' (.slice a m c) l)
    (ho : u'.ownsRow (w.heap.size + 2) 3 1 (.slice (some ⟨g, 0, none⟩) K K) K ((cl l K i).map (Value.int .i64))) : NW w n a m c l K g i u' := by
  have hgb := (h.own.lt g rfl).1
  have l0 : w.heap.size < u.heap.size := World.block_lt_of_cell? u _ h.b0
  have l1 : w.heap.size + 1 < u.heap.size := World.block_lt_of_cell? u _ h.r0
  have x0 : ¬ X w.heap.size := fun e => by have := hx _ e; omega
  have x1 : ¬ X (w.heap.size + 1) := fun e => by have := hx _ e; omega
  have cc : ∀ j, u'.cell? ⟨w.heap.size, j, none⟩ = u.cell? ⟨w.heap.size, j, none⟩ := fun j => hk.cell (p := ⟨w.heap.size, j, none⟩) l0 x0
  have dd : ∀ j, u'.cell? ⟨w.heap.size + 1, j, none⟩ = u.cell? ⟨w.heap.size + 1, j, none⟩ := fun j => hk.cell (p := ⟨w.heap.size + 1, j, none⟩) l1 x1
  have ff : ∀ j, u'.frozen? ⟨w.heap.size + 1, j, none⟩ = u.frozen? ⟨w.heap.size + 1, j, none⟩ := fun j => hk.frozen (p := ⟨w.heap.size + 1, j, none⟩) l1 x1
  exact ⟨by rw [cc]; exact h.b0, by rw [cc]; exact h.b1, by rw [dd]; exact h.r0, by rw [dd]; exact h.r1, by rw [dd]; exact h.r2, by rw [dd]; exact h.r3, by rw [dd]; exact h.r4, by rw [dd]; exact h.r5,
    by rw [ff]; exact h.z0, by rw [ff]; exact h.z1, by rw [ff]; exact h.z2, by rw [ff]; exact h.z3, by rw [ff]; exact h.z4, by rw [ff]; exact h.z5, ho, hr,
    h.bel.trans (hk.toBelow h.bel.size (fun k hk' e => by have := hx k e; omega))⟩

theorem NW.kept (h : NW w n a m c l K g i u) (hb : Below u.heap.size u u') : NW w n a m c l K g i u' :=
  h.kp (X := fun _ => False) (Below.kp hb |> fun k => ⟨k.os, k.tape, k.output, k.size, fun b hb hx => k.block b hb hx⟩) (fun _ e => e.elim) (h.row.kept hb) (own_kept h.own hb)
theorem NW.drew (h : NW w n a m c l K g i u) : NW w n a m c l K g i u.drew := h.kept ((Below.refl _ _).drew)

theorem NW.next (h : NW w n a m c l K g i u) (hrow : ∀ k, (Value.slice a m c).ownBlock = some k → k < w.heap.size) : NW w n a m c l K g (i + 1) (u.setCell ⟨g, i + 1, none⟩ (.int .i64 (rkN true l ((i + 1) * 256) : Nat))) := by
  have hgb := h.own.lt g rfl
  have hk : Kp (fun k => k = g) u (u.setCell ⟨g, i + 1, none⟩ (.int .i64 (rkN true l ((i + 1) * 256) : Nat))) := Kp.setCell (p := ⟨g, i + 1, none⟩) (Kp.refl (fun k => k = g) u) (.inl rfl) _
  have hst := (h.own.stored (i + 1) (.int .i64 (rkN true l ((i + 1) * 256) : Nat))).1
  rw [cl_set l K i] at hst
  have h2 : NW w n a m c l K g (i + 1) (u.setCell ⟨g, i + 1, none⟩ (.int .i64 (rkN true l ((i + 1) * 256) : Nat))) := by
    have l0 : w.heap.size < u.heap.size := World.block_lt_of_cell? u _ h.b0
    have l1 : w.heap.size + 1 < u.heap.size := World.block_lt_of_cell? u _ h.r0
    have cc : ∀ j v, (u.setCell ⟨g, i + 1, none⟩ v).cell? ⟨w.heap.size, j, none⟩ = u.cell? ⟨w.heap.size, j, none⟩ := fun j v => World.cell?_setCell_other _ _ _ _ (by simp only [ne_eq, Addr.mk.injEq]; omega)
    have dd : ∀ j v, (u.setCell ⟨g, i + 1, none⟩ v).cell? ⟨w.heap.size + 1, j, none⟩ = u.cell? ⟨w.heap.size + 1, j, none⟩ := fun j v => World.cell?_setCell_other _ _ _ _ (by simp only [ne_eq, Addr.mk.injEq]; omega)
    exact ⟨by rw [cc]; exact h.b0, by rw [cc]; exact h.b1, by rw [dd]; exact h.r0, by rw [dd]; exact h.r1, by rw [dd]; exact h.r2, by rw [dd]; exact h.r3, by rw [dd]; exact h.r4, by rw [dd]; exact h.r5,
      by simpa using h.z0, by simpa using h.z1, by simpa using h.z2, by simpa using h.z3, by simpa using h.z4, by simpa using h.z5, hst,
      row_kp h.row hk (fun k e => by have := hrow k e; omega), h.bel.setCell (by simp only; omega) _⟩
  exact h2

theorem irow_kp {X : Nat → Prop} {w w' : World} {n W L m c : Nat} {a : Option Addr} {xs : List Int} (h : IRow w n W L a m c xs) (hb : Kp X w w') (hx : ∀ k, (Value.slice a m c).ownBlock = some k → ¬ X k) : IRow w' n W L a m c xs :=
  { h with row := row_kp h.row hb hx }

/-- What New tells: a rank of the row. -/
def NewEnd (w : World) (a : Option Addr) (m c : Nat) (l : List Bool) (e : Ending) (w' : World) : Prop :=
  ∃ R : RP, e = .returned (.agg #[.int .i64 (R.n : Int), .slice R.a R.m R.c, .int .i64 (R.cn : Int), .int .i64 (R.cW : Int), .int .i64 (R.cL : Int), .slice R.a2 R.m2 R.c2]) ∧ RK w' R l ∧ (R.a = a ∧ R.m = m ∧ R.c = c) ∧ Below w.heap.size w w'


end Go.Proofs.Ytfhlcclbjagdmaa
