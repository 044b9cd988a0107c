/- Numbers cut to a width by 'and'; a row of numbers of the call's own that grows by one. -/
import Derived.Test.YtfhlcclbjagdmaaIH
namespace Go.Proofs.Ytfhlcclbjagdmaa
open Go.RowKit
open M

theorem and_mask (x : Int) (i : Nat) (hi : i ≤ 62) : bits .and .i64 x (((2 ^ i - 1 : Nat)) : Int) = x % ((2 ^ i : Nat) : Int) := by
  have hp : (2 : Nat) ^ i ≤ 2 ^ 62 := Nat.pow_le_pow_right (by decide) hi
  have hp0 : (0 : Nat) < 2 ^ i := Nat.pow_pos (by decide)
  have hm : (BitVec.ofInt 64 (((2 ^ i - 1 : Nat)) : Int)).toNat = 2 ^ i - 1 := by
    rw [BitVec.toNat_ofInt]
    omega
  have key : (BitVec.ofInt 64 x &&& BitVec.ofInt 64 (((2 ^ i - 1 : Nat)) : Int)).toNat = (x % ((2 ^ 64 : Nat) : Int)).toNat % 2 ^ i := by
    rw [BitVec.toNat_and, BitVec.toNat_ofInt, hm, Nat.and_two_pow_sub_one_eq_mod]
  show IntKind.i64.wrap ((BitVec.ofInt 64 x &&& BitVec.ofInt 64 (((2 ^ i - 1 : Nat)) : Int)).toNat : Nat) = x % ((2 ^ i : Nat) : Int)
  rw [key, IntKind.wrap_i64]
  have h1 : (x % ((2 ^ 64 : Nat) : Int)).toNat % 2 ^ i < 2 ^ i := Nat.mod_lt _ hp0
  have h2 : (((x % ((2 ^ 64 : Nat) : Int)).toNat % 2 ^ i : Nat) : Int) = x % ((2 ^ i : Nat) : Int) := by
    rw [Int.natCast_emod, Int.toNat_of_nonneg (Int.emod_nonneg _ (by decide))]
    apply Int.emod_emod_of_dvd
    have : (2 : Nat) ^ i ∣ 2 ^ 64 := Nat.pow_dvd_pow 2 (by omega)
    exact_mod_cast this
  rw [h2] at *
  have h3 : 0 ≤ x % ((2 ^ i : Nat) : Int) := Int.emod_nonneg _ (by omega)
  have h4 : x % ((2 ^ i : Nat) : Int) < ((2 ^ i : Nat) : Int) := Int.emod_lt_of_pos _ (by omega)
  omega

theorem mask_lt (x : Int) (i : Nat) : 0 ≤ x % ((2 ^ i : Nat) : Int) ∧ x % ((2 ^ i : Nat) : Int) < 2 ^ i := by
  have hp0 : (0 : Nat) < 2 ^ i := Nat.pow_pos (by decide)
  refine ⟨Int.emod_nonneg _ (by omega), ?_⟩
  have := Int.emod_lt_of_pos x (b := ((2 ^ i : Nat) : Int)) (by omega)
  simpa using this

/-- A row of numbers of the call's own, beside it a pair in its box. -/
structure SS (w : World) (x y : Int) (v8 v10 : Value) (p q : List Int) (u : World) : Prop where
  c0 : u.cell? ⟨w.heap.size, 0, none⟩ = some (.int .i64 x)
  c1 : u.cell? ⟨w.heap.size, 1, none⟩ = some (.int .i64 y)
  r8 : u.ownsRow (w.heap.size + 1) 3 1 v8 p.length (p.map (Value.int .i64))
  r10 : u.ownsRow (w.heap.size + 1) 3 1 v10 q.length (q.map (Value.int .i64))
  dj : Dj v8 v10
  bel : Below w.heap.size w u

variable {w u u' : World} {x y : Int} {v8 v10 : Value} {p q : List Int}

theorem SS.lt (h : SS w x y v8 v10 p q u) : w.heap.size < u.heap.size := World.block_lt_of_cell? u _ h.c0

theorem SS.kept (h : SS w x y v8 v10 p q u) (hb : Below u.heap.size u u') : SS w x y v8 v10 p q u' :=
  ⟨by rw [hb.cell (p := ⟨w.heap.size, 0, none⟩) h.lt]; exact h.c0, by rw [hb.cell (p := ⟨w.heap.size, 1, none⟩) h.lt]; exact h.c1, own_kept h.r8 hb, own_kept h.r10 hb, h.dj, h.bel.trans (hb.mono h.bel.size)⟩

theorem SS.alloc (h : SS w x y v8 v10 p q u) (o : Obj) : SS w x y v8 v10 p q (u.alloc o) := h.kept ((Below.refl _ _).alloc (Nat.le_refl _) _)

theorem SS.app8 {v' : Value} {p' : List Int} (h : SS w x y v8 v10 p q u) (hown : u'.ownsRow (w.heap.size + 1) 3 1 v' p'.length (p'.map (Value.int .i64))) (hg : u.grownBy u' v8.ownBlock) (hat : v'.ownBlock = v8.ownBlock ∨ v'.ownBlock = some u.heap.size) : SS w x y v' v10 p' q u' := by
  have hk : Kp (fun k => v8.ownBlock = some k) u u' := (Kp.refl _ u).grown hg (fun k hk _ => hk)
  have hn : ∀ k, v8.ownBlock = some k → w.heap.size + 1 ≤ k := fun k e => (h.r8.lt k e).1
  have hf : ∀ k, v'.ownBlock = some k → v8.ownBlock = some k ∨ u.heap.size ≤ k := by
    intro k hk
    rcases hat with e | e
    · exact .inl (e ▸ hk)
    · rw [e] at hk; simp at hk; exact .inr (by omega)
  refine ⟨?_, ?_, hown, own_kp h.r10 hk (fun k e e8 => h.dj k e8 e), h.dj.fresh hf (fun k e => (h.r10.lt k e).2), h.bel.trans (hk.toBelow h.bel.size (fun k hk e => by have := hn k e; omega))⟩
  · rw [hk.cell (p := ⟨w.heap.size, 0, none⟩) h.lt (fun e => by have := hn w.heap.size e; omega)]; exact h.c0
  · rw [hk.cell (p := ⟨w.heap.size, 1, none⟩) h.lt (fun e => by have := hn w.heap.size e; omega)]; exact h.c1

theorem SS.flip (h : SS w x y v8 v10 p q u) : SS w x y v10 v8 q p u := ⟨h.c0, h.c1, h.r10, h.r8, h.dj.symm, h.bel⟩

theorem SS.app10 {v' : Value} {q' : List Int} (h : SS w x y v8 v10 p q u) (hown : u'.ownsRow (w.heap.size + 1) 3 1 v' q'.length (q'.map (Value.int .i64))) (hg : u.grownBy u' v10.ownBlock) (hat : v'.ownBlock = v10.ownBlock ∨ v'.ownBlock = some u.heap.size) : SS w x y v8 v' p q' u' :=
  (h.flip.app8 hown hg hat).flip

end Go.Proofs.Ytfhlcclbjagdmaa
