/- Rows of numbers in memory; the contract of Pack. -/
import Derived.Test.YtfhlcclbjagdmaaIA
namespace Go.Proofs.Ytfhlcclbjagdmaa
open Go.RowKit
open M

/-- The bits of numbers of one width, one behind the other. -/
def rowB (xs : List Int) (W : Nat) : List Bool := (xs.map fun x => bitsOf x.toNat W).flatten

theorem rowB_length (xs : List Int) (W : Nat) : (rowB xs W).length = xs.length * W := by
  induction xs with
  | nil => simp [rowB]
  | cons x xs ih =>
    have e : rowB (x :: xs) W = bitsOf x.toNat W ++ rowB xs W := by simp [rowB]
    rw [e, List.length_append, bitsOf_length, ih, List.length_cons, Nat.add_mul]
    omega

theorem rowB_snoc (xs : List Int) (x : Int) (W : Nat) : rowB (xs ++ [x]) W = rowB xs W ++ bitsOf x.toNat W := by simp [rowB]

/-- All numbers are from 0 on and below 2^W. -/
def Fits (xs : List Int) (W : Nat) : Prop := ∀ x ∈ xs, 0 ≤ x ∧ x < 2 ^ W

theorem ent50 (args : Array Value) (w : World) : (callFunc 50 args).run Try.prog w = .ok (.enter 50 args) w := by kernel_rfl

theorem putU_ok (x : Int) (W : Nat) (hW : W ≤ 62) (h0 : 0 ≤ x) (h1 : x < 2 ^ W) : IntKind.u64.wrap x = (num (bitsOf x.toNat W) : Int) := by
  have e : ((2 : Int) ^ W) = ((2 ^ W : Nat) : Int) := by simp
  rw [e] at h1
  have h2 : (2 : Nat) ^ W ≤ 2 ^ 62 := Nat.pow_le_pow_right (by decide) hW
  rw [num_bitsOf _ _ (by omega), IntKind.wrap_u64]
  omega

theorem putU_no (x : Int) (W : Nat) (hW : W ≤ 62) (hx1 : -9223372036854775808 ≤ x) (hx2 : x ≤ 9223372036854775807) (h : ¬ (0 ≤ x ∧ x < 2 ^ W)) : ((2 ^ (W : Int).toNat - 1 : Nat) : Int) < IntKind.u64.wrap x := by
  have e : ((2 : Int) ^ W) = ((2 ^ W : Nat) : Int) := by simp
  rw [e] at h
  have h2 : (2 : Nat) ^ W ≤ 2 ^ 62 := Nat.pow_le_pow_right (by decide) hW
  have h3 : (0 : Nat) < 2 ^ W := Nat.pow_pos (by decide)
  rw [Int.toNat_natCast, IntKind.wrap_u64]
  omega

set_option maxHeartbeats 400000 in
theorem pack1_ok (wb vb pb : Nat) (a0 : Option Addr) (m0 cap : Nat) (l : List Bool) (x : Int) (W : Nat) (w : World) (h1 : w.cell? ⟨wb, 0, none⟩ = some (.pointer (some ⟨pb, 0, none⟩))) (h2 : w.cell? ⟨vb, 0, none⟩ = some (.int .i64 (W : Int)))
    (hB : BuildAt w pb (.slice a0 m0 cap) l) (hW : W ≤ 62) (hl : l.length + W ≤ 1000000000) (hx : 0 ≤ x ∧ x < 2 ^ W) :
    Calls Try.prog 50 #[.int .i64 x, .pointer (some ⟨wb, 0, none⟩), .pointer (some ⟨vb, 0, none⟩)] w fun e w' => e = .returned (.int .i64 0) ∧ PutPost w pb (.slice a0 m0 cap) (l ++ bitsOf x.toNat W) w' := by
  have hp := put_ok pb a0 m0 cap l (bitsOf x.toNat W) (IntKind.u64.wrap x) W w hB (putU_ok x W hW hx.1 hx.2) (bitsOf_length _ _) (by omega) hl
  have HP := Lib.hid hp
  clear hp hB hx
  go_enter Try.func50, Try.ntmps50
  go_wp2_with fail
  refine HP.out.mono ?_
  rintro e w' ⟨rfl, hpost⟩
  have HQ := Lib.hid hpost
  clear hpost
  go_wp2
  go_ret
  exact ⟨rfl, HQ.out⟩

set_option maxHeartbeats 400000 in
theorem pack1_no (wb vb pb : Nat) (x : Int) (W : Nat) (w : World) (h1 : w.cell? ⟨wb, 0, none⟩ = some (.pointer (some ⟨pb, 0, none⟩))) (h2 : w.cell? ⟨vb, 0, none⟩ = some (.int .i64 (W : Int)))
    (hW : W ≤ 62) (hx1 : -9223372036854775808 ≤ x) (hx2 : x ≤ 9223372036854775807) (hx : ¬ (0 ≤ x ∧ x < 2 ^ W)) :
    Calls Try.prog 50 #[.int .i64 x, .pointer (some ⟨wb, 0, none⟩), .pointer (some ⟨vb, 0, none⟩)] w fun e w' => e = .returned (.int .i64 1) ∧ w = w' := by
  have hp := put_no ⟨pb, 0, none⟩ (IntKind.u64.wrap x) (W : Int) w (.inr (.inr (putU_no x W hW hx1 hx2 hx)))
  have HP := Lib.hid hp
  clear hp hx
  go_enter Try.func50, Try.ntmps50
  go_wp2_with fail
  refine HP.out.mono ?_
  rintro e w' ⟨rfl, rfl⟩
  go_wp2
  go_ret
  exact ⟨rfl, rfl⟩

/-- A row of numbers as a value. -/
def intsV (n W L : Nat) (s : Value) : Value := .agg #[.int .i64 (n : Int), .int .i64 (W : Int), .int .i64 (L : Int), s]
def noInts : Value := .agg #[.int .i64 0, .int .i64 0, .int .i64 0, .slice none 0 0]

set_option maxHeartbeats 400000 in
theorem pack_arg (a0 : Option Addr) (n cap : Nat) (y : Int) (w : World) (h : ¬ (0 ≤ y ∧ y ≤ 62)) :
    Calls Try.prog 42 #[.slice a0 n cap, .int .i64 y] w fun e w' => e = .returned (.tuple #[noInts, .int .i64 1]) ∧ Below w.heap.size w w' := by
  have hw := fun u => isWidth_any y u
  rw [decide_eq_false h] at hw
  have HW := Lib.hid hw
  clear hw h
  go_enter Try.func42, Try.ntmps42
  go_wp2_with fail
  refine (HW.out _).mono ?_
  rintro e w' ⟨rfl, rfl⟩
  go_wp2
  refine bodyPost_ret (v := .tuple #[noInts, .int .i64 1]) (by simp [results, Try.results42, go_sem, noInts]) rfl ⟨rfl, ?_⟩
  exact ((Below.refl _ _).alloc (Nat.le_refl _) _).alloc (by simp) _

/-- What Pack holds while it puts numbers: the width in its box, the answer's cells, the builder's address in its box, the builder. -/
structure PK (w : World) (W vb : Nat) (L : List Bool) (s : Value) (u : World) : Prop where
  cw : u.cell? ⟨w.heap.size, 0, none⟩ = some (.int .i64 (W : Int))
  r0 : u.cell? ⟨w.heap.size + 1, 0, none⟩ = some (.int .i64 0)
  r1 : u.cell? ⟨w.heap.size + 1, 1, none⟩ = some (.int .i64 0)
  r2 : u.cell? ⟨w.heap.size + 1, 2, none⟩ = some (.int .i64 0)
  r3 : u.cell? ⟨w.heap.size + 1, 3, none⟩ = some (.slice none 0 0)
  z0 : u.frozen? ⟨w.heap.size + 1, 0, none⟩ = false
  z1 : u.frozen? ⟨w.heap.size + 1, 1, none⟩ = false
  z2 : u.frozen? ⟨w.heap.size + 1, 2, none⟩ = false
  z3 : u.frozen? ⟨w.heap.size + 1, 3, none⟩ = false
  cp : u.cell? ⟨vb, 0, none⟩ = some (.pointer (some ⟨w.heap.size + 1 + 1, 0, none⟩))
  bld : BuildAt u (w.heap.size + 1 + 1) s L
  fr : ∀ k, s.ownBlock = some k → vb < k
  vb' : w.heap.size + 1 + 1 < vb
  bel : Below w.heap.size w u

variable {w u u' : World} {W vb : Nat} {L L' : List Bool} {s : Value}

theorem PK.kp {X : Nat → Prop} (h : PK w W vb L s u) (hb : Kp X u u') (hx : ∀ k, X k → vb < k ∨ k = w.heap.size + 1 + 1) {s' : Value} (hB : BuildAt u' (w.heap.size + 1 + 1) s' L') (hf : ∀ k, s'.ownBlock = some k → vb < k) : PK w W vb L' s' u' := by
  have l1 := World.block_lt_of_cell? u _ h.cw
  have l2 := World.block_lt_of_cell? u _ h.r0
  have l3 := World.block_lt_of_cell? u _ h.cp
  simp only at l1 l2 l3
  have v := h.vb'
  have n1 : ¬ X w.heap.size := fun e => by have := hx _ e; omega
  have n2 : ¬ X (w.heap.size + 1) := fun e => by have := hx _ e; omega
  have n3 : ¬ X vb := fun e => by have := hx _ e; omega
  exact {
    cw := by rw [hb.cell (p := ⟨w.heap.size, 0, none⟩) l1 n1]; exact h.cw
    r0 := by rw [hb.cell (p := ⟨w.heap.size + 1, 0, none⟩) l2 n2]; exact h.r0
    r1 := by rw [hb.cell (p := ⟨w.heap.size + 1, 1, none⟩) l2 n2]; exact h.r1
    r2 := by rw [hb.cell (p := ⟨w.heap.size + 1, 2, none⟩) l2 n2]; exact h.r2
    r3 := by rw [hb.cell (p := ⟨w.heap.size + 1, 3, none⟩) l2 n2]; exact h.r3
    z0 := by rw [hb.frozen (p := ⟨w.heap.size + 1, 0, none⟩) l2 n2]; exact h.z0
    z1 := by rw [hb.frozen (p := ⟨w.heap.size + 1, 1, none⟩) l2 n2]; exact h.z1
    z2 := by rw [hb.frozen (p := ⟨w.heap.size + 1, 2, none⟩) l2 n2]; exact h.z2
    z3 := by rw [hb.frozen (p := ⟨w.heap.size + 1, 3, none⟩) l2 n2]; exact h.z3
    cp := by rw [hb.cell (p := ⟨vb, 0, none⟩) l3 n3]; exact h.cp
    bld := hB
    fr := hf
    vb' := h.vb'
    bel := h.bel.trans (hb.toBelow h.bel.size (fun k hk e => by have := hx _ e; omega)) }

theorem PK.put (h : PK w W vb L s u) (hp : PutPost u (w.heap.size + 1 + 1) s L' u') : ∃ s', PK w W vb L' s' u' := by
  obtain ⟨s', k1, k2, k3⟩ := hp
  have l3 := World.block_lt_of_cell? u _ h.cp
  simp only at l3
  refine ⟨s', h.kp k3 ?_ k1 ?_⟩
  · rintro k (e | e)
    · exact .inr e
    · exact .inl (h.fr k e)
  · intro k hk
    rcases k2 k hk with e | e
    · exact h.fr k e
    · omega

theorem Below.kp {w w' : World} (hb : Below w.heap.size w w') : Kp (fun _ => False) w w' := ⟨hb.os, hb.tape, hb.output, hb.size, fun k hk _ => hb.block k hk⟩

theorem PK.kept (h : PK w W vb L s u) (hb : Below u.heap.size u u') : PK w W vb L s u' :=
  h.kp (X := fun _ => False) (Below.kp hb) (fun _ e => e.elim) (h.bld.kept hb) h.fr

theorem PK.drew (h : PK w W vb L s u) : PK w W vb L s u.drew := h.kept ((Below.refl _ _).drew)

theorem PK.start (w w3 : World) (W : Nat) (hB : BuildAt w3 (w.heap.size + 1 + 1) (.slice none 0 0) [])
    (hb : Below ((w.alloc (.cells #[.int .i64 (W : Int)] 3)).alloc (.cells #[.int .i64 0, .int .i64 0, .int .i64 0, .slice none 0 0] 33)).heap.size ((w.alloc (.cells #[.int .i64 (W : Int)] 3)).alloc (.cells #[.int .i64 0, .int .i64 0, .int .i64 0, .slice none 0 0] 33)) w3) :
    PK w W w3.heap.size [] (.slice none 0 0) (w3.alloc (.cells #[.pointer (some ⟨w.heap.size + 1 + 1, 0, none⟩)] 67)) := by
  have hal : Below w3.heap.size w3 (w3.alloc (.cells #[.pointer (some ⟨w.heap.size + 1 + 1, 0, none⟩)] 67)) := (Below.refl _ _).alloc (Nat.le_refl _) _
  have hbl := hB.lt
  have hc : ∀ (p : Addr), p.block < w.heap.size + 1 + 1 → w3.cell? p = ((w.alloc (.cells #[.int .i64 (W : Int)] 3)).alloc (.cells #[.int .i64 0, .int .i64 0, .int .i64 0, .slice none 0 0] 33)).cell? p := fun p hp => hb.cell (by simpa using hp)
  have hf : ∀ (p : Addr), p.block < w.heap.size + 1 + 1 → w3.frozen? p = ((w.alloc (.cells #[.int .i64 (W : Int)] 3)).alloc (.cells #[.int .i64 0, .int .i64 0, .int .i64 0, .slice none 0 0] 33)).frozen? p := fun p hp => hb.frozen (by simpa using hp)
  have hsz := hb.size
  simp only [World.size_alloc] at hsz
  have hn : ∀ k, (Value.slice none 0 0).ownBlock ≠ some k := fun k e => by simp [Value.ownBlock] at e
  have hcn : ∀ i, i < 4 → (w3.alloc (.cells #[.pointer (some ⟨w.heap.size + 1 + 1, 0, none⟩)] 67)).cell? ⟨w.heap.size + 1, i, none⟩ = (#[.int .i64 0, .int .i64 0, .int .i64 0, .slice none 0 0] : Array Value)[i]? := by
    intro i hi
    rw [cell_old _ _ _ _ (by omega), hc ⟨w.heap.size + 1, i, none⟩ (by simp), cell_new _ _ _ _ _ (by simp)]
  have hfn : ∀ i, (w3.alloc (.cells #[.pointer (some ⟨w.heap.size + 1 + 1, 0, none⟩)] 67)).frozen? ⟨w.heap.size + 1, i, none⟩ = false := by
    intro i
    rw [frozen_old _ _ _ _ (by omega), hf ⟨w.heap.size + 1, i, none⟩ (by simp), frozen_new _ _ _ _ _ (by simp)]
  exact {
    cw := by rw [cell_old _ _ _ _ (by omega), hc ⟨w.heap.size, 0, none⟩ (by simp; omega), cell_old _ _ _ _ (by simp), cell_new _ _ _ _ _ rfl]; rfl
    r0 := hcn 0 (by omega)
    r1 := hcn 1 (by omega)
    r2 := hcn 2 (by omega)
    r3 := hcn 3 (by omega)
    z0 := hfn 0
    z1 := hfn 1
    z2 := hfn 2
    z3 := hfn 3
    cp := by rw [cell_new _ _ _ _ _ rfl]; rfl
    bld := hB.kept hal
    fr := fun k e => absurd e (hn k)
    vb' := hbl
    bel := ((((Below.refl _ _).alloc (Nat.le_refl _) _).alloc (by simp) _).trans (hb.mono (by simp; omega))).trans (hal.mono (by omega)) }

end Go.Proofs.Ytfhlcclbjagdmaa
