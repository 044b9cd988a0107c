/- Merged out of: IA IB IC ID IE IF IG IH IJ IK IL IM TightA. -/
import Derived.Test.YtpnjccomngdblaaGreatBa
import Derived.Laws.IdiomArrays
set_option maxRecDepth 100000

section
/- Widths of numbers: the contracts of Width, of the document's Width, of isWidth. -/
namespace Go.Proofs.YtpnjccomngdblaaGreat
open Go.RowKit
open M

/-- How many bits a number has. -/
def wid (n : Nat) : Nat := if n = 0 then 0 else Nat.log2 n + 1

theorem wid_le (n k : Nat) : wid n ≤ k ↔ n < 2 ^ k := by
  unfold wid
  split
  · rename_i h; subst h; simp; exact Nat.pow_pos (by decide)
  · rename_i h
    rw [← Nat.log2_lt h]
    omega

theorem wid_half (n : Nat) (h : 0 < n) : wid n = wid (n / 2) + 1 := by
  apply Nat.le_antisymm
  · rw [wid_le, Nat.pow_succ]
    have := (wid_le (n / 2) (wid (n / 2))).1 (Nat.le_refl _)
    omega
  · have h1 : 0 < wid n := by
      rcases Nat.eq_zero_or_pos (wid n) with e | e
      · have := (wid_le n 0).1 (by omega); simp at this; omega
      · exact e
    obtain ⟨k, hk⟩ : ∃ k, wid n = k + 1 := ⟨wid n - 1, by omega⟩
    have h2 := (wid_le n (k + 1)).1 (by omega)
    rw [Nat.pow_succ] at h2
    have := (wid_le (n / 2) k).2 (by omega)
    omega

theorem wid_63 (x : Int) (h : x ≤ 9223372036854775807) : wid x.toNat ≤ 63 := by
  rw [wid_le]; omega

set_option maxHeartbeats 400000 in
theorem width_any (n : Int) (w : World) (hn : n ≤ 9223372036854775807) :
    Calls Tryz.prog 70 #[.int .i64 n] w fun e w' => e = .returned (.int .i64 (wid n.toNat : Nat)) ∧ w = w' := by
  have h63 := wid_63 n hn
  go_enter Tryz.func70, Tryz.ntmps70
  go_wp2
  go_loop [0, 3] (fun v0 v3 => ∃ (x : Int) (i : Nat), v0 = .int .i64 x ∧ v3 = .int .i64 (i : Int) ∧ i + wid x.toNat = wid n.toNat ∧ x ≤ 9223372036854775807) (fun v0 _ => (intOf v0).toNat)
  case atStart => exact ⟨n, 0, rfl, rfl, by omega, hn⟩
  case round =>
    obtain ⟨x, i, rfl, rfl, hi, hx⟩ := hrel
    by_cases h0 : 0 < x
    · have hh := wid_half x.toNat (by omega)
      have e2 : (x / 2).toNat = x.toNat / 2 := by omega
      rw [← e2] at hh
      generalize wid n.toNat = W at *
      generalize wid x.toNat = W1 at *
      have HH := Lib.hid hh
      go_wp2
      go_round
      case rel => exact ⟨x / 2, i + 1, by go_num, by go_num, by rw [← hi, HH.out]; omega, by omega⟩
      case measure => simp [intOf]; omega
    · have e0 : x.toNat = 0 := by omega
      have ez : wid 0 = 0 := rfl
      rw [e0, ez] at hi
      have HI := Lib.hid hi
      clear hi
      go_wp2
      go_ret
      exact ⟨by rw [← HI.out]; rfl, rfl⟩

theorem isWidth_any (x : Int) (w : World) :
    Calls Tryz.prog 155 #[.int .i64 x] w fun e w' => e = .returned (.bool (decide (0 ≤ x ∧ x ≤ 62))) ∧ w = w' := by
  by_cases h0 : 0 ≤ x
  · by_cases h1 : x ≤ 62
    · have e : decide (0 ≤ x ∧ x ≤ 62) = true := by simp [h0, h1]
      rw [e]
      go_enter Tryz.func155, Tryz.ntmps155
      go_wp2
      go_ret
      exact ⟨rfl, rfl⟩
    · have e : decide (0 ≤ x ∧ x ≤ 62) = false := by simp [h1]
      rw [e]
      go_enter Tryz.func155, Tryz.ntmps155
      go_wp2
      go_ret
      exact ⟨rfl, rfl⟩
  · have e : decide (0 ≤ x ∧ x ≤ 62) = false := by simp [h0]
    rw [e]
    go_enter Tryz.func155, Tryz.ntmps155
    go_wp2
    go_ret
    exact ⟨rfl, rfl⟩

end Go.Proofs.YtpnjccomngdblaaGreat
end

section
/- Rows of numbers in memory; the contract of Pack. -/
namespace Go.Proofs.YtpnjccomngdblaaGreat
open Go.RowKit
open M

/-- The bits of numbers of one width, one behind the other. -/
def rowB (xs : List Int) (W : Nat) : List Bool := (xs.map fun x => bitsOf x.toNat W).flatten

theorem rowB_length (xs : List Int) (W : Nat) : (rowB xs W).length = xs.length * W := by
  induction xs with
  | nil => simp [rowB]
  | cons x xs ih =>
    have e : rowB (x :: xs) W = bitsOf x.toNat W ++ rowB xs W := by simp [rowB]
    rw [e, List.length_append, bitsOf_length, ih, List.length_cons, Nat.add_mul]
    omega

theorem rowB_snoc (xs : List Int) (x : Int) (W : Nat) : rowB (xs ++ [x]) W = rowB xs W ++ bitsOf x.toNat W := by simp [rowB]

/-- All numbers are from 0 on and below 2^W. -/
def Fits (xs : List Int) (W : Nat) : Prop := ∀ x ∈ xs, 0 ≤ x ∧ x < 2 ^ W

theorem ent157 (args : Array Value) (w : World) : (callFunc 157 args).run Tryz.prog w = .ok (.enter 157 args) w := by kernel_rfl

theorem putU_ok (x : Int) (W : Nat) (hW : W ≤ 62) (h0 : 0 ≤ x) (h1 : x < 2 ^ W) : IntKind.u64.wrap x = (num (bitsOf x.toNat W) : Int) := by
  have e : ((2 : Int) ^ W) = ((2 ^ W : Nat) : Int) := by simp
  rw [e] at h1
  have h2 : (2 : Nat) ^ W ≤ 2 ^ 62 := Nat.pow_le_pow_right (by decide) hW
  rw [num_bitsOf _ _ (by omega), IntKind.wrap_u64]
  omega

theorem putU_no (x : Int) (W : Nat) (hW : W ≤ 62) (hx1 : -9223372036854775808 ≤ x) (hx2 : x ≤ 9223372036854775807) (h : ¬ (0 ≤ x ∧ x < 2 ^ W)) : ((2 ^ (W : Int).toNat - 1 : Nat) : Int) < IntKind.u64.wrap x := by
  have e : ((2 : Int) ^ W) = ((2 ^ W : Nat) : Int) := by simp
  rw [e] at h
  have h2 : (2 : Nat) ^ W ≤ 2 ^ 62 := Nat.pow_le_pow_right (by decide) hW
  have h3 : (0 : Nat) < 2 ^ W := Nat.pow_pos (by decide)
  rw [Int.toNat_natCast, IntKind.wrap_u64]
  omega

set_option maxHeartbeats 400000 in
theorem pack1_ok (wb vb pb : Nat) (a0 : Option Addr) (m0 cap : Nat) (l : List Bool) (x : Int) (W : Nat) (w : World) (h1 : w.cell? ⟨wb, 0, none⟩ = some (.pointer (some ⟨pb, 0, none⟩))) (h2 : w.cell? ⟨vb, 0, none⟩ = some (.int .i64 (W : Int)))
    (hB : BuildAt w pb (.slice a0 m0 cap) l) (hW : W ≤ 62) (hl : l.length + W ≤ 1000000000) (hx : 0 ≤ x ∧ x < 2 ^ W) :
    Calls Tryz.prog 157 #[.int .i64 x, .pointer (some ⟨wb, 0, none⟩), .pointer (some ⟨vb, 0, none⟩)] w fun e w' => e = .returned (.int .i64 0) ∧ PutPost w pb (.slice a0 m0 cap) (l ++ bitsOf x.toNat W) w' := by
  have hp := put_ok pb a0 m0 cap l (bitsOf x.toNat W) (IntKind.u64.wrap x) W w hB (putU_ok x W hW hx.1 hx.2) (bitsOf_length _ _) (by omega) hl
  have HP := Lib.hid hp
  clear hp hB hx
  go_enter Tryz.func157, Tryz.ntmps157
  go_wp2_with fail
  refine HP.out.mono ?_
  rintro e w' ⟨rfl, hpost⟩
  have HQ := Lib.hid hpost
  clear hpost
  go_wp2
  go_ret
  exact ⟨rfl, HQ.out⟩

set_option maxHeartbeats 400000 in
theorem pack1_no (wb vb pb : Nat) (x : Int) (W : Nat) (w : World) (h1 : w.cell? ⟨wb, 0, none⟩ = some (.pointer (some ⟨pb, 0, none⟩))) (h2 : w.cell? ⟨vb, 0, none⟩ = some (.int .i64 (W : Int)))
    (hW : W ≤ 62) (hx1 : -9223372036854775808 ≤ x) (hx2 : x ≤ 9223372036854775807) (hx : ¬ (0 ≤ x ∧ x < 2 ^ W)) :
    Calls Tryz.prog 157 #[.int .i64 x, .pointer (some ⟨wb, 0, none⟩), .pointer (some ⟨vb, 0, none⟩)] w fun e w' => e = .returned (.int .i64 1) ∧ w = w' := by
  have hp := put_no ⟨pb, 0, none⟩ (IntKind.u64.wrap x) (W : Int) w (.inr (.inr (putU_no x W hW hx1 hx2 hx)))
  have HP := Lib.hid hp
  clear hp hx
  go_enter Tryz.func157, Tryz.ntmps157
  go_wp2_with fail
  refine HP.out.mono ?_
  rintro e w' ⟨rfl, rfl⟩
  go_wp2
  go_ret
  exact ⟨rfl, rfl⟩

/-- A row of numbers as a value. -/
def intsV (n W L : Nat) (s : Value) : Value := .agg #[.int .i64 (n : Int), .int .i64 (W : Int), .int .i64 (L : Int), s]
def noInts : Value := .agg #[.int .i64 0, .int .i64 0, .int .i64 0, .slice none 0 0]

set_option maxHeartbeats 400000 in
theorem pack_arg (a0 : Option Addr) (n cap : Nat) (y : Int) (w : World) (h : ¬ (0 ≤ y ∧ y ≤ 62)) :
    Calls Tryz.prog 138 #[.slice a0 n cap, .int .i64 y] w fun e w' => e = .returned (.tuple #[noInts, .int .i64 1]) ∧ Below w.heap.size w w' := by
  have hw := fun u => isWidth_any y u
  rw [decide_eq_false h] at hw
  have HW := Lib.hid hw
  clear hw h
  go_enter Tryz.func138, Tryz.ntmps138
  go_wp2_with fail
  refine (HW.out _).mono ?_
  rintro e w' ⟨rfl, rfl⟩
  go_wp2
  refine bodyPost_ret (v := .tuple #[noInts, .int .i64 1]) (by simp [results, Tryz.results138, go_sem, noInts]) rfl ⟨rfl, ?_⟩
  exact ((Below.refl _ _).alloc (Nat.le_refl _) _).alloc (by simp) _

/-- What Pack holds while it puts numbers: the width in its box, the answer's cells, the builder's address in its box, the builder. -/
structure PK (w : World) (W vb : Nat) (L : List Bool) (s : Value) (u : World) : Prop where
  cw : u.cell? ⟨w.heap.size, 0, none⟩ = some (.int .i64 (W : Int))
  r0 : u.cell? ⟨w.heap.size + 1, 0, none⟩ = some (.int .i64 0)
  r1 : u.cell? ⟨w.heap.size + 1, 1, none⟩ = some (.int .i64 0)
  r2 : u.cell? ⟨w.heap.size + 1, 2, none⟩ = some (.int .i64 0)
  r3 : u.cell? ⟨w.heap.size + 1, 3, none⟩ = some (.slice none 0 0)
  z0 : u.frozen? ⟨w.heap.size + 1, 0, none⟩ = false
  z1 : u.frozen? ⟨w.heap.size + 1, 1, none⟩ = false
  z2 : u.frozen? ⟨w.heap.size + 1, 2, none⟩ = false
  z3 : u.frozen? ⟨w.heap.size + 1, 3, none⟩ = false
  cp : u.cell? ⟨vb, 0, none⟩ = some (.pointer (some ⟨w.heap.size + 1 + 1, 0, none⟩))
  bld : BuildAt u (w.heap.size + 1 + 1) s L
  fr : ∀ k, s.ownBlock = some k → vb < k
  vb' : w.heap.size + 1 + 1 < vb
  bel : Below w.heap.size w u

variable {w u u' : World} {W vb : Nat} {L L' : List Bool} {s : Value}

theorem PK.kp {X : Nat → Prop} (h : PK w W vb L s u) (hb : Kp X u u') (hx : ∀ k, X k → vb < k ∨ k = w.heap.size + 1 + 1) {s' : Value} (hB : BuildAt u' (w.heap.size + 1 + 1) s' L') (hf : ∀ k, s'.ownBlock = some k → vb < k) : PK w W vb L' s' u' := by
  have l1 := World.block_lt_of_cell? u _ h.cw
  have l2 := World.block_lt_of_cell? u _ h.r0
  have l3 := World.block_lt_of_cell? u _ h.cp
  simp only at l1 l2 l3
  have v := h.vb'
  have n1 : ¬ X w.heap.size := fun e => by have := hx _ e; omega
  have n2 : ¬ X (w.heap.size + 1) := fun e => by have := hx _ e; omega
  have n3 : ¬ X vb := fun e => by have := hx _ e; omega
  exact {
    cw := by rw [hb.cell (p := ⟨w.heap.size, 0, none⟩) l1 n1]; exact h.cw
    r0 := by rw [hb.cell (p := ⟨w.heap.size + 1, 0, none⟩) l2 n2]; exact h.r0
    r1 := by rw [hb.cell (p := ⟨w.heap.size + 1, 1, none⟩) l2 n2]; exact h.r1
    r2 := by rw [hb.cell (p := ⟨w.heap.size + 1, 2, none⟩) l2 n2]; exact h.r2
    r3 := by rw [hb.cell (p := ⟨w.heap.size + 1, 3, none⟩) l2 n2]; exact h.r3
    z0 := by rw [hb.frozen (p := ⟨w.heap.size + 1, 0, none⟩) l2 n2]; exact h.z0
    z1 := by rw [hb.frozen (p := ⟨w.heap.size + 1, 1, none⟩) l2 n2]; exact h.z1
    z2 := by rw [hb.frozen (p := ⟨w.heap.size + 1, 2, none⟩) l2 n2]; exact h.z2
    z3 := by rw [hb.frozen (p := ⟨w.heap.size + 1, 3, none⟩) l2 n2]; exact h.z3
    cp := by rw [hb.cell (p := ⟨vb, 0, none⟩) l3 n3]; exact h.cp
    bld := hB
    fr := hf
    vb' := h.vb'
    bel := h.bel.trans (hb.toBelow h.bel.size (fun k hk e => by have := hx _ e; omega)) }

theorem PK.put (h : PK w W vb L s u) (hp : PutPost u (w.heap.size + 1 + 1) s L' u') : ∃ s', PK w W vb L' s' u' := by
  obtain ⟨s', k1, k2, k3⟩ := hp
  have l3 := World.block_lt_of_cell? u _ h.cp
  simp only at l3
  refine ⟨s', h.kp k3 ?_ k1 ?_⟩
  · rintro k (e | e)
    · exact .inr e
    · exact .inl (h.fr k e)
  · intro k hk
    rcases k2 k hk with e | e
    · exact h.fr k e
    · omega

theorem Below.kp {w w' : World} (hb : Below w.heap.size w w') : Kp (fun _ => False) w w' := ⟨hb.os, hb.tape, hb.output, hb.size, fun k hk _ => hb.block k hk⟩

theorem PK.kept (h : PK w W vb L s u) (hb : Below u.heap.size u u') : PK w W vb L s u' :=
  h.kp (X := fun _ => False) (Below.kp hb) (fun _ e => e.elim) (h.bld.kept hb) h.fr

theorem PK.drew (h : PK w W vb L s u) : PK w W vb L s u.drew := h.kept ((Below.refl _ _).drew)

theorem PK.start (w w3 : World) (W : Nat) (hB : BuildAt w3 (w.heap.size + 1 + 1) (.slice none 0 0) [])
    (hb : Below ((w.alloc (.cells #[.int .i64 (W : Int)] 3)).alloc (.cells #[.int .i64 0, .int .i64 0, .int .i64 0, .slice none 0 0] 33)).heap.size ((w.alloc (.cells #[.int .i64 (W : Int)] 3)).alloc (.cells #[.int .i64 0, .int .i64 0, .int .i64 0, .slice none 0 0] 33)) w3) :
    PK w W w3.heap.size [] (.slice none 0 0) (w3.alloc (.cells #[.pointer (some ⟨w.heap.size + 1 + 1, 0, none⟩)] 152)) := by
  have hal : Below w3.heap.size w3 (w3.alloc (.cells #[.pointer (some ⟨w.heap.size + 1 + 1, 0, none⟩)] 152)) := (Below.refl _ _).alloc (Nat.le_refl _) _
  have hbl := hB.lt
  have hc : ∀ (p : Addr), p.block < w.heap.size + 1 + 1 → w3.cell? p = ((w.alloc (.cells #[.int .i64 (W : Int)] 3)).alloc (.cells #[.int .i64 0, .int .i64 0, .int .i64 0, .slice none 0 0] 33)).cell? p := fun p hp => hb.cell (by simpa using hp)
  have hf : ∀ (p : Addr), p.block < w.heap.size + 1 + 1 → w3.frozen? p = ((w.alloc (.cells #[.int .i64 (W : Int)] 3)).alloc (.cells #[.int .i64 0, .int .i64 0, .int .i64 0, .slice none 0 0] 33)).frozen? p := fun p hp => hb.frozen (by simpa using hp)
  have hsz := hb.size
  simp only [World.size_alloc] at hsz
  have hn : ∀ k, (Value.slice none 0 0).ownBlock ≠ some k := fun k e => by simp [Value.ownBlock] at e
  have hcn : ∀ i, i < 4 → (w3.alloc (.cells #[.pointer (some ⟨w.heap.size + 1 + 1, 0, none⟩)] 152)).cell? ⟨w.heap.size + 1, i, none⟩ = (#[.int .i64 0, .int .i64 0, .int .i64 0, .slice none 0 0] : Array Value)[i]? := by
    intro i hi
    rw [cell_old _ _ _ _ (by omega), hc ⟨w.heap.size + 1, i, none⟩ (by simp), cell_new _ _ _ _ _ (by simp)]
  have hfn : ∀ i, (w3.alloc (.cells #[.pointer (some ⟨w.heap.size + 1 + 1, 0, none⟩)] 152)).frozen? ⟨w.heap.size + 1, i, none⟩ = false := by
    intro i
    rw [frozen_old _ _ _ _ (by omega), hf ⟨w.heap.size + 1, i, none⟩ (by simp), frozen_new _ _ _ _ _ (by simp)]
  exact {
    cw := by rw [cell_old _ _ _ _ (by omega), hc ⟨w.heap.size, 0, none⟩ (by simp; omega), cell_old _ _ _ _ (by simp), cell_new _ _ _ _ _ rfl]; rfl
    r0 := hcn 0 (by omega)
    r1 := hcn 1 (by omega)
    r2 := hcn 2 (by omega)
    r3 := hcn 3 (by omega)
    z0 := hfn 0
    z1 := hfn 1
    z2 := hfn 2
    z3 := hfn 3
    cp := by rw [cell_new _ _ _ _ _ rfl]; rfl
    bld := hB.kept hal
    fr := fun k e => absurd e (hn k)
    vb' := hbl
    bel := ((((Below.refl _ _).alloc (Nat.le_refl _) _).alloc (by simp) _).trans (hb.mono (by simp; omega))).trans (hal.mono (by omega)) }

end Go.Proofs.YtpnjccomngdblaaGreat
end

section
/- The contract of Pack, walked. -/
namespace Go.Proofs.YtpnjccomngdblaaGreat
open Go.RowKit
open M

/-- The numbers are int's. -/
def I64s (xs : List Int) : Prop := ∀ x ∈ xs, -9223372036854775808 ≤ x ∧ x ≤ 9223372036854775807

theorem takeI_snoc (xs : List Int) (i : Nat) (h : i < xs.length) : xs.take (i + 1) = xs.take i ++ [xs.getD i 0] := by
  rw [List.take_succ_eq_append_getElem h]
  simp [List.getD_eq_getElem?_getD, h]

theorem memI (xs : List Int) (i : Nat) (h : i < xs.length) : xs.getD i 0 ∈ xs := by
  simp [List.getD_eq_getElem?_getD, h]

theorem pack1_pk {w u : World} {W vb : Nat} {xs : List Int} {i : Nat} {s : Value} (h : PK w W vb (rowB (xs.take i) W) s u) (hW : W ≤ 62) (hi : i < xs.length) (hn : xs.length ≤ 10000000) (hx : 0 ≤ xs.getD i 0 ∧ xs.getD i 0 < 2 ^ W) :
    Calls Tryz.prog 157 #[.int .i64 (xs.getD i 0), .pointer (some ⟨vb, 0, none⟩), .pointer (some ⟨w.heap.size, 0, none⟩)] u fun e u' => e = .returned (.int .i64 0) ∧ ∃ s', PK w W vb (rowB (xs.take (i + 1)) W) s' u' := by
  obtain ⟨a, m, c, rfl⟩ := h.bld.form
  have hl : (rowB (xs.take i) W).length + W ≤ 1000000000 := by
    rw [rowB_length, List.length_take, Nat.min_eq_left (by omega), ← Nat.succ_mul]
    calc i.succ * W ≤ 10000000 * 62 := Nat.mul_le_mul (by omega) hW
      _ ≤ 1000000000 := by decide
  refine (pack1_ok vb w.heap.size (w.heap.size + 1 + 1) a m c _ (xs.getD i 0) W u h.cp h.cw h.bld hW hl hx).mono ?_
  rintro e u' ⟨rfl, hp⟩
  refine ⟨rfl, ?_⟩
  rw [takeI_snoc xs i hi, rowB_snoc]
  exact h.put hp

theorem bits_pk {w u : World} {W vb N : Nat} {L : List Bool} {s : Value} (h : PK w W vb L s u) (hN : L.length = N) (hl : N ≤ 1000000000) :
    Calls Tryz.prog 159 #[.pointer (some ⟨w.heap.size + 1 + 1, 0, none⟩)] u fun e u' => ∃ g, e = .returned (.agg #[.int .i64 (N : Int), .slice (some ⟨g, 0, none⟩) (nw N) (nw N)]) ∧
      RowAt u' (.slice (some ⟨g, 0, none⟩) (nw N) (nw N)) L ∧ PK w W vb L s u' ∧ w.heap.size + 1 < g := by
  subst hN
  obtain ⟨a, m, c, rfl⟩ := h.bld.form
  have l3 := h.bld.lt
  refine (bits_any (w.heap.size + 1 + 1) a m c L u h.bld hl).mono ?_
  rintro e u' ⟨rfl, hr, hb⟩
  exact ⟨_, rfl, hr, h.kept hb, by omega⟩

theorem row_stored4 {w u : World} {g m c : Nat} {l : List Bool} (h : RowAt u (.slice (some ⟨g, 0, none⟩) m c) l) (hg : w.heap.size + 1 < g) (v0 v1 v2 v3 : Value) :
    RowAt ((((u.setCell ⟨w.heap.size + 1, 0, none⟩ v0).setCell ⟨w.heap.size + 1, 1, none⟩ v1).setCell ⟨w.heap.size + 1, 2, none⟩ v2).setCell ⟨w.heap.size + 1, 3, none⟩ v3) (.slice (some ⟨g, 0, none⟩) m c) l := by
  have hk : Kp (fun k => k = w.heap.size + 1) u ((((u.setCell ⟨w.heap.size + 1, 0, none⟩ v0).setCell ⟨w.heap.size + 1, 1, none⟩ v1).setCell ⟨w.heap.size + 1, 2, none⟩ v2).setCell ⟨w.heap.size + 1, 3, none⟩ v3) :=
    Kp.setCell (p := ⟨w.heap.size + 1, 3, none⟩) (Kp.setCell (p := ⟨w.heap.size + 1, 2, none⟩) (Kp.setCell (p := ⟨w.heap.size + 1, 1, none⟩) (Kp.setCell (p := ⟨w.heap.size + 1, 0, none⟩) (Kp.refl (fun k => k = w.heap.size + 1) u) (.inl rfl) _) (.inl rfl) _) (.inl rfl) _) (.inl rfl) _
  refine row_kp h hk ?_
  intro k e
  simp [Value.ownBlock] at e
  omega

theorem below_stored4 {w u : World} (h : Below w.heap.size w u) (v0 v1 v2 v3 : Value) :
    Below w.heap.size w ((((u.setCell ⟨w.heap.size + 1, 0, none⟩ v0).setCell ⟨w.heap.size + 1, 1, none⟩ v1).setCell ⟨w.heap.size + 1, 2, none⟩ v2).setCell ⟨w.heap.size + 1, 3, none⟩ v3) :=
  (((h.setCell (by simp) _).setCell (by simp) _).setCell (by simp) _).setCell (by simp) _

theorem PK.stored {w u : World} {W vb : Nat} {L : List Bool} {s : Value} (h : PK w W vb L s u) (v0 v1 v2 v3 : Value) :
    ((((u.setCell ⟨w.heap.size + 1, 0, none⟩ v0).setCell ⟨w.heap.size + 1, 1, none⟩ v1).setCell ⟨w.heap.size + 1, 2, none⟩ v2).setCell ⟨w.heap.size + 1, 3, none⟩ v3).cell? ⟨w.heap.size, 0, none⟩ = some (.int .i64 (W : Int)) ∧
    ((((u.setCell ⟨w.heap.size + 1, 0, none⟩ v0).setCell ⟨w.heap.size + 1, 1, none⟩ v1).setCell ⟨w.heap.size + 1, 2, none⟩ v2).setCell ⟨w.heap.size + 1, 3, none⟩ v3).cell? ⟨vb, 0, none⟩ = some (.pointer (some ⟨w.heap.size + 1 + 1, 0, none⟩)) := by
  have hv := h.vb'
  have n : ∀ i, (⟨w.heap.size + 1, i, none⟩ : Addr) ≠ ⟨vb, 0, none⟩ := fun i e => by
    simp only [Addr.mk.injEq] at e; omega
  constructor
  · rw [World.cell?_setCell_other _ _ _ _ (by simp), World.cell?_setCell_other _ _ _ _ (by simp), World.cell?_setCell_other _ _ _ _ (by simp), World.cell?_setCell_other _ _ _ _ (by simp)]; exact h.cw
  · rw [World.cell?_setCell_other _ _ _ _ (n _), World.cell?_setCell_other _ _ _ _ (n _), World.cell?_setCell_other _ _ _ _ (n _), World.cell?_setCell_other _ _ _ _ (n _)]; exact h.cp

set_option maxHeartbeats 1000000 in
theorem pack_ok (a0 : Option Addr) (n cap : Nat) (xs : List Int) (W : Nat) (w : World) (hx : NumsAt .i64 w a0 xs) (hn : xs.length = n) (hW : W ≤ 62) (hn' : n ≤ 10000000) (hfit : Fits xs W) :
    Calls Tryz.prog 138 #[.slice a0 n cap, .int .i64 (W : Int)] w fun e w' => ∃ g, e = .returned (.tuple #[intsV n W (n * W) (.slice (some ⟨g, 0, none⟩) (nw (n * W)) (nw (n * W))), .int .i64 0]) ∧
      RowAt w' (.slice (some ⟨g, 0, none⟩) (nw (n * W)) (nw (n * W))) (rowB xs W) ∧ w.heap.size ≤ g ∧ Below w.heap.size w w' := by
  have hw := fun u => isWidth_any (W : Int) u
  rw [decide_eq_true (by omega)] at hw
  have HW := Lib.hid hw
  have HX := Lib.hid (And.intro hx (And.intro hn hfit))
  have hNW : n * W ≤ 1000000000 := by
    calc n * W ≤ 10000000 * 62 := Nat.mul_le_mul hn' hW
      _ ≤ 1000000000 := by decide
  clear hw hx hn hfit
  go_enter Tryz.func138, Tryz.ntmps138
  go_wp2_with fail
  refine (HW.out _).mono ?_
  rintro e w' ⟨rfl, rfl⟩
  go_wp2_with fail
  refine (new_any _).mono ?_
  rintro e w3 ⟨rfl, hB, hb⟩
  have hPK := PK.start w w3 W (by simpa using hB) hb
  simp only [World.size_alloc]
  have HP := Lib.hid hPK
  clear hB hb hPK HW
  go_wp2
  generalize w3.alloc (.cells #[.pointer (some ⟨w.heap.size + 1 + 1, 0, none⟩)] 152) = w4 at *
  generalize w3.heap.size = vb at *
  go_loopw [19] (fun v wr => ∃ i : Nat, i ≤ n ∧ v = .int .i64 (i : Int) ∧ ∃ s, PK w W vb (rowB (xs.take i) W) s wr) (fun v _ => n - (intOf v).toNat)
  case atStart => exact ⟨0, Nat.zero_le _, rfl, _, HP.out⟩
  case round =>
    obtain ⟨i, hi, rfl, s, hk⟩ := hrel
    obtain ⟨hx, hn, hfit⟩ := HX.out
    by_cases hlt : i < n
    · rcases hx.kept hk.bel with hnil | ⟨b, off, rfl, hbs, hcs⟩
      · subst hnil; simp at hn; omega
      have hcb := hcs i (by omega)
      have hp := pack1_pk hk hW (by omega) (by omega) (hfit _ (memI xs i (by omega)))
      have q1 : (i : Int) < (n : Int) := by omega
      have q2 : (0 : Int) ≤ (i : Int) := by omega
      have HC := Lib.hid hp
      clear hcs hp hk hn hfit hx HP
      generalize xs.getD i 0 = x at *
      go_wp2_with fail
      refine HC.out.mono ?_
      rintro e w5 ⟨rfl, s', hk⟩
      have HK := Lib.hid hk
      clear hk hcb
      go_wp2
      go_roundw
      case rel => exact ⟨i + 1, by omega, by go_num, s', HK.out⟩
      case measure => simp [intOf]; omega
    · obtain rfl : i = n := by omega
      have hti : xs.take i = xs := by rw [← hn]; simp
      rw [hti] at hk
      have hcw := hk.cw
      have hcp := hk.cp
      have hbits := fun u s (h : PK w W vb (rowB xs W) s u) => bits_pk h (N := i * W) (by rw [rowB_length, hn]) hNW
      have HB := Lib.hid hbits
      clear hbits hti hn hfit hx HP
      generalize hNN : i * W = N at *
      have HNN := Lib.hid hNN
      clear hNN
      go_wp2
      go_region_held3 (fun w' => w'.cell? ⟨w.heap.size, 0, none⟩ = some (.int .i64 (W : Int)) ∧ w'.cell? ⟨vb, 0, none⟩ = some (.pointer (some ⟨w.heap.size + 1 + 1, 0, none⟩)))
        (first
          | exact ⟨hk.cw, hk.cp⟩
          | exact hk.stored _ _ _ _
          | go_keep)
        (first
          | (go_at_call 159; (with_reducible refine (HB.out _ _ hk.drew).mono ?_); clear hcw hcp; rintro e u ⟨g, rfl, hrow, hk, hg⟩; have hcw := hk.cw; have hcp := hk.cp; have r0 := hk.r0; have r1 := hk.r1; have r2 := hk.r2; have r3 := hk.r3; have z0 := hk.z0; have z1 := hk.z1; have z2 := hk.z2; have z3 := hk.z3))
      all_goals
        have HK := Lib.hid (And.intro hk (And.intro hrow hg))
        clear hk hrow hg hcw hcp HB
        go_wp2
        refine bodyPost_ret (v := .tuple #[intsV i W N (.slice (some ⟨g, 0, none⟩) (nw N) (nw N)), .int .i64 0]) (by simp [results, Tryz.results138, go_sem, r0, r1, r2, r3, intsV]) rfl ?_
        clear r0 r1 r2 r3 z0 z1 z2 z3
        obtain ⟨hk, hrow, hg⟩ := HK.out
        obtain rfl := HNN.out
        exact ⟨g, rfl, row_stored4 hrow hg _ _ _ _, by omega, below_stored4 hk.bel _ _ _ _⟩

set_option maxHeartbeats 1000000 in
theorem pack_bad (a0 : Option Addr) (n cap : Nat) (xs : List Int) (W : Nat) (w : World) (hx : NumsAt .i64 w a0 xs) (hn : xs.length = n) (hW : W ≤ 62) (hn' : n ≤ 10000000) (h64 : I64s xs) (hfit : ¬ Fits xs W) :
    Calls Tryz.prog 138 #[.slice a0 n cap, .int .i64 (W : Int)] w fun e w' => e = .returned (.tuple #[noInts, .int .i64 1]) ∧ Below w.heap.size w w' := by
  have hw := fun u => isWidth_any (W : Int) u
  rw [decide_eq_true (by omega)] at hw
  have HW := Lib.hid hw
  have HX := Lib.hid (And.intro hx (And.intro hn (And.intro hfit h64)))
  clear hw hx hn hfit h64
  go_enter Tryz.func138, Tryz.ntmps138
  go_wp2_with fail
  refine (HW.out _).mono ?_
  rintro e w' ⟨rfl, rfl⟩
  go_wp2_with fail
  refine (new_any _).mono ?_
  rintro e w3 ⟨rfl, hB, hb⟩
  have hPK := PK.start w w3 W (by simpa using hB) hb
  simp only [World.size_alloc]
  have HP := Lib.hid hPK
  clear hB hb hPK HW
  go_wp2
  generalize w3.alloc (.cells #[.pointer (some ⟨w.heap.size + 1 + 1, 0, none⟩)] 152) = w4 at *
  generalize w3.heap.size = vb at *
  go_loopw [19] (fun v wr => ∃ i : Nat, i ≤ n ∧ v = .int .i64 (i : Int) ∧ Fits (xs.take i) W ∧ ∃ s, PK w W vb (rowB (xs.take i) W) s wr) (fun v _ => n - (intOf v).toNat)
  case atStart => exact ⟨0, Nat.zero_le _, rfl, by simp [Fits], _, HP.out⟩
  case round =>
    obtain ⟨i, hi, rfl, hft, s, hk⟩ := hrel
    obtain ⟨hx, hn, hfit, h64⟩ := HX.out
    by_cases hlt : i < n
    · rcases hx.kept hk.bel with hnil | ⟨b, off, rfl, hbs, hcs⟩
      · subst hnil; simp at hn; omega
      have hcb := hcs i (by omega)
      have q1 : (i : Int) < (n : Int) := by omega
      have q2 : (0 : Int) ≤ (i : Int) := by omega
      by_cases hxi : 0 ≤ xs.getD i 0 ∧ xs.getD i 0 < 2 ^ W
      · have hp := pack1_pk hk hW (by omega) (by omega) hxi
        have hft' : Fits (xs.take (i + 1)) W := by
          rw [takeI_snoc xs i (by omega)]
          intro x hx
          rcases List.mem_append.1 hx with h | h
          · exact hft x h
          · simp only [List.mem_singleton] at h; subst h; exact hxi
        have HC := Lib.hid (And.intro hp hft')
        clear hcs hp hk hn hfit hx HP hxi hft hft' h64
        generalize xs.getD i 0 = x at *
        go_wp2_with fail
        refine HC.out.1.mono ?_
        rintro e w5 ⟨rfl, s', hk⟩
        have HK := Lib.hid hk
        clear hk hcb
        go_wp2
        go_roundw
        case rel => exact ⟨i + 1, by omega, by go_num, HC.out.2, s', HK.out⟩
        case measure => simp [intOf]; omega
      · have hr := h64 _ (memI xs i (by omega))
        have hp := pack1_no vb w.heap.size (w.heap.size + 1 + 1) (xs.getD i 0) W wr hk.cp hk.cw hW hr.1 hr.2 hxi
        obtain ⟨cw, r0, r1, r2, r3, z0, z1, z2, z3, -, -, -, -, hbel⟩ := hk
        have HC := Lib.hid (And.intro hp hbel)
        clear hcs hp hn hfit hx HP hxi hft h64 hbel hr cw
        generalize xs.getD i 0 = x at *
        go_wp2_with fail
        refine HC.out.1.mono ?_
        rintro e w5 ⟨rfl, rfl⟩
        go_wp2
        refine bodyPost_ret (v := .tuple #[noInts, .int .i64 1]) (by simp [results, Tryz.results138, go_sem, r0, r1, r2, r3, noInts]) rfl ?_
        exact ⟨rfl, below_stored4 HC.out.2 _ _ _ _⟩
    · exfalso
      have hti : xs.take i = xs := by rw [List.take_of_length_le (by omega)]
      rw [hti] at hft
      exact hfit hft

end Go.Proofs.YtpnjccomngdblaaGreat
end

section
/- The contracts of Len, Width, Get, At, Bytes, Same of rows of numbers. -/
namespace Go.Proofs.YtpnjccomngdblaaGreat
open Go.RowKit
open M

theorem rowB_drop (xs : List Int) (W i : Nat) (h : i ≤ xs.length) : (rowB xs W).drop (i * W) = rowB (xs.drop i) W := by
  have e : rowB xs W = rowB (xs.take i) W ++ rowB (xs.drop i) W := by
    unfold rowB
    rw [← List.flatten_append, ← List.map_append, List.take_append_drop]
  have hl : (rowB (xs.take i) W).length = i * W := by rw [rowB_length, List.length_take, Nat.min_eq_left h]
  rw [e, List.drop_append_of_le_length (by omega), ← hl]
  simp

theorem rowB_cons (x : Int) (xs : List Int) (W : Nat) : rowB (x :: xs) W = bitsOf x.toNat W ++ rowB xs W := by simp [rowB]

theorem rowB_at (xs : List Int) (W i : Nat) (h : i < xs.length) : ((rowB xs W).drop (i * W)).take W = bitsOf (xs.getD i 0).toNat W := by
  rw [rowB_drop xs W i (by omega), List.drop_eq_getElem_cons h]
  rw [rowB_cons, List.take_append_of_le_length (by rw [bitsOf_length]; omega), List.take_of_length_le (by rw [bitsOf_length]; omega)]
  simp [List.getD_eq_getElem?_getD, h]

theorem mul_lt (i n W : Nat) (h : i < n) : i * W + W ≤ n * W := by
  rw [← Nat.succ_mul]; exact Nat.mul_le_mul_right _ h

set_option maxHeartbeats 1000000 in
theorem iget_in (n W L : Nat) (a : Option Addr) (m c : Nat) (xs : List Int) (i : Nat) (w : World) (h : RowAt w (.slice a m c) (rowB xs W)) (hn : xs.length = n) (hL : n * W = L) (hl : L ≤ 1000000000) (_hn' : n ≤ 1000000000) (hW : W ≤ 62) (hfit : Fits xs W) (hi : i < n) :
    Calls Tryz.prog 59 #[intsV n W L (.slice a m c), .int .i64 (i : Int)] w fun e w' => e = .returned (.tuple #[.int .i64 (xs.getD i 0), .int .i64 0]) ∧ Below w.heap.size w w' := by
  unfold intsV
  have hrl : (rowB xs W).length = L := by rw [rowB_length, hn, hL]
  have hal := fun o => ((Below.refl w.heap.size w).alloc (Nat.le_refl _) o)
  have hm := mul_lt i n W hi
  have hb := fun o => number_in a m c (rowB xs W) (i * W) W (w.alloc o) (h.kept (hal o)) (by omega) (by omega) (by omega)
  rw [rowB_at xs W i (by omega), hrl] at hb
  have hx := hfit _ (memI xs i (by omega))
  have hpw : ((2 : Int) ^ W) ≤ 2 ^ 62 := by
    have h2 : (2 : Nat) ^ W ≤ 2 ^ 62 := Nat.pow_le_pow_right (by decide) hW
    have e : ((2 : Int) ^ W) = ((2 ^ W : Nat) : Int) := by simp
    rw [e]; exact_mod_cast h2
  have hx2 : (xs.getD i 0) < 4611686018427387904 := by omega
  have hnum : ((num (bitsOf (xs.getD i 0).toNat W) : Nat) : Int) = xs.getD i 0 := by
    rw [← putU_ok _ W hW hx.1 hx.2, IntKind.wrap_u64]; omega
  have hx1 := hx.1
  rw [hnum] at hb
  have HB := Lib.hid hb
  have q1 : (i : Int) * (W : Int) ≤ 1000000000 := by
    have : ((i * W : Nat) : Int) ≤ 1000000000 := by omega
    simpa using this
  have q2 : 0 ≤ (i : Int) * (W : Int) := Int.mul_nonneg (by omega) (by omega)
  have q3 : ((i * W : Nat) : Int) = (i : Int) * (W : Int) := by simp
  rw [q3] at HB
  clear hb h hrl hx hpw hnum hfit hm hL q3
  generalize xs.getD i 0 = x at *
  go_enter Tryz.func59, Tryz.ntmps59
  go_wp2_with fail
  refine (HB.out _).mono ?_
  rintro e w' ⟨rfl, hb⟩
  have HB2 := Lib.hid hb
  clear hb HB
  go_wp2
  go_ret2
  exact ⟨rfl, (hal _).trans (HB2.out.mono (by simp))⟩

set_option maxHeartbeats 400000 in
theorem iget_out (n W L : Nat) (a : Option Addr) (m c : Nat) (i : Int) (w : World) (hi : i < 0 ∨ (n : Int) ≤ i) :
    Calls Tryz.prog 59 #[intsV n W L (.slice a m c), .int .i64 i] w fun e w' => e = .returned (.tuple #[.int .i64 0, .int .i64 13]) ∧ Below w.heap.size w w' := by
  unfold intsV
  by_cases h0 : i < 0
  · clear hi
    go_enter Tryz.func59, Tryz.ntmps59
    go_wp2
    go_ret2
    exact ⟨rfl, (Below.refl _ _).alloc (Nat.le_refl _) _⟩
  · have hi : (n : Int) ≤ i := by omega
    go_enter Tryz.func59, Tryz.ntmps59
    go_wp2
    go_ret2
    exact ⟨rfl, (Below.refl _ _).alloc (Nat.le_refl _) _⟩

/-- Number i of a row; -1, if there is none. -/
def atI (xs : List Int) (i : Int) : Int := if 0 ≤ i ∧ i < xs.length then xs.getD i.toNat 0 else -1

/-- What a row of numbers is in memory. -/
structure IRow (w : World) (n W L : Nat) (a : Option Addr) (m c : Nat) (xs : List Int) : Prop where
  row : RowAt w (.slice a m c) (rowB xs W)
  len : xs.length = n
  mul : n * W = L
  fit : Fits xs W
  hW : W ≤ 62
  hn : n ≤ 10000000

theorem IRow.lb {w : World} {n W L : Nat} {a : Option Addr} {m c : Nat} {xs : List Int} (h : IRow w n W L a m c xs) : L ≤ 1000000000 := by
  rw [← h.mul]
  calc n * W ≤ 10000000 * 62 := Nat.mul_le_mul h.hn h.hW
    _ ≤ 1000000000 := by decide

theorem IRow.kept {w w' : World} {n W L : Nat} {a : Option Addr} {m c : Nat} {xs : List Int} (h : IRow w n W L a m c xs) (hb : Below w.heap.size w w') : IRow w' n W L a m c xs :=
  { h with row := h.row.kept hb }

end Go.Proofs.YtpnjccomngdblaaGreat
end

section
/- The contracts of Same, Find, Tight and List of rows of numbers. -/
namespace Go.Proofs.YtpnjccomngdblaaGreat
open Go.RowKit
open M

theorem fits_num (x : Int) (W : Nat) (h : 0 ≤ x ∧ x < 2 ^ W) : (num (bitsOf x.toNat W) : Int) = x := by
  have e : ((2 : Int) ^ W) = ((2 ^ W : Nat) : Int) := by simp
  rw [e] at h
  rw [num_bitsOf _ _ (by omega)]
  omega

theorem rowB_inj (W : Nat) : ∀ (xs ys : List Int), xs.length = ys.length → Fits xs W → Fits ys W → rowB xs W = rowB ys W → xs = ys
  | [], [], _, _, _, _ => rfl
  | x :: xs, y :: ys, hl, hx, hy, h => by
    rw [rowB_cons, rowB_cons] at h
    obtain ⟨h1, h2⟩ := List.append_inj h (by rw [bitsOf_length, bitsOf_length])
    have e : x = y := by
      rw [← fits_num x W (hx x (by simp)), ← fits_num y W (hy y (by simp)), h1]
    rw [e, rowB_inj W xs ys (by simpa using hl) (fun z hz => hx z (by simp [hz])) (fun z hz => hy z (by simp [hz])) h2]

/-- The first place whose number is x or more; the length, if there is none. -/
def findN (xs : List Int) (x : Int) : Nat := xs.findIdx fun y => decide (x ≤ y)

/-- The row does not fall. -/
def Rises (xs : List Int) : Prop := ∀ i j, i ≤ j → j < xs.length → xs.getD i 0 ≤ xs.getD j 0

theorem findN_eq (xs : List Int) (x : Int) (k : Nat) (hk : k ≤ xs.length) (h1 : ∀ j, j < k → xs.getD j 0 < x) (h2 : k < xs.length → x ≤ xs.getD k 0) : findN xs x = k := by
  unfold findN
  rcases Nat.lt_or_ge k xs.length with h | h
  · rw [List.findIdx_eq h]
    refine ⟨?_, ?_⟩
    · have := h2 h
      simpa [List.getD_eq_getElem?_getD, h] using this
    · intro j hj
      have := h1 j hj
      have hj2 : j < xs.length := by omega
      simp [List.getD_eq_getElem?_getD, hj2] at this
      simp; omega
  · have e : k = xs.length := by omega
    rw [e, List.findIdx_eq_length]
    intro y hy
    obtain ⟨j, hj, rfl⟩ := List.getElem_of_mem hy
    have := h1 j (by omega)
    simp [List.getD_eq_getElem?_getD, hj] at this
    simp; omega

/-- The four cells of a boxed row of numbers. -/
structure IBx (w : World) (b n W L : Nat) (s : Value) : Prop where
  c0 : w.cell? ⟨b, 0, none⟩ = some (.int .i64 (n : Int))
  c1 : w.cell? ⟨b, 1, none⟩ = some (.int .i64 (W : Int))
  c2 : w.cell? ⟨b, 2, none⟩ = some (.int .i64 (L : Int))
  c3 : w.cell? ⟨b, 3, none⟩ = some s
theorem IBx.lt {w : World} {b n W L : Nat} {s : Value} (h : IBx w b n W L s) : b < w.heap.size := World.block_lt_of_cell? w _ h.c0
theorem IBx.kp {X : Nat → Prop} {w w' : World} {b n W L : Nat} {s : Value} (h : IBx w b n W L s) (hb : Kp X w w') (hx : ¬ X b) : IBx w' b n W L s :=
  ⟨by rw [hb.cell (p := ⟨b, 0, none⟩) h.lt hx]; exact h.c0, by rw [hb.cell (p := ⟨b, 1, none⟩) h.lt hx]; exact h.c1, by rw [hb.cell (p := ⟨b, 2, none⟩) h.lt hx]; exact h.c2, by rw [hb.cell (p := ⟨b, 3, none⟩) h.lt hx]; exact h.c3⟩
theorem IBx.kept {w w' : World} {b n W L : Nat} {s : Value} (h : IBx w b n W L s) (hb : Below w.heap.size w w') : IBx w' b n W L s := h.kp (Below.kp hb) id
theorem IBx.new (w : World) (n W L : Nat) (s : Value) : IBx (w.alloc (.cells #[.int .i64 (n : Int), .int .i64 (W : Int), .int .i64 (L : Int), s] 33)) w.heap.size n W L s := ⟨by simp, by simp, by simp, by simp⟩

/-- What holds while Find looks: numbers ahead of p are below x, that at q isn't. -/
structure FN (w : World) (n W L : Nat) (a : Option Addr) (m c : Nat) (xs : List Int) (x : Int) (p q : Nat) (u : World) : Prop where
  box : IBx u w.heap.size n W L (.slice a m c)
  row : IRow u n W L a m c xs
  bel : Below w.heap.size w u
  pq : p ≤ q
  qn : q ≤ n
  low : ∀ j, j < p → xs.getD j 0 < x
  high : q < n → x ≤ xs.getD q 0

theorem FN.kept {w u u' : World} {n W L : Nat} {a : Option Addr} {m c : Nat} {xs : List Int} {x : Int} {p q : Nat} (h : FN w n W L a m c xs x p q u) (hb : Below u.heap.size u u') : FN w n W L a m c xs x p q u' :=
  { h with box := h.box.kept hb, row := h.row.kept hb, bel := h.bel.trans (hb.mono h.bel.size) }

theorem atI_in (xs : List Int) (k : Nat) (h : k < xs.length) : atI xs (k : Int) = xs.getD k 0 := by
  unfold atI; rw [if_pos (by omega)]; simp

/-- The greatest of the numbers and 0. -/
def mostI (xs : List Int) : Int := xs.foldl max 0

theorem mostI_snoc (xs : List Int) (x : Int) : mostI (xs ++ [x]) = max (mostI xs) x := by simp [mostI, List.foldl_append]

theorem foldl_max (xs : List Int) (y : Int) : y ≤ xs.foldl max y ∧ (∀ x ∈ xs, x ≤ xs.foldl max y) ∧ (xs.foldl max y = y ∨ xs.foldl max y ∈ xs) := by
  induction xs generalizing y with
  | nil => simp
  | cons x xs ih =>
    obtain ⟨h1, h2, h3⟩ := ih (max y x)
    simp only [List.foldl_cons]
    refine ⟨by omega, ?_, ?_⟩
    · intro z hz
      rcases List.mem_cons.1 hz with e | e
      · subst e; omega
      · exact h2 z e
    · rcases h3 with e | e
      · rcases Int.le_total y x with h | h
        · right; rw [e, Int.max_eq_right h]; simp
        · left; rw [e, Int.max_eq_left h]
      · right; simp [e]

theorem mostI_ge (xs : List Int) : 0 ≤ mostI xs ∧ ∀ x ∈ xs, x ≤ mostI xs := ⟨(foldl_max xs 0).1, (foldl_max xs 0).2.1⟩
theorem mostI_mem (xs : List Int) : mostI xs = 0 ∨ mostI xs ∈ xs := (foldl_max xs 0).2.2

/-- What Tight holds while it looks for the greatest. -/
structure TG (w : World) (a : Option Addr) (xs : List Int) (u : World) : Prop where
  r0 : u.cell? ⟨w.heap.size, 0, none⟩ = some (.int .i64 0)
  r1 : u.cell? ⟨w.heap.size, 1, none⟩ = some (.int .i64 0)
  r2 : u.cell? ⟨w.heap.size, 2, none⟩ = some (.int .i64 0)
  r3 : u.cell? ⟨w.heap.size, 3, none⟩ = some (.slice none 0 0)
  z0 : u.frozen? ⟨w.heap.size, 0, none⟩ = false
  z1 : u.frozen? ⟨w.heap.size, 1, none⟩ = false
  z2 : u.frozen? ⟨w.heap.size, 2, none⟩ = false
  z3 : u.frozen? ⟨w.heap.size, 3, none⟩ = false
  nums : NumsAt .i64 u a xs
  bel : Below w.heap.size w u

theorem TG.kept {w u u' : World} {a : Option Addr} {xs : List Int} (h : TG w a xs u) (hb : Below u.heap.size u u') : TG w a xs u' := by
  have l := World.block_lt_of_cell? u _ h.r0
  simp only at l
  exact ⟨by rw [hb.cell (p := ⟨w.heap.size, 0, none⟩) l]; exact h.r0, by rw [hb.cell (p := ⟨w.heap.size, 1, none⟩) l]; exact h.r1, by rw [hb.cell (p := ⟨w.heap.size, 2, none⟩) l]; exact h.r2, by rw [hb.cell (p := ⟨w.heap.size, 3, none⟩) l]; exact h.r3,
    by rw [hb.frozen (p := ⟨w.heap.size, 0, none⟩) l]; exact h.z0, by rw [hb.frozen (p := ⟨w.heap.size, 1, none⟩) l]; exact h.z1, by rw [hb.frozen (p := ⟨w.heap.size, 2, none⟩) l]; exact h.z2, by rw [hb.frozen (p := ⟨w.heap.size, 3, none⟩) l]; exact h.z3,
    h.nums.kept hb, h.bel.trans (hb.mono h.bel.size)⟩

theorem TG.start (w : World) (a : Option Addr) (xs : List Int) (h : NumsAt .i64 w a xs) : TG w a xs (w.alloc (.cells #[.int .i64 0, .int .i64 0, .int .i64 0, .slice none 0 0] 33)) := by
  have hal : Below w.heap.size w (w.alloc (.cells #[.int .i64 0, .int .i64 0, .int .i64 0, .slice none 0 0] 33)) := (Below.refl _ _).alloc (Nat.le_refl _) _
  exact ⟨by simp, by simp, by simp, by simp, by simp, by simp, by simp, by simp, h.kept hal, hal⟩

theorem below_set4 {w u : World} {b : Nat} (h : Below w.heap.size w u) (hb : w.heap.size ≤ b) (v0 v1 v2 v3 : Value) :
    Below w.heap.size w ((((u.setCell ⟨b, 0, none⟩ v0).setCell ⟨b, 1, none⟩ v1).setCell ⟨b, 2, none⟩ v2).setCell ⟨b, 3, none⟩ v3) :=
  (((h.setCell hb _).setCell hb _).setCell hb _).setCell hb _

theorem row_set4 {u : World} {b g m c : Nat} {l : List Bool} (h : RowAt u (.slice (some ⟨g, 0, none⟩) m c) l) (hg : g ≠ b) (v0 v1 v2 v3 : Value) :
    RowAt ((((u.setCell ⟨b, 0, none⟩ v0).setCell ⟨b, 1, none⟩ v1).setCell ⟨b, 2, none⟩ v2).setCell ⟨b, 3, none⟩ v3) (.slice (some ⟨g, 0, none⟩) m c) l := by
  have hk : Kp (fun k => k = b) u ((((u.setCell ⟨b, 0, none⟩ v0).setCell ⟨b, 1, none⟩ v1).setCell ⟨b, 2, none⟩ v2).setCell ⟨b, 3, none⟩ v3) :=
    Kp.setCell (p := ⟨b, 3, none⟩) (Kp.setCell (p := ⟨b, 2, none⟩) (Kp.setCell (p := ⟨b, 1, none⟩) (Kp.setCell (p := ⟨b, 0, none⟩) (Kp.refl (fun k => k = b) u) (.inl rfl) _) (.inl rfl) _) (.inl rfl) _) (.inl rfl) _
  refine row_kp h hk ?_
  intro k e
  simp only [Value.ownBlock, Option.some.injEq] at e
  omega

set_option maxHeartbeats 1000000 in
theorem tight_ok (a0 : Option Addr) (n cap : Nat) (xs : List Int) (W : Nat) (w : World) (hx : NumsAt .i64 w a0 xs) (hn : xs.length = n) (hn' : n ≤ 10000000) (h64 : I64s xs) (hW : wid (mostI xs).toNat = W) (hW2 : W ≤ 62) (hfit : Fits xs W) :
    Calls Tryz.prog 99 #[.slice a0 n cap] w fun e w' => ∃ g, e = .returned (.tuple #[intsV n W (n * W) (.slice (some ⟨g, 0, none⟩) (nw (n * W)) (nw (n * W))), .int .i64 0]) ∧
      RowAt w' (.slice (some ⟨g, 0, none⟩) (nw (n * W)) (nw (n * W))) (rowB xs W) ∧ w.heap.size ≤ g ∧ Below w.heap.size w w' := by
  have HX := Lib.hid (And.intro (TG.start w a0 xs hx) (And.intro hn (And.intro h64 (And.intro hW hfit))))
  clear hx hn h64 hW hfit
  go_enter Tryz.func99, Tryz.ntmps99
  go_wp2
  go_loopw [4, 9] (fun v4 v9 wr => ∃ i : Nat, i ≤ n ∧ v9 = .int .i64 (i : Int) ∧ v4 = .int .i64 (mostI (xs.take i)) ∧ TG w a0 xs wr) (fun _ v9 _ => n - (intOf v9).toNat)
  case atStart => exact ⟨0, Nat.zero_le _, rfl, rfl, HX.out.1⟩
  case round =>
    obtain ⟨i, hi, rfl, rfl, hk⟩ := hrel
    obtain ⟨-, hn, h64, hW, hfit⟩ := HX.out
    by_cases hlt : i < n
    · rcases hk.nums with hnil | ⟨b, off, rfl, hbs, hcs⟩
      · subst hnil; simp at hn; omega
      have hcb := hcs i (by omega)
      have q1 : (i : Int) < (n : Int) := by omega
      have q2 : (0 : Int) ≤ (i : Int) := by omega
      have hsn := mostI_snoc (xs.take i) (xs.getD i 0)
      rw [← takeI_snoc xs i (by omega)] at hsn
      have HC := Lib.hid (And.intro hsn hk)
      clear hcs hk hn hfit h64 hW hsn
      generalize xs.getD i 0 = x at *
      generalize mostI (xs.take i) = y at *
      go_wp2
      go_roundw
      case rel => exact ⟨i + 1, by omega, by go_num, by rw [HC.out.1]; simp only [Value.int.injEq, true_and]; split <;> omega, HC.out.2⟩
      case measure => simp [intOf]; omega
    · obtain rfl : i = n := by omega
      have hti : xs.take i = xs := by rw [← hn]; simp
      rw [hti]
      have hm := mostI_mem xs
      have hmx : mostI xs ≤ 9223372036854775807 := by
        rcases hm with e | e
        · omega
        · exact (h64 _ e).2
      have hwd := fun u => width_any (mostI xs) u hmx
      rw [hW] at hwd
      have hpk := pack_ok a0 i cap xs W wr hk.nums hn hW2 hn' hfit
      have HW := Lib.hid (And.intro hwd (And.intro hpk hk))
      clear hwd hpk hk hti hm hmx hn h64 hW hfit
      generalize mostI xs = y at *
      go_wp2_with fail
      refine (HW.out.1 _).mono ?_
      rintro e w4 ⟨rfl, rfl⟩
      go_wp2_with fail
      refine HW.out.2.1.mono ?_
      rintro e w5 ⟨g, rfl, hrow, hg, hb⟩
      have hk := HW.out.2.2
      have hsz := hk.bel.size
      have l0 := World.block_lt_of_cell? wr _ hk.r0
      obtain ⟨r0, r1, r2, r3, z0, z1, z2, z3, -, hbel⟩ := hk.kept hb
      have HF := Lib.hid (And.intro hrow (And.intro hg (And.intro hbel (And.intro hsz l0))))
      clear hrow hg hb hbel hk HW hsz l0
      unfold intsV
      generalize hNN : i * W = N at *
      have HNN := Lib.hid hNN
      clear hNN
      go_wp2
      refine bodyPost_ret (v := .tuple #[intsV i W N (.slice (some ⟨g, 0, none⟩) (nw N) (nw N)), .int .i64 0]) (by simp [results, Tryz.results99, go_sem, r0, r1, r2, r3, intsV]) rfl ?_
      clear r0 r1 r2 r3 z0 z1 z2 z3
      obtain ⟨hrow, hg, hbel, hsz, l0⟩ := HF.out
      obtain rfl := HNN.out
      exact ⟨g, rfl, row_set4 hrow (by omega) _ _ _ _, by omega, below_set4 hbel (Nat.le_refl _) _ _ _ _⟩

set_option maxHeartbeats 1000000 in
theorem tight_bad (a0 : Option Addr) (n cap : Nat) (xs : List Int) (w : World) (hx : NumsAt .i64 w a0 xs) (hn : xs.length = n) (hn' : n ≤ 10000000) (h64 : I64s xs) (hW2 : wid (mostI xs).toNat ≤ 62) (hfit : ¬ Fits xs (wid (mostI xs).toNat)) :
    Calls Tryz.prog 99 #[.slice a0 n cap] w fun e w' => e = .returned (.tuple #[noInts, .int .i64 1]) ∧ Below w.heap.size w w' := by
  have HX := Lib.hid (And.intro (TG.start w a0 xs hx) (And.intro hn (And.intro h64 (And.intro hW2 hfit))))
  clear hx hn h64 hW2 hfit
  go_enter Tryz.func99, Tryz.ntmps99
  go_wp2
  go_loopw [4, 9] (fun v4 v9 wr => ∃ i : Nat, i ≤ n ∧ v9 = .int .i64 (i : Int) ∧ v4 = .int .i64 (mostI (xs.take i)) ∧ TG w a0 xs wr) (fun _ v9 _ => n - (intOf v9).toNat)
  case atStart => exact ⟨0, Nat.zero_le _, rfl, rfl, HX.out.1⟩
  case round =>
    obtain ⟨i, hi, rfl, rfl, hk⟩ := hrel
    obtain ⟨-, hn, h64, hW2, hfit⟩ := HX.out
    by_cases hlt : i < n
    · rcases hk.nums with hnil | ⟨b, off, rfl, hbs, hcs⟩
      · subst hnil; simp at hn; omega
      have hcb := hcs i (by omega)
      have q1 : (i : Int) < (n : Int) := by omega
      have q2 : (0 : Int) ≤ (i : Int) := by omega
      have hsn := mostI_snoc (xs.take i) (xs.getD i 0)
      rw [← takeI_snoc xs i (by omega)] at hsn
      have HC := Lib.hid (And.intro hsn hk)
      clear hcs hk hn hfit h64 hW2 hsn
      generalize xs.getD i 0 = x at *
      generalize mostI (xs.take i) = y at *
      go_wp2
      go_roundw
      case rel => exact ⟨i + 1, by omega, by go_num, by rw [HC.out.1]; simp only [Value.int.injEq, true_and]; split <;> omega, HC.out.2⟩
      case measure => simp [intOf]; omega
    · obtain rfl : i = n := by omega
      have hti : xs.take i = xs := by rw [← hn]; simp
      rw [hti]
      have hm := mostI_mem xs
      have hmx : mostI xs ≤ 9223372036854775807 := by
        rcases hm with e | e
        · omega
        · exact (h64 _ e).2
      have hwd := fun u => width_any (mostI xs) u hmx
      have hpk := pack_bad a0 i cap xs (wid (mostI xs).toNat) wr hk.nums hn hW2 hn' h64 hfit
      have HW := Lib.hid (And.intro hwd (And.intro hpk hk))
      clear hwd hpk hk hti hm hmx hn h64 hfit hW2
      generalize hW : wid (mostI xs).toNat = W at *
      clear hW
      generalize mostI xs = y at *
      go_wp2_with fail
      refine (HW.out.1 _).mono ?_
      rintro e w4 ⟨rfl, rfl⟩
      go_wp2_with fail
      refine HW.out.2.1.mono ?_
      rintro e w5 ⟨rfl, hb⟩
      obtain ⟨r0, r1, r2, r3, z0, z1, z2, z3, -, hbel⟩ := HW.out.2.2.kept hb
      have HF := Lib.hid hbel
      clear hb hbel HW
      unfold noInts
      go_wp2
      refine bodyPost_ret (v := .tuple #[noInts, .int .i64 1]) (by simp [results, Tryz.results99, go_sem, r0, r1, r2, r3, noInts]) rfl ?_
      exact ⟨rfl, below_set4 HF.out (Nat.le_refl _) _ _ _ _⟩

end Go.Proofs.YtpnjccomngdblaaGreat
end

section
/- The contracts of List, and of the document's own answers: Same, Find, May, Row. -/
namespace Go.Proofs.YtpnjccomngdblaaGreat
open Go.RowKit
open M

theorem info3 : (Tryz.prog.info? 3).map (fun i => (i.zero, i.size, i.bytes)) = some (some (.int .i64 0), 1, 8) := by kernel_rfl

/-- The first i numbers are written, those behind are 0. -/
def liCells (xs : List Int) (n i : Nat) : List Value := (List.range n).map fun k => Value.int .i64 (if k < i then xs.getD k 0 else 0)

theorem liCells_set (xs : List Int) (n i : Nat) : (liCells xs n i).set i (.int .i64 (xs.getD i 0)) = liCells xs n (i + 1) := by
  apply List.ext_getElem
  · simp [liCells]
  · intro j h1 h2
    simp only [liCells, List.getElem_set, List.getElem_map, List.getElem_range]
    by_cases e : i = j
    · subst e; simp
    · simp only [e, if_false]
      by_cases h : j < i
      · simp [h, show j < i + 1 by omega]
      · simp [h, show ¬ j < i + 1 by omega]

theorem liCells_all (xs : List Int) : liCells xs xs.length xs.length = xs.map (Value.int .i64) := by
  apply List.ext_getElem
  · simp [liCells]
  · intro j h1 h2
    simp only [List.length_map] at h2
    simp [liCells, h2, List.getD_eq_getElem?_getD]

theorem nums_of_own {k : IntKind} {w : World} {base : Nat} {e : TypeId} {v : Value} {n : Nat} {xs : List Int} (h : w.ownsRow base e 1 v n (xs.map (Value.int k))) : ∃ a cap, v = .slice a n cap ∧ NumsAt k w a xs ∧ xs.length = n ∧ n ≤ cap ∧ cap ≤ maxLen ∧ (a = none → cap = 0) := by
  have h' := h
  obtain ⟨h1, h2⟩ := h
  have hl : xs.length = n := by simpa using h1
  rcases h2 with ⟨rfl, hn⟩ | ⟨g, cap, cur, rfl, hg, hh, hc1, hc2, hc3, hc4⟩
  · subst hn
    exact ⟨none, 0, rfl, .inl (List.eq_nil_of_length_eq_zero hl), hl, Nat.le_refl _, by unfold maxLen; omega, fun _ => rfl⟩
  · refine ⟨_, cap, rfl, .inr ⟨g, 0, rfl, (World.ownsRow.lt h' g rfl).2, fun j hj => ?_⟩, hl, hc1, hc2, fun e => by simp at e⟩
    rw [Nat.zero_add, World.ownsRow.cellAt h' j (by omega)]
    simp [List.getD_eq_getElem?_getD, hj]

theorem IRow.kp {X : Nat → Prop} {w w' : World} {n W L : Nat} {a : Option Addr} {m c : Nat} {xs : List Int} (h : IRow w n W L a m c xs) (hb : Kp X w w') (hx : ∀ k, (Value.slice a m c).ownBlock = some k → ¬ X k) : IRow w' n W L a m c xs :=
  { h with row := row_kp h.row hb hx }

set_option maxHeartbeats 1000000 in
theorem rsame_any (a1 a2 : Option Addr) (n1 n2 c1 c2 : Nat) (l1 l2 : List Int) (w : World) (h1 : NumsAt .i64 w a1 l1) (h2 : NumsAt .i64 w a2 l2) (e1 : l1.length = n1) (e2 : l2.length = n2) (hl : n1 ≤ 1000000000) :
    Calls Tryz.prog 18 #[.slice a1 n1 c1, .slice a2 n2 c2] w fun e w' => e = .returned (.bool (decide (l1 = l2))) ∧ Below w.heap.size w w' := by
  by_cases hne : n1 = n2
  · subst hne
    have H1 := Lib.hid (And.intro h1 e1)
    have H2 := Lib.hid (And.intro h2 e2)
    clear h1 h2 e1 e2
    go_enter Tryz.func18, Tryz.ntmps18
    go_wp2
    go_loopw [5] (fun v wr => ∃ i : Nat, i ≤ n1 ∧ v = .int .i64 (i : Int) ∧ l1.take i = l2.take i ∧ Below w.heap.size w wr) (fun v _ => n1 - (intOf v).toNat)
    case atStart => exact ⟨0, Nat.zero_le _, rfl, rfl, Below.refl _ _⟩
    case round =>
      obtain ⟨i, hi, rfl, htk, hbel⟩ := hrel
      by_cases hlt : i < n1
      · have hl1 := H1.out.2
        have hl2 := H2.out.2
        rcases H1.out.1.kept hbel with hnil | ⟨b1, o1, rfl, hb1, hc1⟩
        · subst hnil; simp at hl1; omega
        rcases H2.out.1.kept hbel with hnil | ⟨b2, o2, rfl, hb2, hc2⟩
        · subst hnil; simp at hl2; omega
        have d1 := hc1 i (by omega)
        have d2 := hc2 i (by omega)
        have q1 : (i : Int) < (n1 : Int) := by omega
        have q3 : (0 : Int) ≤ (i : Int) := by omega
        have ht1 := takeI_snoc l1 i (by omega)
        have ht2 := takeI_snoc l2 i (by omega)
        by_cases he : l1.getD i 0 = l2.getD i 0
        · have htk2 : l1.take (i + 1) = l2.take (i + 1) := by rw [ht1, ht2, htk, he]
          have HT := Lib.hid (And.intro htk2 hbel)
          rw [← he] at d2
          clear htk2 ht1 ht2 htk he hc1 hc2 hl1 hl2 hbel
          generalize l1.getD i 0 = bv at *
          have hbn : (bv != bv) = false := by simp
          go_wp2
          go_quiet (fail)
          go_wp2
          go_roundw
          case rel => exact ⟨i + 1, by omega, by go_num, HT.out.1, below_drewN HT.out.2 _⟩
          case measure => simp [intOf]; omega
        · have hneq : l1 ≠ l2 := fun e => he (by rw [e])
          have hbn : (l1.getD i 0 != l2.getD i 0) = true := by simpa using he
          have HT := Lib.hid (And.intro hneq hbel)
          clear ht1 ht2 htk hc1 hc2 hl1 hl2 hbel hneq he
          generalize l1.getD i 0 = bv at *
          generalize l2.getD i 0 = cv at *
          go_wp2
          go_quiet (fail)
          go_wp2
          go_ret
          exact ⟨ret_bool (by rw [decide_eq_false HT.out.1]), below_drewN HT.out.2 _⟩
      · obtain rfl : i = n1 := by omega
        have heq : l1 = l2 := by
          have := htk
          rw [List.take_of_length_le (by rw [H1.out.2]; omega), List.take_of_length_le (by rw [H2.out.2]; omega)] at this
          exact this
        have HT := Lib.hid (And.intro heq hbel)
        clear heq hbel htk
        go_wp2
        go_ret
        exact ⟨ret_bool (by rw [decide_eq_true HT.out.1]), HT.out.2⟩
  · have hneq : l1 ≠ l2 := fun e => hne (by rw [← e1, ← e2, e])
    have HT := Lib.hid hneq
    clear h1 h2 e1 e2 hneq
    have hb1 : ((n1 : Int) != (n2 : Int)) = true := by simp; omega
    have hb2 : (n1 != n2) = true := by simp; omega
    go_enter Tryz.func18, Tryz.ntmps18
    go_wp2
    go_ret
    exact ⟨ret_bool (by rw [decide_eq_false HT.out]), Below.refl _ _⟩

end Go.Proofs.YtpnjccomngdblaaGreat
end

section
/- awake answers true; the contract of few. -/
namespace Go.Proofs.YtpnjccomngdblaaGreat
open Go.RowKit
open M

theorem wid_eq (n k : Nat) (h1 : n < 2 ^ (k + 1)) (h2 : 2 ^ k ≤ n) : wid n = k + 1 := by
  apply Nat.le_antisymm
  · exact (wid_le _ _).2 h1
  · rcases Nat.lt_or_ge (wid n) (k + 1) with h | h
    · have := (wid_le n k).1 (by omega); omega
    · exact h

/-- Two boxed rows of numbers of the call's own. -/
structure A2 (w : World) (bx nx Wx Lx : Nat) (ax : Option Addr) (mx cx : Nat) (xs : List Int) (b n W L : Nat) (a : Option Addr) (m c : Nat) (ys : List Int) (u : World) : Prop where
  bx : IBx u bx nx Wx Lx (.slice ax mx cx)
  rx : IRow u nx Wx Lx ax mx cx xs
  by' : IBx u b n W L (.slice a m c)
  ry : IRow u n W L a m c ys
  bel : Below w.heap.size w u

theorem A2.kept {w u u' : World} {bx nx Wx Lx : Nat} {ax : Option Addr} {mx cx : Nat} {xs : List Int} {b n W L : Nat} {a : Option Addr} {m c : Nat} {ys : List Int} (h : A2 w bx nx Wx Lx ax mx cx xs b n W L a m c ys u) (hb : Below u.heap.size u u') : A2 w bx nx Wx Lx ax mx cx xs b n W L a m c ys u' :=
  ⟨h.bx.kept hb, h.rx.kept hb, h.by'.kept hb, h.ry.kept hb, h.bel.trans (hb.mono h.bel.size)⟩

def X3 : List Int := [5, 1, 7]
def X4 : List Int := [1, 3, 4, 9]

theorem x3_fits : Fits X3 3 := by intro x hx; simp [X3] at hx; omega
theorem x4_fits : Fits X4 4 := by intro x hx; simp [X4] at hx; omega
theorem x4_64 : I64s X4 := by intro x hx; simp [X4] at hx; omega
theorem x4_wid : wid (mostI X4).toNat = 4 := by
  have e : (mostI X4).toNat = 9 := by decide
  rw [e]; exact wid_eq 9 3 (by decide) (by decide)
theorem x4_rises : Rises X4 := by
  intro i j hij hj
  simp only [X4, List.length_cons, List.length_nil] at hj
  match j, hj with
  | 0, _ => obtain rfl : i = 0 := by omega
            decide
  | 1, _ => rcases (show i = 0 ∨ i = 1 by omega) with rfl | rfl <;> decide
  | 2, _ => rcases (show i = 0 ∨ i = 1 ∨ i = 2 by omega) with rfl | rfl | rfl <;> decide
  | 3, _ => rcases (show i = 0 ∨ i = 1 ∨ i = 2 ∨ i = 3 by omega) with rfl | rfl | rfl | rfl <;> decide
theorem x3_bytes : bytI (rowB X3 3) (p8 9) = [205, 1] := by decide
theorem x4_find : findN X4 4 = 2 := by decide

theorem pack3 (u : World) (b : Nat) (h : ∀ j, j < 3 → u.cell? ⟨b, j, none⟩ = some (.int .i64 (X3.getD j 0))) (hb : b < u.heap.size) :
    Calls Tryz.prog 138 #[.slice (some ⟨b, 0, none⟩) 3 3, .int .i64 3] u fun e w' => ∃ g, e = .returned (.tuple #[.agg #[.int .i64 3, .int .i64 3, .int .i64 9, .slice (some ⟨g, 0, none⟩) 1 1], .int .i64 0]) ∧ IRow w' 3 3 9 (some ⟨g, 0, none⟩) 1 1 X3 ∧ Below u.heap.size u w' := by
  refine (pack_ok (some ⟨b, 0, none⟩) 3 3 X3 3 u (.inr ⟨b, 0, rfl, hb, fun j hj => by rw [Nat.zero_add]; exact h j hj⟩) rfl (by omega) (by omega) x3_fits).mono ?_
  rintro e w' ⟨g, rfl, hr, -, hbel⟩
  exact ⟨g, rfl, ⟨hr, rfl, rfl, x3_fits, by omega, by omega⟩, hbel⟩

theorem tight4 (u : World) (b : Nat) (h : ∀ j, j < 4 → u.cell? ⟨b, j, none⟩ = some (.int .i64 (X4.getD j 0))) (hb : b < u.heap.size) :
    Calls Tryz.prog 99 #[.slice (some ⟨b, 0, none⟩) 4 4] u fun e w' => ∃ g, e = .returned (.tuple #[.agg #[.int .i64 4, .int .i64 4, .int .i64 16, .slice (some ⟨g, 0, none⟩) 1 1], .int .i64 0]) ∧ IRow w' 4 4 16 (some ⟨g, 0, none⟩) 1 1 X4 ∧ Below u.heap.size u w' := by
  refine (tight_ok (some ⟨b, 0, none⟩) 4 4 X4 4 u (.inr ⟨b, 0, rfl, hb, fun j hj => by rw [Nat.zero_add]; exact h j hj⟩) rfl (by omega) x4_64 x4_wid (by omega) x4_fits).mono ?_
  rintro e w' ⟨g, rfl, hr, -, hbel⟩
  exact ⟨g, rfl, ⟨hr, rfl, rfl, x4_fits, by omega, by omega⟩, hbel⟩

end Go.Proofs.YtpnjccomngdblaaGreat
end

section
/- What the reading of an argument says of it: slices of numbers, pairs of numbers. -/
namespace Go.Proofs.YtpnjccomngdblaaGreat
open Go.RowKit
open M

theorem cells3 : Tryz.prog.cellsOf 3 = 1 := by kernel_rfl
theorem cells5 : Tryz.prog.cellsOf 5 = 1 := by kernel_rfl
theorem arr_two {cs : Array Value} (h : cs.size = 2) : ∃ a b, cs = #[a, b] := by
  obtain ⟨l⟩ := cs
  match l, h with
  | [a, b], _ => exact ⟨a, b, rfl⟩

theorem nums_in2 {H : Type} {enc : TypeId × Value → H} {W : World} {a0 : Option Addr} {len cap : Nat} {x : DataW H} {pl : List MemPlace} {t e : TypeId} {k : IntKind}
    (ht : Tryz.prog.underlying t = some (.slice e)) (he : Tryz.prog.underlying e = some (.int k)) (hc : Tryz.prog.cellsOf e = 1)
    (h : DataW.Trod enc Tryz.prog W 0 (fun _ => true) true t (.slice a0 len cap) x pl) : ∃ xs : List Int, xs.length = len ∧ len ≤ cap ∧ cap ≤ maxLen ∧ NumsAt k W a0 xs ∧ ∀ n ∈ xs, (Lit.int k n).wf = true := by
  obtain ⟨xs, h1, h2, h3, h4⟩ := nums_in ht he hc h
  refine ⟨xs, h1, ?_, ?_, h3, h4⟩
  all_goals
    obtain ⟨fuel, hf⟩ := h
    rcases Go.ChangeShapes.open_ints ht he hc hf with ⟨hcs, _⟩ | ⟨a, l, c, zs, hcs, _, hl, hm, _⟩
    · simp [Value.cells] at hcs
      obtain ⟨rfl, rfl, rfl⟩ := hcs
      first | omega | (unfold maxLen; omega)
    · simp [Value.cells] at hcs
      obtain ⟨rfl, rfl, rfl⟩ := hcs
      assumption

theorem i64s_of {xs : List Int} (h : ∀ n ∈ xs, (Lit.int .i64 n).wf = true) : I64s xs := fun x hx => bounds_i64 (h x hx)

/-- A pair of numbers, read. -/
theorem pair_in {H : Type} {enc : TypeId × Value → H} {P : Program} {w : World} {base : Nat} {spare : Nat → Bool} {held : Bool} {t e : TypeId} {fuel : Nat} {c0 c1 : Value} {x : DataW H × List MemPlace}
    (ht : P.underlying t = some (.array 2 e)) (hce : P.cellsOf e = 1) (h : DataW.trod enc P w base spare held fuel t [c0, c1] = some x) :
    ∃ y0 y1 n, DataW.trod enc P w base spare held n e [c0] = some y0 ∧ DataW.trod enc P w base spare held n e [c1] = some y1 := by
  cases fuel with
  | zero => simp [DataW.trod] at h
  | succ n =>
    unfold DataW.trod at h
    rw [ht] at h
    simp [show List.range 2 = [0, 1] from rfl, hce] at h
    obtain ⟨_, h⟩ := h
    cases h0 : DataW.trod enc P w base spare held n e [c0] with
    | none => simp [h0] at h
    | some y0 =>
      cases h1 : DataW.trod enc P w base spare held n e [c1] with
      | none => simp [h0, h1] at h
      | some y1 => exact ⟨y0, y1, n, h0, h1⟩

end Go.Proofs.YtpnjccomngdblaaGreat
end

section
/- Numbers cut to a width by 'and'; a row of numbers of the call's own that grows by one. -/
namespace Go.Proofs.YtpnjccomngdblaaGreat
open Go.RowKit
open M

theorem and_mask (x : Int) (i : Nat) (hi : i ≤ 62) : bits .and .i64 x (((2 ^ i - 1 : Nat)) : Int) = x % ((2 ^ i : Nat) : Int) := by
  have hp : (2 : Nat) ^ i ≤ 2 ^ 62 := Nat.pow_le_pow_right (by decide) hi
  have hp0 : (0 : Nat) < 2 ^ i := Nat.pow_pos (by decide)
  have hm : (BitVec.ofInt 64 (((2 ^ i - 1 : Nat)) : Int)).toNat = 2 ^ i - 1 := by
    rw [BitVec.toNat_ofInt]
    omega
  have key : (BitVec.ofInt 64 x &&& BitVec.ofInt 64 (((2 ^ i - 1 : Nat)) : Int)).toNat = (x % ((2 ^ 64 : Nat) : Int)).toNat % 2 ^ i := by
    rw [BitVec.toNat_and, BitVec.toNat_ofInt, hm, Nat.and_two_pow_sub_one_eq_mod]
  show IntKind.i64.wrap ((BitVec.ofInt 64 x &&& BitVec.ofInt 64 (((2 ^ i - 1 : Nat)) : Int)).toNat : Nat) = x % ((2 ^ i : Nat) : Int)
  rw [key, IntKind.wrap_i64]
  have h1 : (x % ((2 ^ 64 : Nat) : Int)).toNat % 2 ^ i < 2 ^ i := Nat.mod_lt _ hp0
  have h2 : (((x % ((2 ^ 64 : Nat) : Int)).toNat % 2 ^ i : Nat) : Int) = x % ((2 ^ i : Nat) : Int) := by
    rw [Int.natCast_emod, Int.toNat_of_nonneg (Int.emod_nonneg _ (by decide))]
    apply Int.emod_emod_of_dvd
    have : (2 : Nat) ^ i ∣ 2 ^ 64 := Nat.pow_dvd_pow 2 (by omega)
    exact_mod_cast this
  rw [h2] at *
  have h3 : 0 ≤ x % ((2 ^ i : Nat) : Int) := Int.emod_nonneg _ (by omega)
  have h4 : x % ((2 ^ i : Nat) : Int) < ((2 ^ i : Nat) : Int) := Int.emod_lt_of_pos _ (by omega)
  omega

theorem mask_lt (x : Int) (i : Nat) : 0 ≤ x % ((2 ^ i : Nat) : Int) ∧ x % ((2 ^ i : Nat) : Int) < 2 ^ i := by
  have hp0 : (0 : Nat) < 2 ^ i := Nat.pow_pos (by decide)
  refine ⟨Int.emod_nonneg _ (by omega), ?_⟩
  have := Int.emod_lt_of_pos x (b := ((2 ^ i : Nat) : Int)) (by omega)
  simpa using this

/-- A row of numbers of the call's own, beside it a pair in its box. -/
structure SS (w : World) (x y : Int) (v8 v10 : Value) (p q : List Int) (u : World) : Prop where
  c0 : u.cell? ⟨w.heap.size, 0, none⟩ = some (.int .i64 x)
  c1 : u.cell? ⟨w.heap.size, 1, none⟩ = some (.int .i64 y)
  r8 : u.ownsRow (w.heap.size + 1) 3 1 v8 p.length (p.map (Value.int .i64))
  r10 : u.ownsRow (w.heap.size + 1) 3 1 v10 q.length (q.map (Value.int .i64))
  dj : Dj v8 v10
  bel : Below w.heap.size w u

variable {w u u' : World} {x y : Int} {v8 v10 : Value} {p q : List Int}

theorem SS.lt (h : SS w x y v8 v10 p q u) : w.heap.size < u.heap.size := World.block_lt_of_cell? u _ h.c0

theorem SS.kept (h : SS w x y v8 v10 p q u) (hb : Below u.heap.size u u') : SS w x y v8 v10 p q u' :=
  ⟨by rw [hb.cell (p := ⟨w.heap.size, 0, none⟩) h.lt]; exact h.c0, by rw [hb.cell (p := ⟨w.heap.size, 1, none⟩) h.lt]; exact h.c1, own_kept h.r8 hb, own_kept h.r10 hb, h.dj, h.bel.trans (hb.mono h.bel.size)⟩

theorem SS.alloc (h : SS w x y v8 v10 p q u) (o : Obj) : SS w x y v8 v10 p q (u.alloc o) := h.kept ((Below.refl _ _).alloc (Nat.le_refl _) _)

theorem SS.app8 {v' : Value} {p' : List Int} (h : SS w x y v8 v10 p q u) (hown : u'.ownsRow (w.heap.size + 1) 3 1 v' p'.length (p'.map (Value.int .i64))) (hg : u.grownBy u' v8.ownBlock) (hat : v'.ownBlock = v8.ownBlock ∨ v'.ownBlock = some u.heap.size) : SS w x y v' v10 p' q u' := by
  have hk : Kp (fun k => v8.ownBlock = some k) u u' := (Kp.refl _ u).grown hg (fun k hk _ => hk)
  have hn : ∀ k, v8.ownBlock = some k → w.heap.size + 1 ≤ k := fun k e => (h.r8.lt k e).1
  have hf : ∀ k, v'.ownBlock = some k → v8.ownBlock = some k ∨ u.heap.size ≤ k := by
    intro k hk
    rcases hat with e | e
    · exact .inl (e ▸ hk)
    · rw [e] at hk; simp at hk; exact .inr (by omega)
  refine ⟨?_, ?_, hown, own_kp h.r10 hk (fun k e e8 => h.dj k e8 e), h.dj.fresh hf (fun k e => (h.r10.lt k e).2), h.bel.trans (hk.toBelow h.bel.size (fun k hk e => by have := hn k e; omega))⟩
  · rw [hk.cell (p := ⟨w.heap.size, 0, none⟩) h.lt (fun e => by have := hn w.heap.size e; omega)]; exact h.c0
  · rw [hk.cell (p := ⟨w.heap.size, 1, none⟩) h.lt (fun e => by have := hn w.heap.size e; omega)]; exact h.c1

theorem SS.flip (h : SS w x y v8 v10 p q u) : SS w x y v10 v8 q p u := ⟨h.c0, h.c1, h.r10, h.r8, h.dj.symm, h.bel⟩

theorem SS.app10 {v' : Value} {q' : List Int} (h : SS w x y v8 v10 p q u) (hown : u'.ownsRow (w.heap.size + 1) 3 1 v' q'.length (q'.map (Value.int .i64))) (hg : u.grownBy u' v10.ownBlock) (hat : v'.ownBlock = v10.ownBlock ∨ v'.ownBlock = some u.heap.size) : SS w x y v8 v' p q' u' :=
  (h.flip.app8 hown hg hat).flip

end Go.Proofs.YtpnjccomngdblaaGreat
end

section
/- Numbers put in order, one by one; append of a slice of numbers onto one of the call's own. -/
namespace Go.Proofs.YtpnjccomngdblaaGreat
open Go.RowKit
open M

theorem rises_iff (xs : List Int) : Rises xs ↔ xs.Pairwise (· ≤ ·) := by
  rw [List.pairwise_iff_getElem]
  constructor
  · intro h i j hi hj hij
    have := h i j (by omega) hj
    simpa [List.getD_eq_getElem?_getD, hi, hj] using this
  · intro h i j hij hj
    have hi : i < xs.length := by omega
    rcases Nat.lt_or_ge i j with h1 | h1
    · have := h i j hi hj h1
      simpa [List.getD_eq_getElem?_getD, hi, hj] using this
    · have e : i = j := by omega
      subst e; exact Int.le_refl _

theorem findN_le (xs : List Int) (k : Int) : findN xs k ≤ xs.length := List.findIdx_le_length

/-- A number put where it belongs. -/
def putIn (xs : List Int) (k : Int) : List Int := xs.take (findN xs k) ++ [k] ++ xs.drop (findN xs k)

theorem putIn_length (xs : List Int) (k : Int) : (putIn xs k).length = xs.length + 1 := by
  have := findN_le xs k
  simp only [putIn, List.length_append, List.length_take, List.length_drop, List.length_cons, List.length_nil]
  omega

theorem putIn_mem (xs : List Int) (k z : Int) (h : z ∈ putIn xs k) : z ∈ xs ∨ z = k := by
  simp only [putIn, List.mem_append, List.mem_singleton] at h
  rcases h with (h | h) | h
  · exact .inl (List.mem_of_mem_take h)
  · exact .inr h
  · exact .inl (List.mem_of_mem_drop h)

theorem putIn_rises (xs : List Int) (k : Int) (h : Rises xs) : Rises (putIn xs k) := by
  have hp := (rises_iff xs).1 h
  have hlow : ∀ a ∈ xs.take (findN xs k), a < k := by
    intro a ha
    obtain ⟨j, hj, rfl⟩ := List.getElem_of_mem ha
    simp only [List.length_take] at hj
    rw [List.getElem_take]
    have := List.not_of_lt_findIdx (p := fun y => decide (k ≤ y)) (xs := xs) (i := j) (by unfold findN at hj; omega)
    simp at this
    omega
  have hhigh : ∀ b ∈ xs.drop (findN xs k), k ≤ b := by
    intro b hb
    obtain ⟨j, hj, rfl⟩ := List.getElem_of_mem hb
    simp only [List.length_drop] at hj
    rw [List.getElem_drop]
    have hlt : xs.findIdx (fun y => decide (k ≤ y)) < xs.length := by unfold findN at hj; omega
    have h1 := List.findIdx_getElem (p := fun y => decide (k ≤ y)) (xs := xs) (w := hlt)
    simp at h1
    have h2 := h (findN xs k) (findN xs k + j) (by omega) (by omega)
    have h3 : findN xs k < xs.length := hlt
    have h4 : findN xs k + j < xs.length := by omega
    simp [List.getD_eq_getElem?_getD, h3, h4] at h2
    exact Int.le_trans h1 h2
  rw [rises_iff]
  unfold putIn
  rw [List.pairwise_append, List.pairwise_append]
  refine ⟨⟨hp.sublist (List.take_sublist _ _), by simp, ?_⟩, hp.sublist (List.drop_sublist _ _), ?_⟩
  · intro a ha b hb
    simp only [List.mem_singleton] at hb
    subst hb
    exact Int.le_of_lt (hlow a ha)
  · intro a ha b hb
    simp only [List.mem_append, List.mem_singleton] at ha
    rcases ha with ha | ha
    · exact Int.le_trans (Int.le_of_lt (hlow a ha)) (hhigh b hb)
    · subst ha; exact hhigh b hb

theorem find_low (xs : List Int) (h : ∀ x ∈ xs, 0 ≤ x) : findN xs (-1) = 0 := by
  apply findN_eq _ _ _ (Nat.zero_le _)
  · intro j hj; omega
  · intro hl
    have := h _ (memI xs 0 hl)
    omega

theorem NumsAt.take {k : IntKind} {w : World} {a : Option Addr} {xs : List Int} (h : NumsAt k w a xs) (n : Nat) : NumsAt k w a (xs.take n) := by
  rcases h with h | ⟨b, off, h1, h2, h3⟩
  · subst h; exact .inl (by simp)
  · refine .inr ⟨b, off, h1, h2, fun j hj => ?_⟩
    simp only [List.length_take] at hj
    rw [h3 j (by omega)]
    simp [List.getD_eq_getElem?_getD, show j < n by omega]

theorem wpList_append_nums {w : World} {ops : Array Oper} {rest : List Oper} {o : Oper} {a : Act} {Q : Exit → Act → World → Prop} (hgd : o.guard = none) (s x : Operand)
    (ho : o.op = .call { callee := .builtin .append, args := #[s, x], argTypes := #[38, 38] }) (base : Nat) (v : Value) (n : Nat) (xs : List Value) (hs : a.eval s = v) (hown : w.ownsRow base 3 1 v n xs)
    (A : Option Addr) (m c : Nat) (l : List Int) (hx : a.eval x = .slice A m c) (hl : l.length = m) (hA : NumsAt .i64 w A l) (hnone : A = none → m = 0 ∧ c = 0) (h63 : n + m ≤ 1000000000) (hbase : base ≤ w.heap.size)
    (h : ∀ v' w', w'.ownsRow base 3 1 v' (n + m) (xs ++ l.map (Value.int .i64)) → w.grownBy w' v.ownBlock → (v'.ownBlock = v.ownBlock ∨ v'.ownBlock = some w.heap.size) → wpList Tryz.prog ops Q rest (a.put o.dst v') w') :
    wpList Tryz.prog ops Q (o :: rest) a w := by
  obtain ⟨i0, hi, hz0, hz1, hz2⟩ := info_parts info3
  cases A with
  | none =>
    obtain ⟨rfl, rfl⟩ := hnone rfl
    obtain rfl : l = [] := List.eq_nil_of_length_eq_zero hl
    refine wpList_append_own_none hgd s x 38 ho base 3 i0 1 Tryz.underlying38 hi v n xs hs hown hx (h v w (by simpa using hown) ⟨rfl, rfl, rfl, Nat.le_refl _, fun _ _ _ => rfl⟩ (.inl rfl))
  | some ad =>
    refine wpList_append_own_at w hgd s x 38 ho base 3 i0 (.int .i64 0) 1 8 Tryz.underlying38 hi hz0 hz1 hz2 rfl (by omega) v n xs hs hown ad m c (l.map (Value.int .i64)) hx (by simp [hl]) ?_ ?_ (by unfold maxLen; omega) (by omega) hbase (fun v' w' k1 k2 _ k4 => h v' w' k1 k2 k4)
    · intro j u hu
      rcases hA with rfl | ⟨b, off, e, -, hc⟩
      · simp at hu
      · obtain rfl : ad = ⟨b, off, none⟩ := by simpa using e
        obtain ⟨hj, hju⟩ := List.getElem?_eq_some_iff.1 hu
        simp only [List.length_map] at hj
        have := hc j hj
        have ea : (⟨b, off, none⟩ : Addr).add j = ⟨b, off + j, none⟩ := by
          simp only [Addr.add]; split
          · rename_i h; simp_all
          · rfl
        rw [ea, this, ← hju]
        simp [List.getD_eq_getElem?_getD, hj]
    · intro u hu
      obtain ⟨k, -, rfl⟩ := List.mem_map.1 hu
      rfl

/-- A row of numbers of the call's own. -/
def OwnI (w : World) (v : Value) (p : List Int) (u : World) : Prop := u.ownsRow w.heap.size 3 1 v p.length (p.map (Value.int .i64)) ∧ Below w.heap.size w u

theorem OwnI.kept {w u u' : World} {v : Value} {p : List Int} (h : OwnI w v p u) (hb : Below u.heap.size u u') : OwnI w v p u' := ⟨own_kept h.1 hb, h.2.trans (hb.mono h.2.size)⟩

theorem OwnI.app {w u u' : World} {v v' : Value} {l l' : List Int} (h : OwnI w v l u) (hown : u'.ownsRow w.heap.size 3 1 v' l'.length (l'.map (Value.int .i64))) (hg : u.grownBy u' v.ownBlock) : OwnI w v' l' u' := by
  have hk : Kp (fun k => v.ownBlock = some k) u u' := (Kp.refl _ u).grown hg (fun k hk _ => hk)
  exact ⟨hown, h.2.trans (hk.toBelow h.2.size (fun k hk e => by have := (h.1.lt k e).1; omega))⟩
theorem OwnI.alloc {w u : World} {v : Value} {l : List Int} (h : OwnI w v l u) (o : Obj) : OwnI w v l (u.alloc o) := h.kept ((Below.refl _ _).alloc (Nat.le_refl _) _)

theorem tight_row (a0 : Option Addr) (n cap : Nat) (xs : List Int) (w : World) (K : Nat) (hK : K ≤ 62) (hx : NumsAt .i64 w a0 xs) (hn : xs.length = n) (hn' : n ≤ 10000000) (hs : ∀ x ∈ xs, 0 ≤ x ∧ x < 2 ^ K) :
    Calls Tryz.prog 99 #[.slice a0 n cap] w fun e w' => ∃ g L m : Nat, e = .returned (.tuple #[.agg #[.int .i64 (n : Int), .int .i64 (wid (mostI xs).toNat : Nat), .int .i64 (L : Int), .slice (some ⟨g, 0, none⟩) m m], .int .i64 0]) ∧
      IRow w' n (wid (mostI xs).toNat) L (some ⟨g, 0, none⟩) m m xs ∧ Below w.heap.size w w' := by
  have e2 : ((2 : Int) ^ K) = ((2 ^ K : Nat) : Int) := by simp
  have hp : (2 : Nat) ^ K ≤ 2 ^ 62 := Nat.pow_le_pow_right (by decide) hK
  have hp0 : (0 : Nat) < 2 ^ K := Nat.pow_pos (by decide)
  rw [e2] at hs
  have h64 : I64s xs := fun x hx => by have := hs x hx; omega
  have hm : (mostI xs).toNat < 2 ^ K := by
    rcases mostI_mem xs with e | e
    · rw [e]; exact hp0
    · have := hs _ e; omega
  have hW := (wid_le _ _).2 hm
  have hfit : Fits xs (wid (mostI xs).toNat) := by
    intro x hx
    have h1 := hs x hx
    have h2 := (mostI_ge xs).2 x hx
    have h3 := (wid_le (mostI xs).toNat _).1 (Nat.le_refl _)
    have e3 : ((2 : Int) ^ wid (mostI xs).toNat) = ((2 ^ wid (mostI xs).toNat : Nat) : Int) := by simp
    rw [e3]
    omega
  refine (tight_ok a0 n cap xs _ w hx hn hn' h64 rfl (by omega) hfit).mono ?_
  rintro e w' ⟨g, rfl, hr, -, hb⟩
  exact ⟨g, _, _, rfl, ⟨hr, hn, rfl, hfit, by omega, hn'⟩, hb⟩

end Go.Proofs.YtpnjccomngdblaaGreat
end

section
/- The contract of Read. -/
namespace Go.Proofs.YtpnjccomngdblaaGreat
open Go.RowKit
open M

theorem bitsOf_num (l : List Bool) : bitsOf (num l) l.length = l :=
  num_inj _ _ (bitsOf_length _ _) (num_bitsOf _ _ (num_lt l))

/-- The n numbers of W bits each that these bits are. -/
def numsOf : List Bool → Nat → Nat → List Int
  | _, 0, _ => []
  | l, n + 1, W => (num (l.take W) : Int) :: numsOf (l.drop W) n W

theorem numsOf_length (l : List Bool) (n W : Nat) : (numsOf l n W).length = n := by
  induction n generalizing l with
  | zero => rfl
  | succ n ih => simp [numsOf, ih]

theorem numsOf_row (l : List Bool) (n W : Nat) (h : l.length = n * W) : rowB (numsOf l n W) W = l := by
  induction n generalizing l with
  | zero => simp [numsOf, rowB]; exact List.eq_nil_of_length_eq_zero (by simpa using h)
  | succ n ih =>
    rw [Nat.succ_mul] at h
    have hl : (l.take W).length = W := by simp; omega
    have e := bitsOf_num (l.take W)
    rw [hl] at e
    rw [numsOf, rowB_cons, Int.toNat_natCast, e, ih (l.drop W) (by simp; omega), List.take_append_drop]

theorem numsOf_fits (l : List Bool) (n W : Nat) : Fits (numsOf l n W) W := by
  induction n generalizing l with
  | zero => intro x hx; simp [numsOf] at hx
  | succ n ih =>
    intro x hx
    rw [numsOf] at hx
    rcases List.mem_cons.1 hx with e | e
    · subst e
      have h1 : num (l.take W) < 2 ^ W := Nat.lt_of_lt_of_le (num_lt _) (Nat.pow_le_pow_right (by decide) (by simp; omega))
      have e2 : ((2 : Int) ^ W) = ((2 ^ W : Nat) : Int) := by simp
      rw [e2]
      omega
    · exact ih _ x e

theorem numsOf_at (l : List Bool) (n W i : Nat) (h : i < n) : (numsOf l n W).getD i 0 = (num ((l.drop (i * W)).take W) : Int) := by
  induction n generalizing l i with
  | zero => omega
  | succ n ih =>
    cases i with
    | zero => simp [numsOf]
    | succ i =>
      rw [numsOf, List.getD_cons_succ, ih (l.drop W) i (by omega), List.drop_drop, Nat.succ_mul, Nat.add_comm W]

/-- What Read's box is while it reads. -/
theorem rbox (w : World) : ∀ u, Below (w.alloc (.cells #[.int .i64 0, .int .i64 0, .int .i64 0, .slice none 0 0] 33)).heap.size (w.alloc (.cells #[.int .i64 0, .int .i64 0, .int .i64 0, .slice none 0 0] 33)) u → TG w none [] u :=
  fun _ hb => (TG.start w none [] (.inl rfl)).kept hb

end Go.Proofs.YtpnjccomngdblaaGreat
end

section
/- The contract of the document's Read; both joined. -/
namespace Go.Proofs.YtpnjccomngdblaaGreat
open Go.RowKit
open M

theorem irow_none (w : World) : IRow w 0 0 0 none 0 0 [] := ⟨Row_nil w, rfl, rfl, fun x hx => by simp at hx, by omega, by omega⟩

end Go.Proofs.YtpnjccomngdblaaGreat
end

section
/- Facts for the walk of IntsTight: a row of numbers in its box, beside it a new box that is filled in any order. -/
namespace Go.Proofs.YtpnjccomngdblaaGreat
open Go.RowKit
open M

/-- The row p in its box bx; beside it the numbers themselves, at a4. -/
structure TK (w : World) (bx n W L g m : Nat) (p : List Int) (a4 : Option Addr) (u : World) : Prop where
  box : IBx u bx n W L (.slice (some ⟨g, 0, none⟩) m m)
  row : IRow u n W L (some ⟨g, 0, none⟩) m m p
  nums : NumsAt .i64 u a4 p
  old : ∀ b o, a4 = some ⟨b, o, none⟩ → b < bx
  wb : w.heap.size ≤ bx
  bel : Below w.heap.size w u

variable {w u u' : World} {bx n W L g m : Nat} {p : List Int} {a4 : Option Addr}

theorem TK.kept (h : TK w bx n W L g m p a4 u) (hb : Below u.heap.size u u') : TK w bx n W L g m p a4 u' :=
  ⟨h.box.kept hb, h.row.kept hb, h.nums.kept hb, h.old, h.wb, h.bel.trans (hb.mono h.bel.size)⟩
theorem TK.drew (h : TK w bx n W L g m p a4 u) : TK w bx n W L g m p a4 u.drew := h.kept ((Below.refl _ _).drew)
theorem TK.alloc (h : TK w bx n W L g m p a4 u) (o : Obj) : TK w bx n W L g m p a4 (u.alloc o) := h.kept ((Below.refl _ _).alloc (Nat.le_refl _) _)
theorem TK.cells (h : TK w bx n W L g m p a4 u) : u.cell? ⟨bx, 0, none⟩ = some (.int .i64 (n : Int)) ∧ u.cell? ⟨bx, 1, none⟩ = some (.int .i64 (W : Int)) ∧ u.cell? ⟨bx, 2, none⟩ = some (.int .i64 (L : Int)) ∧ u.cell? ⟨bx, 3, none⟩ = some (.slice (some ⟨g, 0, none⟩) m m) := ⟨h.box.c0, h.box.c1, h.box.c2, h.box.c3⟩

/-- A new box, not yet filled. -/
structure Fr (bx g cb : Nat) (u : World) : Prop where
  r0 : u.cell? ⟨cb, 0, none⟩ = some (.int .i64 0)
  r1 : u.cell? ⟨cb, 1, none⟩ = some (.int .i64 0)
  r2 : u.cell? ⟨cb, 2, none⟩ = some (.int .i64 0)
  r3 : u.cell? ⟨cb, 3, none⟩ = some (.slice none 0 0)
  z0 : u.frozen? ⟨cb, 0, none⟩ = false
  z1 : u.frozen? ⟨cb, 1, none⟩ = false
  z2 : u.frozen? ⟨cb, 2, none⟩ = false
  z3 : u.frozen? ⟨cb, 3, none⟩ = false
  nb : bx < cb
  ng : cb ≠ g
  lt : cb < u.heap.size

theorem Fr.kept {cb : Nat} (h : Fr bx g cb u) (hb : Below u.heap.size u u') : Fr bx g cb u' :=
  ⟨by rw [hb.cell (p := ⟨cb, 0, none⟩) h.lt]; exact h.r0, by rw [hb.cell (p := ⟨cb, 1, none⟩) h.lt]; exact h.r1, by rw [hb.cell (p := ⟨cb, 2, none⟩) h.lt]; exact h.r2, by rw [hb.cell (p := ⟨cb, 3, none⟩) h.lt]; exact h.r3,
   by rw [hb.frozen (p := ⟨cb, 0, none⟩) h.lt]; exact h.z0, by rw [hb.frozen (p := ⟨cb, 1, none⟩) h.lt]; exact h.z1, by rw [hb.frozen (p := ⟨cb, 2, none⟩) h.lt]; exact h.z2, by rw [hb.frozen (p := ⟨cb, 3, none⟩) h.lt]; exact h.z3, h.nb, h.ng, Nat.lt_of_lt_of_le h.lt hb.size⟩
theorem Fr.drew {cb : Nat} (h : Fr bx g cb u) : Fr bx g cb u.drew := h.kept ((Below.refl _ _).drew)
theorem TK.fresh (h : TK w bx n W L g m p a4 u) : Fr bx g u.heap.size (u.alloc (.cells #[.int .i64 0, .int .i64 0, .int .i64 0, .slice none 0 0] 33)) := by
  have h1 := h.box.lt
  have h2 := row_lt h.row.row g rfl
  exact ⟨by simp, by simp, by simp, by simp, by simp, by simp, by simp, by simp, h1, by omega, by simp⟩

/-- Both rows in their boxes. -/
structure TF (w : World) (bx n W L g m cb g' m' : Nat) (p : List Int) (a4 : Option Addr) (u : World) : Prop where
  t : TK w bx n W L g m p a4 u
  box : IBx u cb n W L (.slice (some ⟨g', 0, none⟩) m' m')
  row : IRow u n W L (some ⟨g', 0, none⟩) m' m' p

theorem TF.kept {cb g' m' : Nat} (h : TF w bx n W L g m cb g' m' p a4 u) (hb : Below u.heap.size u u') : TF w bx n W L g m cb g' m' p a4 u' := ⟨h.t.kept hb, h.box.kept hb, h.row.kept hb⟩
theorem TF.drew {cb g' m' : Nat} (h : TF w bx n W L g m cb g' m' p a4 u) : TF w bx n W L g m cb g' m' p a4 u.drew := h.kept ((Below.refl _ _).drew)

theorem tf_alloc {g' m' : Nat} (h : TK w bx n W L g m p a4 u) (hrow : IRow u n W L (some ⟨g', 0, none⟩) m' m' p) : TF w bx n W L g m u.heap.size g' m' p a4 (u.alloc (.cells #[.int .i64 (n : Int), .int .i64 (W : Int), .int .i64 (L : Int), .slice (some ⟨g', 0, none⟩) m' m'] 33)) :=
  ⟨h.alloc _, IBx.new _ _ _ _ _, hrow.kept ((Below.refl _ _).alloc (Nat.le_refl _) _)⟩

theorem nums_kp {k : IntKind} {X : Nat → Prop} {w w' : World} {a : Option Addr} {xs : List Int} (h : NumsAt k w a xs) (hb : Kp X w w') (hx : ∀ b o, a = some ⟨b, o, none⟩ → ¬ X b) : NumsAt k w' a xs := by
  rcases h with h | ⟨b, off, h1, h2, h3⟩
  · exact .inl h
  · refine .inr ⟨b, off, h1, Nat.lt_of_lt_of_le h2 hb.size, fun j hj => ?_⟩
    rw [hb.cell (p := ⟨b, off + j, none⟩) h2 (hx b off h1)]
    exact h3 j hj

theorem set4_cells {u : World} {cb : Nat} {o0 o1 o2 o3 : Value} (h0 : u.cell? ⟨cb, 0, none⟩ = some o0) (h1 : u.cell? ⟨cb, 1, none⟩ = some o1) (h2 : u.cell? ⟨cb, 2, none⟩ = some o2) (h3 : u.cell? ⟨cb, 3, none⟩ = some o3) (v0 v1 v2 v3 : Value) :
    ((((u.setCell ⟨cb, 0, none⟩ v0).setCell ⟨cb, 1, none⟩ v1).setCell ⟨cb, 2, none⟩ v2).setCell ⟨cb, 3, none⟩ v3).cell? ⟨cb, 0, none⟩ = some v0 ∧
    ((((u.setCell ⟨cb, 0, none⟩ v0).setCell ⟨cb, 1, none⟩ v1).setCell ⟨cb, 2, none⟩ v2).setCell ⟨cb, 3, none⟩ v3).cell? ⟨cb, 1, none⟩ = some v1 ∧
    ((((u.setCell ⟨cb, 0, none⟩ v0).setCell ⟨cb, 1, none⟩ v1).setCell ⟨cb, 2, none⟩ v2).setCell ⟨cb, 3, none⟩ v3).cell? ⟨cb, 2, none⟩ = some v2 ∧
    ((((u.setCell ⟨cb, 0, none⟩ v0).setCell ⟨cb, 1, none⟩ v1).setCell ⟨cb, 2, none⟩ v2).setCell ⟨cb, 3, none⟩ v3).cell? ⟨cb, 3, none⟩ = some v3 := by
  have n : ∀ i j, i ≠ j → (⟨cb, i, none⟩ : Addr) ≠ ⟨cb, j, none⟩ := fun i j h e => h (by simp only [Addr.mk.injEq] at e; exact e.2.1)
  have ot : ∀ (u : World) (i j : Nat) (v : Value), i ≠ j → (u.setCell ⟨cb, i, none⟩ v).cell? ⟨cb, j, none⟩ = u.cell? ⟨cb, j, none⟩ := fun u i j v h => World.cell?_setCell_other _ _ _ _ (n i j h)
  refine ⟨?_, ?_, ?_, ?_⟩
  · rw [ot _ 3 0 _ (by decide), ot _ 2 0 _ (by decide), ot _ 1 0 _ (by decide)]
    exact World.cell?_setCell_same _ _ _ h0
  · rw [ot _ 3 1 _ (by decide), ot _ 2 1 _ (by decide)]
    exact World.cell?_setCell_same _ _ _ (by rw [ot _ 0 1 _ (by decide)]; exact h1)
  · rw [ot _ 3 2 _ (by decide)]
    exact World.cell?_setCell_same _ _ _ (by rw [ot _ 1 2 _ (by decide), ot _ 0 2 _ (by decide)]; exact h2)
  · exact World.cell?_setCell_same _ _ _ (by rw [ot _ 2 3 _ (by decide), ot _ 1 3 _ (by decide), ot _ 0 3 _ (by decide)]; exact h3)

theorem tf_set {cb g' m' : Nat} (h : TK w bx n W L g m p a4 u) (hrow : IRow u n W L (some ⟨g', 0, none⟩) m' m' p) (hq : Fr bx g cb u) (hne : g' ≠ cb) :
    TF w bx n W L g m cb g' m' p a4 ((((u.setCell ⟨cb, 0, none⟩ (.int .i64 (n : Int))).setCell ⟨cb, 1, none⟩ (.int .i64 (W : Int))).setCell ⟨cb, 2, none⟩ (.int .i64 (L : Int))).setCell ⟨cb, 3, none⟩ (.slice (some ⟨g', 0, none⟩) m' m')) := by
  have hk : Kp (fun k => k = cb) u ((((u.setCell ⟨cb, 0, none⟩ (.int .i64 (n : Int))).setCell ⟨cb, 1, none⟩ (.int .i64 (W : Int))).setCell ⟨cb, 2, none⟩ (.int .i64 (L : Int))).setCell ⟨cb, 3, none⟩ (.slice (some ⟨g', 0, none⟩) m' m')) :=
    Kp.setCell (p := ⟨cb, 3, none⟩) (Kp.setCell (p := ⟨cb, 2, none⟩) (Kp.setCell (p := ⟨cb, 1, none⟩) (Kp.setCell (p := ⟨cb, 0, none⟩) (Kp.refl (fun k => k = cb) u) (.inl rfl) _) (.inl rfl) _) (.inl rfl) _) (.inl rfl) _
  have nb := hq.nb
  have ng := hq.ng
  have wb := h.wb
  obtain ⟨s0, s1, s2, s3⟩ := set4_cells hq.r0 hq.r1 hq.r2 hq.r3 (.int .i64 (n : Int)) (.int .i64 (W : Int)) (.int .i64 (L : Int)) (.slice (some ⟨g', 0, none⟩) m' m')
  refine ⟨⟨h.box.kp hk (by omega), h.row.kp hk (fun k e ek => ?_), nums_kp h.nums hk (fun b o e ek => ?_), h.old, h.wb, h.bel.trans (hk.toBelow h.bel.size (fun k hlt e => by omega))⟩, ⟨s0, s1, s2, s3⟩, hrow.kp hk (fun k e ek => ?_)⟩
  · simp only [Value.ownBlock, Option.some.injEq] at e; omega
  · have := h.old b o e; omega
  · simp only [Value.ownBlock, Option.some.injEq] at e; omega

/-- One width less does not do. -/
theorem tight_less (p : List Int) (W : Nat) (h : wid (mostI p).toNat = W + 1) : ¬ Fits p W := by
  intro hf
  have h1 : ¬ (mostI p).toNat < 2 ^ W := fun e => by have := (wid_le _ _).2 e; omega
  have h2 : (0 : Nat) < 2 ^ W := Nat.pow_pos (by decide)
  rcases mostI_mem p with e | e
  · rw [e] at h1; exact h1 h2
  · have h3 := hf _ e
    have e2 : ((2 : Int) ^ W) = ((2 ^ W : Nat) : Int) := by simp
    rw [e2] at h3
    omega

def X2 : List Int := [5, -1]
theorem x2_64 : I64s X2 := by intro x hx; simp [X2] at hx; omega
theorem x2_wid : wid (mostI X2).toNat = 3 := by
  have e : (mostI X2).toNat = 5 := by decide
  rw [e]; exact wid_eq 5 2 (by decide) (by decide)
theorem x2_no : ¬ Fits X2 3 := fun h => by have := h (-1) (by simp [X2]); omega

theorem tight2 (u : World) (b : Nat) (h : ∀ j, j < 2 → u.cell? ⟨b, j, none⟩ = some (.int .i64 (X2.getD j 0))) (hb : b < u.heap.size) :
    Calls Tryz.prog 99 #[.slice (some ⟨b, 0, none⟩) 2 2] u fun e w' => e = .returned (.tuple #[.agg #[.int .i64 0, .int .i64 0, .int .i64 0, .slice none 0 0], .int .i64 1]) ∧ Below u.heap.size u w' :=
  tight_bad (some ⟨b, 0, none⟩) 2 2 X2 u (.inr ⟨b, 0, rfl, hb, fun j hj => by rw [Nat.zero_add]; exact h j hj⟩) rfl (by omega) x2_64 (by rw [x2_wid]; omega) (by rw [x2_wid]; exact x2_no)

end Go.Proofs.YtpnjccomngdblaaGreat
end
