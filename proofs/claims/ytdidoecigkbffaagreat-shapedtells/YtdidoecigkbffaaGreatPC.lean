/- A row of symbols in memory: the contracts of Code, stands and Rank. -/
import Derived.Test.YtdidoecigkbffaaGreatPB
import Derived.Deep.CutRange
import Derived.Deep.CutBlock
set_option maxRecDepth 100000
namespace Go.Proofs.YtdidoecigkbffaaGreat
open Go.RowKit
open S J M
attribute [local go_sem ↓] Go.wp_at_zero Go.wp_at_succ

/-- The row of xs, its codes f, in memory. -/
structure SX (u : World) (C sb b size : Nat) (xs : List Int) (f : Nat → List Bool) (ks : List (List Bool)) (Rf : List Bool → RP) : Prop where
  codes : ∀ i, i < size → u.cell? ⟨C, i, none⟩ = some (.string (str (f i)))
  syms : ∃ N, MapAt u sb N (symN f (cntI xs) size)
  parts : ∃ N, PM u b N ks (partB (codesL xs f)) Rf
  keys : ∀ p, p ∈ ks ↔ partB (codesL xs f) p ≠ []
variable {w u u' : World} {C sb b size : Nat} {xs : List Int} {f : Nat → List Bool} {ks : List (List Bool)} {Rf : List Bool → RP}

theorem SX.kept (h : SX u C sb b size xs f ks Rf) (hb : Below u.heap.size u u') : SX u' C sb b size xs f ks Rf := by
  obtain ⟨N, hs⟩ := h.syms
  obtain ⟨N2, hp⟩ := h.parts
  exact ⟨fun i hi => by rw [hb.cell (p := ⟨C, i, none⟩) (World.block_lt_of_cell? u _ (h.codes i hi))]; exact h.codes i hi, ⟨N, hs.kept hb⟩, ⟨N2, hp.kept hb⟩, h.keys⟩
theorem SH.sx (h : SH w C sb b size f (cntI xs) ks (codesL xs f) Rf u) : SX u C sb b size xs f ks Rf := ⟨h.codes, h.syms, h.parts, h.keys⟩
/-- All but one iterator is kept. -/
theorem SX.iter (h : SX u C sb b size xs f ks Rf) {ib : Nat} {s : ByteArray} {p q : Nat} (hi : u.heap[ib]? = some (.stringIter s p)) : SX (u.iterAt ib s q) C sb b size xs f ks Rf := by
  obtain ⟨N, hs⟩ := h.syms
  obtain ⟨N2, hp⟩ := h.parts
  have hk : Kp (fun k => k = ib) u (u.iterAt ib s q) := kp_iter q
  have hm : ∀ {b' : Nat} {N' : Nat} {m : List Bool → Option Value}, MapAt u b' N' m → ¬ b' = ib := fun hh e => by
    obtain ⟨es, cl, ho⟩ := hh.obj
    rw [e, hi] at ho
    cases ho
  refine ⟨fun i hi2 => ?_, ⟨N, hs.kp hk (hm hs)⟩, ⟨N2, ⟨hp.map.kp hk (hm hp.map), fun l hl => (hp.rk l hl).kpT hk (fun k e cs fr ho => ?_), hp.nd⟩⟩, h.keys⟩
  · have hc := h.codes i hi2
    rw [hk.cell (p := ⟨C, i, none⟩) (World.block_lt_of_cell? u _ hc) (fun e => ?_)]
    · exact hc
    · simp only at e
      subst e
      simp [World.cell?, hi] at hc
  · rw [e, hi] at ho
    cases ho

/-- The row's value. -/
def sval (n C size sb b : Nat) : Value := .agg #[.int .i64 (n : Int), .slice (some ⟨C, 0, none⟩) size size, .map (some sb), .map (some b)]
/-- It in its box. -/
structure SB (w : World) (bx n C sb b size : Nat) (xs : List Int) (f : Nat → List Bool) (ks : List (List Bool)) (Rf : List Bool → RP) (u : World) : Prop where
  c0 : u.cell? ⟨bx, 0, none⟩ = some (.int .i64 (n : Int))
  c1 : u.cell? ⟨bx, 1, none⟩ = some (.slice (some ⟨C, 0, none⟩) size size)
  c2 : u.cell? ⟨bx, 2, none⟩ = some (.map (some sb))
  c3 : u.cell? ⟨bx, 3, none⟩ = some (.map (some b))
  sx : SX u C sb b size xs f ks Rf
  bel : Below w.heap.size w u
variable {bx n : Nat}
theorem SB.kept (h : SB w bx n C sb b size xs f ks Rf u) (hb : Below u.heap.size u u') : SB w bx n C sb b size xs f ks Rf u' := by
  have hl := World.block_lt_of_cell? u _ h.c0
  exact ⟨by rw [hb.cell (p := ⟨bx, 0, none⟩) hl]; exact h.c0, by rw [hb.cell (p := ⟨bx, 1, none⟩) hl]; exact h.c1, by rw [hb.cell (p := ⟨bx, 2, none⟩) hl]; exact h.c2, by rw [hb.cell (p := ⟨bx, 3, none⟩) hl]; exact h.c3, h.sx.kept hb, h.bel.trans (hb.mono h.bel.size)⟩
theorem SB.drew (h : SB w bx n C sb b size xs f ks Rf u) : SB w bx n C sb b size xs f ks Rf u.drew := h.kept ((Below.refl _ _).drew)
theorem SB.new (n : Nat) (h : SX w C sb b size xs f ks Rf) : SB w w.heap.size n C sb b size xs f ks Rf (w.alloc (.cells #[.int .i64 (n : Int), .slice (some ⟨C, 0, none⟩) size size, .map (some sb), .map (some b)] 31)) := by
  have hb : Below w.heap.size w (w.alloc (.cells #[.int .i64 (n : Int), .slice (some ⟨C, 0, none⟩) size size, .map (some sb), .map (some b)] 31)) := (Below.refl _ _).alloc (Nat.le_refl _) _
  exact ⟨by rw [cell_new _ _ _ _ _ rfl]; rfl, by rw [cell_new _ _ _ _ _ rfl]; rfl, by rw [cell_new _ _ _ _ _ rfl]; rfl, by rw [cell_new _ _ _ _ _ rfl]; rfl, h.kept hb, hb⟩
theorem SB.iter (h : SB w bx n C sb b size xs f ks Rf u) {ib : Nat} {s : ByteArray} {p q : Nat} (hi : u.heap[ib]? = some (.stringIter s p)) (hw : w.heap.size ≤ ib) : SB w bx n C sb b size xs f ks Rf (u.iterAt ib s q) := by
  have hk : Kp (fun k => k = ib) u (u.iterAt ib s q) := kp_iter q
  have hne : bx ≠ ib := fun e => by
    have hc := h.c0
    subst e
    simp [World.cell?, hi] at hc
  have hl := World.block_lt_of_cell? u _ h.c0
  exact ⟨by rw [hk.cell (p := ⟨bx, 0, none⟩) hl hne]; exact h.c0, by rw [hk.cell (p := ⟨bx, 1, none⟩) hl hne]; exact h.c1, by rw [hk.cell (p := ⟨bx, 2, none⟩) hl hne]; exact h.c2, by rw [hk.cell (p := ⟨bx, 3, none⟩) hl hne]; exact h.c3, h.sx.iter hi, h.bel.trans (hk.toBelow h.bel.size (fun k hk e => by omega))⟩

/-- The code of c; nothing, if it is no symbol. -/
def codI (f : Nat → List Bool) (size : Nat) (c : Int) : List Bool := if 0 ≤ c ∧ c < size then f c.toNat else []
theorem scode_any (n : Nat) (c : Int) (h : SX w C sb b size xs f ks Rf) : Calls Tryz.prog 16 #[.agg #[.int .i64 (n : Int), .slice (some ⟨C, 0, none⟩) size size, .map (some sb), .map (some b)], .int .i64 c] w fun e w' => e = .returned (.string (str (codI f size c))) ∧ Below w.heap.size w w' := by
  have hS := SB.new n h
  have HB := Lib.hid hS.bel
  by_cases h0 : c < 0
  · have e0 : codI f size c = [] := by unfold codI; rw [if_neg (by omega)]
    rw [e0]
    clear hS h e0
    go_enter Tryz.func16, Tryz.ntmps16
    go_wp2
    go_ret
    exact ⟨rfl, HB.out⟩
  · by_cases h1 : (size : Int) ≤ c
    · have e0 : codI f size c = [] := by unfold codI; rw [if_neg (by omega)]
      rw [e0]
      clear hS h e0
      go_enter Tryz.func16, Tryz.ntmps16
      go_wp2
      go_ret
      exact ⟨rfl, HB.out⟩
    · obtain ⟨k, rfl⟩ : ∃ k : Nat, c = (k : Int) := ⟨c.toNat, by omega⟩
      have e0 : codI f size (k : Int) = f k := by unfold codI; rw [if_pos (by omega), Int.toNat_natCast]
      rw [e0]
      have c1 := hS.sx.codes k (by omega)
      have q1 : (k : Int) < (size : Int) := by omega
      have q2 : (0 : Int) ≤ (k : Int) := by omega
      clear hS h e0
      generalize str (f k) = s at *
      go_enter Tryz.func16, Tryz.ntmps16
      go_wp2
      go_ret
      exact ⟨rfl, HB.out⟩

theorem zero3 (w : World) : (zeroValue 3).run Tryz.prog w = .ok (.int .i64 0) w := by kernel_rfl
theorem codI_len (hF : FR xs size f) (c : Int) : (codI f size c).length ≤ size := by
  unfold codI
  split
  · exact hF.len _
  · exact Nat.zero_le _
/-- What 'symbols[Code(c)]' tells. -/
theorem look_c (hF : FR xs size f) (hsz : size ≤ 39) (c : Int) : ∃ (x : Int) (ok : Bool), ((ok && (x == c)) = decide (c ∈ xs)) ∧ ∀ u, SX u C sb b size xs f ks Rf → (Instr.lookup 28 (.map (some sb)) (.string (str (codI f size c))) true).run Tryz.prog u = .ok (.tuple #[.int .i64 x, .bool ok]) u := by
  have hl : (codI f size c).length ≤ 1000 := by have := codI_len hF c; omega
  by_cases hc : c ∈ xs
  · have hin := hF.isIn c hc
    have e0 : codI f size c = f c.toNat := by unfold codI; rw [if_pos hin]
    refine ⟨c, true, by rw [decide_eq_true hc]; simp, fun u h => ?_⟩
    obtain ⟨N, hs⟩ := h.syms
    rw [hs.lookOk (t := 28) (e := 3) Tryz.underlying28 zero3 _ hl, e0, hF.sym hc]; rfl
  · rcases FR.nosym (f := f) (size := size) hc (codI f size c) with hn | ⟨c', hne, hn⟩
    · refine ⟨0, false, by rw [decide_eq_false hc]; rfl, fun u h => ?_⟩
      obtain ⟨N, hs⟩ := h.syms
      rw [hs.lookOk (t := 28) (e := 3) Tryz.underlying28 zero3 _ hl, hn]; rfl
    · refine ⟨c', true, by rw [decide_eq_false hc]; simpa using hne, fun u h => ?_⟩
      obtain ⟨N, hs⟩ := h.syms
      rw [hs.lookOk (t := 28) (e := 3) Tryz.underlying28 zero3 _ hl, hn]; rfl

set_option maxHeartbeats 2000000 in
theorem stands_any (n : Nat) (c : Int) (h : SX w C sb b size xs f ks Rf) (hF : FR xs size f) (hsz : size ≤ 39) : Calls Tryz.prog 30 #[.agg #[.int .i64 (n : Int), .slice (some ⟨C, 0, none⟩) size size, .map (some sb), .map (some b)], .int .i64 c] w fun e w' => e = .returned (.bool (decide (c ∈ xs))) ∧ Below w.heap.size w w' := by
  have hS := SB.new n h
  obtain ⟨x, ok, hxo, hlk⟩ := look_c (C := C) (sb := sb) (b := b) (ks := ks) (Rf := Rf) hF hsz c
  have HZ := Lib.hid (fun (bx : Nat) (u : World) (h : SB w bx n C sb b size xs f ks Rf u) => (scode_any n c h.sx).mono fun e u' hh => (show e = .returned (.string (str (codI f size c))) ∧ SB w bx n C sb b size xs f ks Rf u' from ⟨hh.1, h.kept hh.2⟩))
  have HL := Lib.hid hlk
  have HXO := Lib.hid hxo
  have hA := Lib.hid hS
  clear hS hlk hxo h hF
  generalize str (codI f size c) = key at *
  go_enter Tryz.func30, Tryz.ntmps30
  go_wp2
  have l0 := hA.out.c0
  have l1 := hA.out.c1
  have l2 := hA.out.c2
  have l3 := hA.out.c3
  have l4 := HL.out _ hA.out.sx
  generalize w.alloc (.cells #[.int .i64 (n : Int), .slice (some ⟨C, 0, none⟩) size size, .map (some sb), .map (some b)] 31) = u at *
  obtain ⟨bx, hbx⟩ : ∃ bx, bx = w.heap.size := ⟨_, rfl⟩
  rw [← hbx] at l0 l1 l2 l3 hA
  rw [← hbx]
  clear hbx
  go_region_held3 (fun w' => w'.cell? ⟨bx, 0, none⟩ = some (.int .i64 (n : Int)) ∧ w'.cell? ⟨bx, 1, none⟩ = some (.slice (some ⟨C, 0, none⟩) size size) ∧ w'.cell? ⟨bx, 2, none⟩ = some (.map (some sb)) ∧ w'.cell? ⟨bx, 3, none⟩ = some (.map (some b)) ∧ (Instr.lookup 28 (.map (some sb)) (.string key) true).run Tryz.prog w' = .ok (.tuple #[.int .i64 x, .bool ok]) w')
    (first
      | (with_reducible exact ⟨hA.out.c0, hA.out.c1, hA.out.c2, hA.out.c3, HL.out _ hA.out.sx⟩)
      | (with_reducible exact ⟨hA.out.drew.c0, hA.out.drew.c1, hA.out.drew.c2, hA.out.drew.c3, HL.out _ hA.out.drew.sx⟩)
      | go_keep)
    (first
      | (go_at_call 16; (with_reducible refine (HZ.out _ _ hA.out.drew).mono ?_); rintro e u ⟨rfl, hA'⟩; have hA := Lib.hid hA'; clear hA')
      | (go_at_call 16; (with_reducible refine (HZ.out _ _ hA.out).mono ?_); rintro e u ⟨rfl, hA'⟩; have hA := Lib.hid hA'; clear hA'))
  all_goals
    have HB := Lib.hid hA.out.bel
    clear hA
    cases ok
    · go_wp2
      go_ret
      exact ⟨by rw [← HXO.out]; rfl, HB.out⟩
    · go_wp2
      go_ret
      exact ⟨by rw [← HXO.out]; rfl, HB.out⟩

end Go.Proofs.YtdidoecigkbffaaGreat
