/- Rows of numbers of the call's own, told by a function of their places; the contracts of places and bits. -/
import Derived.Test.YtdepncdknofocaaOA
import Derived.Test.YtdepncdknofocaaBb
set_option maxRecDepth 100000
namespace Go.Proofs.Ytdepncdknofocaa
open Go.RowKit
open M

theorem cell_set (u : World) (g o o' : Nat) (v v0 : Value) (h : u.cell? ⟨g, o', none⟩ = some v0) : (u.setCell ⟨g, o, none⟩ v).cell? ⟨g, o', none⟩ = some (if o' = o then v else v0) := by
  by_cases e : o' = o
  · subst e
    rw [if_pos rfl]
    exact World.cell?_setCell_same _ _ _ h
  · rw [if_neg e, World.cell?_setCell_other _ _ _ _ (fun h => e (congrArg Addr.off h).symm)]; exact h

theorem ne_addr {b b' o o' : Nat} (h : b ≠ b') : (⟨b, o, none⟩ : Addr) ≠ ⟨b', o', none⟩ := fun e => h (congrArg Addr.block e)

theorem num_at {k : IntKind} {w : World} {a : Option Addr} {xs : List Int} (h : NumsAt k w a xs) {i : Nat} (hi : i < xs.length) : ∃ b off, a = some ⟨b, off, none⟩ ∧ b < w.heap.size ∧ w.cell? ⟨b, off + i, none⟩ = some (.int k (xs.getD i 0)) := by
  rcases h with rfl | ⟨b, off, h1, h2, h3⟩
  · simp at hi
  · exact ⟨b, off, h1, h2, h3 i hi⟩

/-- A row of numbers of the call's own. -/
structure DI (w : World) (D n : Nat) (d : Nat → Int) (u : World) : Prop where
  cell : ∀ i, i < n → u.cell? ⟨D, i, none⟩ = some (.int .i64 (d i))
  frz : ∀ i, i < n → u.frozen? ⟨D, i, none⟩ = false
  lo : w.heap.size ≤ D
  hi : D < u.heap.size
  bel : Below w.heap.size w u

variable {w u u' : World} {D n : Nat} {d : Nat → Int}

theorem DI.kept (h : DI w D n d u) (hb : Below u.heap.size u u') : DI w D n d u' :=
  ⟨fun i hi => by rw [hb.cell (p := ⟨D, i, none⟩) h.hi]; exact h.cell i hi, fun i hi => by rw [hb.frozen (p := ⟨D, i, none⟩) h.hi]; exact h.frz i hi, h.lo, Nat.lt_of_lt_of_le h.hi hb.size, h.bel.trans (hb.mono h.bel.size)⟩
theorem below_drewN (w : World) (q : Nat) : Below w.heap.size w (w.drewN q) := ⟨rfl, rfl, rfl, Nat.le_refl _, fun _ _ => rfl⟩
theorem DI.drewN (h : DI w D n d u) (q : Nat) : DI w D n d (u.drewN q) := h.kept (below_drewN u q)
theorem DI.set (h : DI w D n d u) {i : Nat} (_hi : i < n) (x : Int) : DI w D n (fun k => if k = i then x else d k) (u.setCell ⟨D, i, none⟩ (.int .i64 x)) := by
  refine ⟨fun k hk => ?_, fun k hk => by simpa using h.frz k hk, h.lo, by simpa using h.hi, h.bel.setCell h.lo _⟩
  rw [cell_set _ _ _ _ _ _ (h.cell k hk)]
  by_cases e : k = i
  · simp [e]
  · simp [e]
theorem DI.other (h : DI w D n d u) {p : Addr} (hp : w.heap.size ≤ p.block) (hne : p.block ≠ D) (v : Value) : DI w D n d (u.setCell p v) :=
  ⟨fun i hi => by rw [World.cell?_setCell_other _ _ _ _ (fun e => hne (congrArg Addr.block e))]; exact h.cell i hi, fun i hi => by simpa using h.frz i hi, h.lo, by simpa using h.hi, h.bel.setCell hp _⟩
theorem DI.congr {d' : Nat → Int} (h : DI w D n d u) (hd : ∀ i, i < n → d i = d' i) : DI w D n d' u := { h with cell := fun i hi => by rw [← hd i hi]; exact h.cell i hi }
theorem DI.nums (h : DI w D n d u) {l : List Int} (hl : l.length = n) (hd : ∀ i, i < n → d i = l.getD i 0) : NumsAt .i64 u (some ⟨D, 0, none⟩) l :=
  .inr ⟨D, 0, rfl, h.hi, fun j hj => by rw [Nat.zero_add, ← hd j (by omega)]; exact h.cell j (by omega)⟩

theorem madeInt (n : Nat) : ∀ i, i < n → (madeCells #[Value.int .i64 0] n).toList[i]? = some (.int .i64 0) := by
  intro i hi
  simp [madeCells, hi, Nat.mod_one]

theorem DI.made {w1 : World} (hb : Below w.heap.size w w1) (hown : u.ownsRow w1.heap.size 3 1 (.slice (some ⟨w1.heap.size, 0, none⟩) n n) n (madeCells #[Value.int .i64 0] n).toList) (hgrow : w1.grownBy u none) : DI w w1.heap.size n (fun _ => 0) u := by
  have hg := hown.lt w1.heap.size rfl
  refine ⟨fun i hi => ?_, fun i _ => hown.frozenAt i, hb.size, hg.2, hb.trans ((below_grown hgrow).mono hb.size)⟩
  rw [hown.cellAt i (by omega)]
  exact madeInt n i hi

/-- Places are 0, 1 and so on. -/
theorem places_any (n : Nat) (w : World) (hn : n ≤ 1000000) : Calls Try.prog 36 #[.int .i64 (n : Int)] w fun e u => ∃ D, e = .returned (.slice (some ⟨D, 0, none⟩) n n) ∧ DI w D n (fun i => (i : Int)) u := by
  obtain ⟨i0, hi, hz0, hz1, hz2⟩ := info_parts info3
  go_enter Try.func36, Try.ntmps36
  go_wp2_with (first | (at_make; refine wpList_make_full _ rfl _ _ 22 rfl w.heap.size 3 i0 (.int .i64 0) 1 Try.underlying22 hi hz0 hz1 _ _ _ _ n rfl rfl rfl rfl ?b2 ?b3 (Nat.le_refl _) ?_))
  case b2 => rw [hz2]; omega
  case b3 => unfold maxLen; omega
  intro w1 hown hgrow
  have hD := DI.made (Below.refl _ _) hown hgrow
  have HD := Lib.hid hD
  clear hown hgrow hD hi hz0 hz1 hz2
  obtain ⟨D, hDe⟩ : ∃ D, D = w.heap.size := ⟨_, rfl⟩
  rw [← hDe] at HD
  rw [← hDe]
  clear hDe
  go_wp2
  go_loopw [4, 9] (fun _ v9 wr => ∃ i : Nat, i ≤ n ∧ v9 = .int .i64 (i : Int) ∧ DI w D n (fun k => if k < i then (k : Int) else 0) wr) (fun _ v9 _ => n - (intOf v9).toNat)
  case atStart => exact ⟨0, Nat.zero_le _, rfl, HD.out.congr fun i _ => by simp⟩
  case round =>
    obtain ⟨i, hin, rfl, hDr⟩ := hrel
    by_cases hlt : i < n
    · have c1 := hDr.cell i hlt
      have z1 := hDr.frz i hlt
      have hset := hDr.set hlt (i : Int)
      have HS := Lib.hid hset
      clear hset hDr
      have q1 : (i : Int) < (n : Int) := by omega
      have q2 : (0 : Int) ≤ (i : Int) := by omega
      go_wp2
      go_roundw
      case rel =>
        refine ⟨i + 1, by omega, by go_num, HS.out.congr fun k _ => ?_⟩
        by_cases e : k = i
        · rw [if_pos e, if_pos (by omega), e]
        · rw [if_neg e]
          by_cases e2 : k < i
          · rw [if_pos e2, if_pos (by omega)]
          · rw [if_neg e2, if_neg (by omega)]
      case measure => simp [intOf]; omega
    · obtain rfl : i = n := by omega
      have HF := Lib.hid hDr
      clear hDr
      go_wp2
      go_ret
      exact ⟨D, rfl, HF.out.congr fun k hk => by rw [if_pos hk]⟩

end Go.Proofs.Ytdepncdknofocaa
