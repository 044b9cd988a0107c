/- What ShapedTells needs of the answers of shaped.New and of the document: Rank, Select, Codes. -/
import Derived.Test.YtdidoecigkbffaaGreatNA
import Derived.Test.YtdidoecigkbffaaGreatPF
import Derived.Test.YtdidoecigkbffaaGreatPG
import Derived.Laws.CopyOwn
import Derived.Deep.RegionLaw
import Derived.Lib.ConvBytes
import Derived.Laws.IdiomStrings
import Derived.Test.YtdidoecigkbffaaGreatTX

section
/- New that refuses; what is told of a row alone. -/
set_option maxRecDepth 100000
namespace Go.Proofs.YtdidoecigkbffaaGreat
open Go.RowKit
open S J M

/-- The row of nothing. -/
def shNil : Value := .agg #[.int .i64 0, .slice none 0 0, .map none, .map none]

set_option maxHeartbeats 4000000 in
theorem new_at (A : Option Addr) (n cA size f : Nat) (xs : List Int) (w : World) (hx : NumsAt .i64 w A xs) (hl : xs.length = n) (hn : n ≤ 1000) (hf : f < n) (hxs : ∀ i, i < f → 0 ≤ xs.getD i 0 ∧ xs.getD i 0 < size) (hbad : xs.getD f 0 < 0 ∨ (size : Int) ≤ xs.getD f 0) (hs1 : 1 ≤ size) (hs2 : size ≤ 39) :
    Calls Tryz.prog 6 #[.slice A n cA, .int .i64 (size : Int)] w (fun e u => e = .returned (.tuple #[shNil, .int .i64 1]) ∧ Below w.heap.size w u) := by
  have HX := Lib.hid (And.intro hx (And.intro hl (And.intro hxs hbad)))
  clear hx hl hxs hbad
  have q1 : ¬ (size : Int) < 1 := by omega
  have q2 : ¬ (65536 : Int) < (size : Int) := by omega
  obtain ⟨i0, hi, hz0, hz1, hz2⟩ := info_parts info3
  go_enter Tryz.func6, Tryz.ntmps6
  go_wp2_with (first | (at_make; refine wpList_make_full _ rfl _ _ 22 rfl (w.heap.size + 1) 3 i0 (.int .i64 0) 1 Tryz.underlying22 hi hz0 hz1 _ _ _ _ size rfl rfl rfl rfl ?b2 ?b3 (by simp) ?_))
  case b2 => first | omega | (rw [hz2]; omega)
  case b3 => unfold maxLen; omega
  intro w1 hown hgrow
  obtain ⟨wA, hwA⟩ : ∃ wA, wA = w.alloc (.cells #[.int .i64 0, .slice none 0 0, .map none, .map none] 31) := ⟨_, rfl⟩
  have hAs : wA.heap.size = w.heap.size + 1 := by rw [hwA]; simp
  obtain ⟨D, hDe⟩ : ∃ D, D = w.heap.size + 1 := ⟨_, rfl⟩
  have hgA : wA.grownBy w1 none := by rw [hwA]; exact hgrow
  have hD : DI wA D size (fun c => cntI (xs.take 0) c) w1 := by
    rw [hDe]
    have ho : w1.ownsRow (w.heap.size + 1) 3 1 (.slice (some ⟨w.heap.size + 1, 0, none⟩) size size) size (madeCells #[Value.int .i64 0] size).toList := by simpa using hown
    have hg := ho.lt _ rfl
    refine ⟨fun i hi => ?_, fun i _ => ho.frozenAt i, by omega, hg.2, (below_grown hgA).mono (Nat.le_refl _)⟩
    rw [ho.cellAt i (by omega)]
    simpa [cntI] using madeInt size i hi
  have hAb : Below w.heap.size w wA := by rw [hwA]; exact (Below.refl _ _).alloc (Nat.le_refl _) _
  have hAc : wA.cell? ⟨w.heap.size, 0, none⟩ = some (.int .i64 0) ∧ wA.cell? ⟨w.heap.size, 1, none⟩ = some (.slice none 0 0) ∧ wA.cell? ⟨w.heap.size, 2, none⟩ = some (.map none) ∧ wA.cell? ⟨w.heap.size, 3, none⟩ = some (.map none) ∧ (∀ i, wA.frozen? ⟨w.heap.size, i, none⟩ = false) := by
    rw [hwA]
    exact ⟨by rw [cell_new _ _ _ _ _ rfl]; rfl, by rw [cell_new _ _ _ _ _ rfl]; rfl, by rw [cell_new _ _ _ _ _ rfl]; rfl, by rw [cell_new _ _ _ _ _ rfl]; rfl, fun i => frozen_new _ _ _ _ _ rfl⟩
  have hAo : wA.heap[w.heap.size]? = some (.cells #[.int .i64 0, .slice none 0 0, .map none, .map none] 31) := by rw [hwA]; exact heap_alloc_new _ _
  have HAO := Lib.hid hAo
  have HD := Lib.hid (And.intro hD (And.intro hAb (And.intro hAc (And.intro hAs hDe))))
  try simp only [World.size_alloc]
  rw [← hDe]
  clear hown hgrow hgA hD hAb hAc hAs hDe hwA hAo hi hz0 hz1 hz2
  go_wp2
  go_loopw [8, 24] (fun _ v24 wr => ∃ i : Nat, i ≤ f ∧ v24 = .int .i64 (i : Int) ∧ DI wA D size (fun c => cntI (xs.take i) c) wr) (fun _ v24 _ => n - (intOf v24).toNat)
  case atStart => exact ⟨0, Nat.zero_le _, rfl, HD.out.1⟩
  case round =>
    obtain ⟨i, hin, rfl, hDr⟩ := hrel
    by_cases hlt : i < f
    · have hb0 := HD.out.2.1.trans (hDr.bel.mono HD.out.2.1.size)
      obtain ⟨bb, off, hAe, hbl, hcb⟩ := num_at (HX.out.1.kept hb0) (i := i) (by have := HX.out.2.1; omega)
      have hxb := HX.out.2.2.1 i hlt
      obtain ⟨y, hy⟩ : ∃ y : Nat, xs.getD i 0 = (y : Int) := ⟨(xs.getD i 0).toNat, by omega⟩
      have hys : y < size := by omega
      have hsn := fun c => cntI_snoc xs i (by have := HX.out.2.1; omega) c
      have c1 := hDr.cell y hys
      have z1 := hDr.frz y hys
      have hle := cntI_le (xs.take i) y
      have hle2 : (xs.take i).length ≤ i := List.length_take_le _ _
      have hset := hDr.set hys (cntI (xs.take i) y + 1)
      have HS := Lib.hid (And.intro hset (And.intro hsn hy))
      subst hAe
      rw [hy] at hcb
      clear hset hsn hDr hxb hy hb0
      obtain ⟨cy, hcy⟩ : ∃ cy, cy = cntI (xs.take i) y := ⟨_, rfl⟩
      rw [← hcy] at c1 hle HS
      have HCY := Lib.hid hcy
      clear hcy
      have q3 : (i : Int) < (n : Int) := by omega
      have q4 : (0 : Int) ≤ (i : Int) := by omega
      have q5 : ¬ (y : Int) < 0 := by omega
      have q6 : ¬ (size : Int) ≤ (y : Int) := by omega
      have q7 : (y : Int) < (size : Int) := by omega
      have q8 : (0 : Int) ≤ (y : Int) := by omega
      go_wp2
      go_roundw
      case rel =>
        refine ⟨i + 1, by omega, by go_num, HS.out.1.congr fun c _ => ?_⟩
        rw [HS.out.2.1 c, HS.out.2.2]
        by_cases e : c = y
        · rw [if_pos e, if_pos (by omega), HCY.out, e]
        · rw [if_neg e, if_neg (by omega)]
      case measure => simp [intOf]; omega
    · obtain rfl : i = f := by omega
      have hb0 := HD.out.2.1.trans (hDr.bel.mono HD.out.2.1.size)
      obtain ⟨bb, off, hAe, hbl, hcb⟩ := num_at (HX.out.1.kept hb0) (i := i) (by have := HX.out.2.1; omega)
      have hbad := HX.out.2.2.2
      have hlA : w.heap.size < wA.heap.size := by have := HD.out.2.2.2.1; omega
      obtain ⟨a0, a1, a2, a3, az⟩ := HD.out.2.2.1
      have x0 : wr.cell? ⟨w.heap.size, 0, none⟩ = some (.int .i64 0) := by rw [hDr.bel.cell (p := ⟨w.heap.size, 0, none⟩) hlA]; exact a0
      have x1 : wr.cell? ⟨w.heap.size, 1, none⟩ = some (.slice none 0 0) := by rw [hDr.bel.cell (p := ⟨w.heap.size, 1, none⟩) hlA]; exact a1
      have x2 : wr.cell? ⟨w.heap.size, 2, none⟩ = some (.map none) := by rw [hDr.bel.cell (p := ⟨w.heap.size, 2, none⟩) hlA]; exact a2
      have x3 : wr.cell? ⟨w.heap.size, 3, none⟩ = some (.map none) := by rw [hDr.bel.cell (p := ⟨w.heap.size, 3, none⟩) hlA]; exact a3
      have z0 : wr.frozen? ⟨w.heap.size, 0, none⟩ = false := by rw [hDr.bel.frozen (p := ⟨w.heap.size, 0, none⟩) hlA]; exact az 0
      have z1 : wr.frozen? ⟨w.heap.size, 1, none⟩ = false := by rw [hDr.bel.frozen (p := ⟨w.heap.size, 1, none⟩) hlA]; exact az 1
      have z2 : wr.frozen? ⟨w.heap.size, 2, none⟩ = false := by rw [hDr.bel.frozen (p := ⟨w.heap.size, 2, none⟩) hlA]; exact az 2
      have z3 : wr.frozen? ⟨w.heap.size, 3, none⟩ = false := by rw [hDr.bel.frozen (p := ⟨w.heap.size, 3, none⟩) hlA]; exact az 3
      have HB := Lib.hid hb0
      subst hAe
      clear hb0 hDr hlA a0 a1 a2 a3 az
      obtain ⟨y, hy⟩ : ∃ y, y = xs.getD i 0 := ⟨_, rfl⟩
      rw [← hy] at hcb hbad
      clear hy
      have q3 : (i : Int) < (n : Int) := by omega
      have q4 : (0 : Int) ≤ (i : Int) := by omega
      by_cases q5 : y < 0
      · clear hbad
        go_wp2
        refine bodyPost_ret (v := .tuple #[shNil, .int .i64 1]) (by simp [results, Tryz.results6, go_sem, x0, x1, x2, x3, shNil]) rfl ?_
        exact ⟨rfl, (((HB.out.setCell (p := ⟨w.heap.size, 0, none⟩) (Nat.le_refl _) _).setCell (p := ⟨w.heap.size, 1, none⟩) (Nat.le_refl _) _).setCell (p := ⟨w.heap.size, 2, none⟩) (Nat.le_refl _) _).setCell (p := ⟨w.heap.size, 3, none⟩) (Nat.le_refl _) _⟩
      · have q6 : (size : Int) ≤ y := by omega
        clear hbad
        go_wp2
        refine bodyPost_ret (v := .tuple #[shNil, .int .i64 1]) (by simp [results, Tryz.results6, go_sem, x0, x1, x2, x3, shNil]) rfl ?_
        exact ⟨rfl, (((HB.out.setCell (p := ⟨w.heap.size, 0, none⟩) (Nat.le_refl _) _).setCell (p := ⟨w.heap.size, 1, none⟩) (Nat.le_refl _) _).setCell (p := ⟨w.heap.size, 2, none⟩) (Nat.le_refl _) _).setCell (p := ⟨w.heap.size, 3, none⟩) (Nat.le_refl _) _⟩

theorem first_bad (P : Nat → Prop) [DecidablePred P] : ∀ n, (∃ i, i < n ∧ ¬ P i) → ∃ f, f < n ∧ ¬ P f ∧ ∀ i, i < f → P i := by
  intro n
  induction n with
  | zero => rintro ⟨i, h, -⟩; omega
  | succ n ih =>
    rintro ⟨i, h1, h2⟩
    by_cases h : ∃ i, i < n ∧ ¬ P i
    · obtain ⟨f, a, b, c⟩ := ih h
      exact ⟨f, by omega, b, c⟩
    · have e : i = n := by
        rcases Nat.lt_or_ge i n with c | c
        · exact absurd ⟨i, c, h2⟩ h
        · omega
      subst e
      exact ⟨i, h1, h2, fun j hj => Decidable.byContradiction fun c => h ⟨j, hj, c⟩⟩

/-- New refuses a row in which one is no symbol. -/
theorem new_no (A : Option Addr) (n cA size : Nat) (xs : List Int) (w : World) (hx : NumsAt .i64 w A xs) (hl : xs.length = n) (hn : n ≤ 1000) (hbad : ¬ ∀ x ∈ xs, 0 ≤ x ∧ x < (size : Int)) (hs1 : 1 ≤ size) (hs2 : size ≤ 39) :
    Calls Tryz.prog 6 #[.slice A n cA, .int .i64 (size : Int)] w (fun e u => e = .returned (.tuple #[shNil, .int .i64 1]) ∧ Below w.heap.size w u) := by
  have h : ∃ i, i < n ∧ ¬ (0 ≤ xs.getD i 0 ∧ xs.getD i 0 < (size : Int)) := by
    apply Decidable.byContradiction
    intro c
    apply hbad
    intro x hx
    obtain ⟨i, hi, rfl⟩ := List.mem_iff_getElem.1 hx
    have e : xs.getD i 0 = xs[i] := by simp [List.getD_eq_getElem?_getD, hi]
    apply Decidable.byContradiction
    intro d
    rw [← e] at d
    exact c ⟨i, by omega, d⟩
  obtain ⟨f, hf, h1, h2⟩ := first_bad _ n h
  exact new_at A n cA size f xs w hx hl hn hf h2 (by omega) hs1 hs2

end Go.Proofs.YtdidoecigkbffaaGreat
end

section
/- The contracts of the document's Rank, Below, Select, Most and May. -/
set_option maxRecDepth 100000
namespace Go.Proofs.YtdidoecigkbffaaGreat
open Go.RowKit
open S J M
attribute [local go_sem ↓] Go.wp_at_zero Go.wp_at_succ

theorem rkN_ge (b : Bool) (l : List Bool) (k : Nat) (h : l.length ≤ k) : rkN b l k = rkN b l l.length := by
  unfold rkN; rw [List.take_of_length_le h, List.take_length]

/-- Of each of l whether it is c; whether it is less than c. -/
def eqs (l : List Int) (c : Int) : List Bool := l.map fun x => decide (x = c)
def lts (l : List Int) (c : Int) : List Bool := l.map fun x => decide (x < c)
theorem eqs_len (l : List Int) (c : Int) : (eqs l c).length = l.length := by simp [eqs]
theorem lts_len (l : List Int) (c : Int) : (lts l c).length = l.length := by simp [lts]
theorem eqs_at (l : List Int) (c : Int) (i : Nat) (h : i < l.length) : (eqs l c).getD i false = decide (l.getD i 0 = c) := by simp [eqs, List.getD_eq_getElem?_getD, h]
theorem lts_at (l : List Int) (c : Int) (i : Nat) (h : i < l.length) : (lts l c).getD i false = decide (l.getD i 0 < c) := by simp [lts, List.getD_eq_getElem?_getD, h]

set_option maxHeartbeats 1000000 in
theorem wrank_any (a : Option Addr) (n cap : Nat) (l : List Int) (c i : Int) (w : World) (h : NumsAt .i64 w a l) (hl : l.length = n) (hn : n ≤ 1000000000) :
    Calls Tryz.prog 11 #[.slice a n cap, .int .i64 c, .int .i64 i] w fun e w' => e = .returned (.int .i64 (rkN true (eqs l c) (lo n i) : Nat)) ∧ w = w' := by
  have HH := Lib.hid (And.intro h hl)
  clear h hl
  go_enter Tryz.func11, Tryz.ntmps11
  go_wp2
  go_loop [7, 8] (fun v7 v8 => ∃ k : Nat, k ≤ lo n i ∧ v8 = .int .i64 (k : Int) ∧ v7 = .int .i64 (rkN true (eqs l c) k : Nat)) (fun _ v8 => n - (intOf v8).toNat)
  case atStart => exact ⟨0, Nat.zero_le _, rfl, by simp [rkN]⟩
  case round =>
    obtain ⟨k, hk, rfl, rfl⟩ := hrel
    have hlo : lo n i ≤ n := lo_le n i
    by_cases hlt : k < n
    · by_cases hki : (k : Int) < i
      · obtain ⟨bb, off, rfl, hbl, hcb⟩ := num_at HH.out.1 (i := k) (by rw [HH.out.2]; exact hlt)
        have hs := rkN_succ true (eqs l c) k (by rw [eqs_len, HH.out.2]; exact hlt)
        rw [eqs_at l c k (by rw [HH.out.2]; exact hlt)] at hs
        have hle := rkN_le' true (eqs l c) k
        have hkl : k + 1 ≤ lo n i := by unfold lo; omega
        generalize l.getD k 0 = y at *
        have q1 : (k : Int) < (n : Int) := by omega
        by_cases hy : y = c
        · rw [if_pos (by simpa using hy)] at hs
          subst hy
          have HS := Lib.hid hs
          clear hs
          generalize hr : rkN true (eqs l y) k = r at *
          clear hr
          go_wp2
          go_round
          case rel => exact ⟨k + 1, hkl, by go_num, by rw [HS.out]; first | rfl | go_num⟩
          case measure => simp [intOf]; omega
        · rw [if_neg (by simpa using hy)] at hs
          have hyc : (y == c) = false := by simpa using hy
          have HS := Lib.hid hs
          clear hs hy
          generalize hr : rkN true (eqs l c) k = r at *
          clear hr
          go_wp2
          go_round
          case rel => exact ⟨k + 1, hkl, by go_num, by rw [HS.out]; first | rfl | go_num⟩
          case measure => simp [intOf]; omega
      · have e : lo n i = k := by unfold lo at *; omega
        have HE := Lib.hid e
        clear e
        go_wp2
        go_ret
        exact ⟨ret_int (by rw [HE.out]), rfl⟩
    · have e : lo n i = k := by omega
      have HE := Lib.hid e
      clear e
      go_wp2
      go_ret
      exact ⟨ret_int (by rw [HE.out]), rfl⟩

set_option maxHeartbeats 1000000 in
theorem wselect_any (a : Option Addr) (n cap : Nat) (l : List Int) (c k : Int) (w : World) (h : NumsAt .i64 w a l) (hl : l.length = n) (hn : n ≤ 1000000000) (hk2 : k ≤ 9223372036854775807) :
    Calls Tryz.prog 20 #[.slice a n cap, .int .i64 c, .int .i64 k] w fun e w' => e = .returned (.int .i64 (selN true (eqs l c) k)) ∧ w = w' := by
  have hb : (eqs l c).length = n := by rw [eqs_len, hl]
  have HH := Lib.hid (And.intro h (And.intro hl hb))
  clear h hl hb
  by_cases hk : k < 0
  · have HS := Lib.hid (selN_none true (eqs l c) k (.inl hk))
    go_enter Tryz.func20, Tryz.ntmps20
    go_wp2
    go_ret
    exact ⟨ret_int HS.out.symm, rfl⟩
  have hk : 0 ≤ k := by omega
  go_enter Tryz.func20, Tryz.ntmps20
  go_wp2
  go_loop [2, 7] (fun v2 v7 => ∃ (i : Nat) (z : Int), i ≤ n ∧ v7 = .int .i64 (i : Int) ∧ v2 = .int .i64 z ∧ 0 ≤ z ∧ z = k - (rkN true (eqs l c) i : Nat)) (fun _ v7 => n - (intOf v7).toNat)
  case atStart => exact ⟨0, k, Nat.zero_le _, rfl, rfl, hk, by simp [rkN]⟩
  case round =>
    obtain ⟨i, z, hi, rfl, rfl, hz0, hz⟩ := hrel
    have hz9 : z ≤ 9223372036854775807 := by omega
    by_cases hlt : i < n
    · obtain ⟨bb, off, rfl, hbl, hcb⟩ := num_at HH.out.1 (i := i) (by rw [HH.out.2.1]; exact hlt)
      have hs := rkN_succ true (eqs l c) i (by rw [HH.out.2.2]; exact hlt)
      have hsel := fun (hb : (eqs l c).getD i false = true) (e : z = 0) => selN_at true (eqs l c) k i (by rw [HH.out.2.2]; exact hlt) hb (by omega)
      rw [eqs_at l c i (by rw [HH.out.2.1]; exact hlt)] at hs hsel
      have q1 : (i : Int) < (n : Int) := by omega
      generalize l.getD i 0 = y at *
      by_cases hyb : y = c
      · rw [if_pos (by simpa using hyb)] at hs
        have hsel := hsel (by simpa using hyb)
        subst hyb
        by_cases hz1 : z = 0
        · have HS := Lib.hid (hsel hz1)
          subst hz1
          clear hs hz hsel
          go_wp2
          go_ret
          exact ⟨by first | exact ret_int HS.out.symm | rfl, rfl⟩
        · have hz2 : (z == 0) = false := by simpa using hz1
          have HS := Lib.hid (And.intro hs hz)
          clear hs hz hsel
          go_wp2
          go_round
          case rel => exact ⟨i + 1, z - 1, by omega, by go_num, rfl, by omega, by rw [HS.out.1, HS.out.2]; omega⟩
          case measure => simp [intOf]; omega
      · rw [if_neg (by simpa using hyb)] at hs
        have hyc : (y == c) = false := by simpa using hyb
        have HS := Lib.hid (And.intro hs hz)
        clear hs hz hsel hyb
        go_wp2
        go_round
        case rel => exact ⟨i + 1, z, by omega, by go_num, rfl, by omega, by rw [HS.out.1, HS.out.2]; omega⟩
        case measure => simp [intOf]; omega
    · obtain rfl : i = n := by omega
      have HS := Lib.hid (selN_none true (eqs l c) k (.inr (by rw [HH.out.2.2]; omega)))
      clear hz
      go_wp2
      go_ret
      exact ⟨ret_int HS.out.symm, rfl⟩

/-- Which lists may be. -/
def mayB (l : List Int) (size : Int) : Bool := decide (1 ≤ size) && decide (size ≤ 65536) && l.all fun x => decide (0 ≤ x) && decide (x < size)

set_option maxHeartbeats 1000000 in
theorem wmay_any (a : Option Addr) (n cap : Nat) (l : List Int) (size : Int) (w : World) (h : NumsAt .i64 w a l) (hl : l.length = n) (hn : n ≤ 1000000000) :
    Calls Tryz.prog 7 #[.slice a n cap, .int .i64 size] w fun e w' => e = .returned (.bool (mayB l size)) ∧ w = w' := by
  have HH := Lib.hid (And.intro h hl)
  clear h hl
  by_cases hs1 : size < 1
  · have HE : Hid (mayB l size = false) := Lib.hid (by unfold mayB; rw [decide_eq_false (by omega : ¬ 1 ≤ size)]; rfl)
    go_enter Tryz.func7, Tryz.ntmps7
    go_wp2
    go_ret
    exact ⟨ret_bool HE.out.symm, rfl⟩
  by_cases hs2 : 65536 < size
  · have HE : Hid (mayB l size = false) := Lib.hid (by unfold mayB; rw [decide_eq_false (by omega : ¬ size ≤ 65536)]; simp)
    go_enter Tryz.func7, Tryz.ntmps7
    go_wp2
    go_ret
    exact ⟨ret_bool HE.out.symm, rfl⟩
  have HM : Hid (mayB l size = l.all fun x => decide (0 ≤ x) && decide (x < size)) := Lib.hid (by
    unfold mayB; rw [decide_eq_true (by omega : 1 ≤ size), decide_eq_true (by omega : size ≤ 65536)]; simp)
  go_enter Tryz.func7, Tryz.ntmps7
  go_wp2
  go_loop [5] (fun v5 => ∃ k : Nat, k ≤ n ∧ v5 = .int .i64 (k : Int) ∧ ((l.take k).all fun x => decide (0 ≤ x) && decide (x < size)) = true) (fun v5 => n - (intOf v5).toNat)
  case atStart => exact ⟨0, Nat.zero_le _, rfl, by simp⟩
  case round =>
    obtain ⟨k, hk, rfl, hall⟩ := hrel
    by_cases hlt : k < n
    · have hlk : k < l.length := by rw [HH.out.2]; exact hlt
      obtain ⟨bb, off, rfl, hbl, hcb⟩ := num_at HH.out.1 (i := k) hlk
      have hs : l.take (k + 1) = l.take k ++ [l.getD k 0] := by
        rw [List.take_add_one]; simp [List.getD_eq_getElem?_getD, hlk]
      have hmem : l.getD k 0 ∈ l := by simp [List.getD_eq_getElem?_getD, hlk]
      generalize l.getD k 0 = y at *
      have q1 : (k : Int) < (n : Int) := by omega
      by_cases hy : 0 ≤ y
      · by_cases hy2 : y < size
        · have HS : Hid (((l.take (k + 1)).all fun x => decide (0 ≤ x) && decide (x < size)) = true) := Lib.hid (by rw [hs, List.all_append, hall]; simp [hy, hy2])
          clear hs hmem hall
          go_wp2
          go_round
          case rel => exact ⟨k + 1, by omega, by go_num, HS.out⟩
          case measure => simp [intOf]; omega
        · have HS : Hid (mayB l size = false) := Lib.hid (by
            rw [HM.out, List.all_eq_false]; exact ⟨y, hmem, by simp [hy2]⟩)
          clear hs hmem hall
          go_wp2
          go_ret
          exact ⟨ret_bool HS.out.symm, rfl⟩
      · have HS : Hid (mayB l size = false) := Lib.hid (by
          rw [HM.out, List.all_eq_false]; exact ⟨y, hmem, by simp [hy]⟩)
        clear hs hmem hall
        go_wp2
        go_ret
        exact ⟨ret_bool HS.out.symm, rfl⟩
    · obtain rfl : k = n := by omega
      have e : l.take k = l := by rw [List.take_of_length_le (by rw [HH.out.2]; omega)]
      have HE : Hid (mayB l size = true) := Lib.hid (by rw [HM.out, ← e]; exact hall)
      clear e hall
      go_wp2
      go_ret
      exact ⟨ret_bool HE.out.symm, rfl⟩

end Go.Proofs.YtdidoecigkbffaaGreat
end

section
/- What a row tells of itself: Len, Size; how many ones a rank has; the document's Counts. -/
set_option maxRecDepth 100000
namespace Go.Proofs.YtdidoecigkbffaaGreat
open Go.RowKit
open S J M
attribute [local go_sem ↓] Go.wp_at_zero Go.wp_at_succ

theorem slen_any (n : Int) (c s p : Value) (w : World) : Calls Tryz.prog 8 #[.agg #[.int .i64 n, c, s, p]] w fun e w' => e = .returned (.int .i64 n) ∧ Below w.heap.size w w' := by
  have HB : Hid (Below w.heap.size w (w.alloc (.cells #[.int .i64 n, c, s, p] 31))) := Lib.hid ((Below.refl _ _).alloc (Nat.le_refl _) _)
  go_enter Tryz.func8, Tryz.ntmps8
  go_wp2
  go_ret
  exact ⟨rfl, HB.out⟩

theorem ssize_any (n : Int) (A : Option Addr) (k cap : Nat) (s p : Value) (w : World) : Calls Tryz.prog 14 #[.agg #[.int .i64 n, .slice A k cap, s, p]] w fun e w' => e = .returned (.int .i64 (k : Int)) ∧ Below w.heap.size w w' := by
  have HB : Hid (Below w.heap.size w (w.alloc (.cells #[.int .i64 n, .slice A k cap, s, p] 31))) := Lib.hid ((Below.refl _ _).alloc (Nat.le_refl _) _)
  go_enter Tryz.func14, Tryz.ntmps14
  go_wp2
  go_ret
  exact ⟨rfl, HB.out⟩

set_option maxHeartbeats 1000000 in
theorem rones_any (R : RP) (l : List Bool) (w : World) (h : RK w R l) :
    Calls Tryz.prog 45 #[.agg #[.int .i64 (R.n : Int), .slice R.a R.m R.c, .int .i64 (R.cn : Int), .int .i64 (R.cW : Int), .int .i64 (R.cL : Int), .slice R.a2 R.m2 R.c2]] w fun e w' => e = .returned (.int .i64 (rkN true l l.length : Nat)) ∧ Below w.heap.size w w' := by
  have hA := RA.new h
  have hlen := h.len
  have hv := fun u (hu : RA w w.heap.size R l u) => rank1_ra (R.n : Int) hu
  rw [rk1_all l R.n hlen] at hv
  rw [hlen]
  have HV := Lib.hid hv
  clear h hv hlen
  generalize rkN true l R.n = z at *
  go_enter Tryz.func45, Tryz.ntmps45
  go_wp2
  obtain ⟨l0, l1, l2, l3, l4, l5⟩ := hA.box
  generalize w.alloc (.cells #[.int .i64 (R.n : Int), .slice R.a R.m R.c, .int .i64 (R.cn : Int), .int .i64 (R.cW : Int), .int .i64 (R.cL : Int), .slice R.a2 R.m2 R.c2] 56) = u at *
  generalize hbx : w.heap.size = bx at *
  go_region_held3 (fun w' => w'.cell? ⟨bx, 0, none⟩ = some (.int .i64 (R.n : Int)) ∧ w'.cell? ⟨bx, 1, none⟩ = some (.slice R.a R.m R.c) ∧ w'.cell? ⟨bx, 2, none⟩ = some (.int .i64 (R.cn : Int)) ∧ w'.cell? ⟨bx, 3, none⟩ = some (.int .i64 (R.cW : Int)) ∧ w'.cell? ⟨bx, 4, none⟩ = some (.int .i64 (R.cL : Int)) ∧ w'.cell? ⟨bx, 5, none⟩ = some (.slice R.a2 R.m2 R.c2))
    (first
      | go_keep
      | exact ⟨hA.box.c0, hA.box.c1, hA.box.c2, hA.box.c3, hA.box.c4, hA.box.c5⟩)
    (first
      | (go_at_call 26; (with_reducible refine (rlen_ra hA).mono ?_); rintro e u ⟨rfl, hA⟩)
      | (go_at_call 26; (with_reducible refine (rlen_ra hA.drew).mono ?_); rintro e u ⟨rfl, hA⟩)
      | (go_at_call 28; (with_reducible refine (HV.out _ hA).mono ?_); rintro e u ⟨rfl, hA⟩))
  all_goals
    have HB := Lib.hid hA.bel
    subst hbx
    clear hA
    go_wp2
    go_ret
    exact ⟨rfl, HB.out⟩
theorem rones_ra {w u : World} {b : Nat} {R : RP} {l : List Bool} (h : RA w b R l u) :
    Calls Tryz.prog 45 #[.agg #[.int .i64 (R.n : Int), .slice R.a R.m R.c, .int .i64 (R.cn : Int), .int .i64 (R.cW : Int), .int .i64 (R.cL : Int), .slice R.a2 R.m2 R.c2]] u fun e u' => e = .returned (.int .i64 (rkN true l l.length : Nat)) ∧ RA w b R l u' :=
  (rones_any R l u h.rk).mono fun _ _ hh => ⟨hh.1, h.kept hh.2⟩

/-- What Counts makes: a row of its own. -/
def CountsEnd (w : World) (xs : List Int) (size : Nat) (e : Ending) (u : World) : Prop :=
  ∃ D, e = .returned (.slice (some ⟨D, 0, none⟩) size size) ∧ NumsAt .i64 u (some ⟨D, 0, none⟩) (cntL xs size) ∧ Below w.heap.size w u

set_option maxHeartbeats 4000000 in
theorem dcounts_any (A : Option Addr) (n cA size : Nat) (xs : List Int) (w : World) (hx : NumsAt .i64 w A xs) (hl : xs.length = n) (hn : n ≤ 1000) (hxs : ∀ x ∈ xs, 0 ≤ x ∧ x < size) (hs2 : size ≤ 39) :
    Calls Tryz.prog 10 #[.slice A n cA, .int .i64 (size : Int)] w (CountsEnd w xs size) := by
  have HX := Lib.hid (And.intro hx (And.intro hl hxs))
  clear hx hl hxs
  obtain ⟨i0, hi, hz0, hz1, hz2⟩ := info_parts info3
  go_enter Tryz.func10, Tryz.ntmps10
  go_wp2_with (first | (at_make; refine wpList_make_full _ rfl _ _ 22 rfl w.heap.size 3 i0 (.int .i64 0) 1 Tryz.underlying22 hi hz0 hz1 _ _ _ _ size rfl rfl rfl rfl ?b2 ?b3 (by simp) ?_))
  case b2 => first | omega | (rw [hz2]; omega)
  case b3 => unfold maxLen; omega
  intro w1 hown hgrow
  obtain ⟨D, hDe⟩ : ∃ D, D = w.heap.size := ⟨_, rfl⟩
  have hD : DI w D size (fun c => cntI (xs.take 0) c) w1 := by
    rw [hDe]
    have ho : w1.ownsRow w.heap.size 3 1 (.slice (some ⟨w.heap.size, 0, none⟩) size size) size (madeCells #[Value.int .i64 0] size).toList := by simpa using hown
    have hg := ho.lt _ rfl
    refine ⟨fun i hi => ?_, fun i _ => ho.frozenAt i, by omega, hg.2, (below_grown hgrow).mono (Nat.le_refl _)⟩
    rw [ho.cellAt i (by omega)]
    simpa [cntI] using madeInt size i hi
  have HD := Lib.hid hD
  rw [← hDe]
  clear hown hgrow hD hDe hi hz0 hz1 hz2
  go_wp2
  go_loopw [6] (fun v6 wr => ∃ i : Nat, i ≤ n ∧ v6 = .int .i64 (i : Int) ∧ DI w D size (fun c => cntI (xs.take i) c) wr) (fun v6 _ => n - (intOf v6).toNat)
  case atStart => exact ⟨0, Nat.zero_le _, rfl, HD.out⟩
  case round =>
    obtain ⟨i, hin, rfl, hDr⟩ := hrel
    by_cases hlt : i < n
    · obtain ⟨bb, off, hAe, hbl, hcb⟩ := num_at (HX.out.1.kept hDr.bel) (i := i) (by rw [HX.out.2.1]; exact hlt)
      have hxm : xs.getD i 0 ∈ xs := by simp [List.getD_eq_getElem?_getD, HX.out.2.1, hlt]
      have hxb := HX.out.2.2 _ hxm
      obtain ⟨y, hy⟩ : ∃ y : Nat, xs.getD i 0 = (y : Int) := ⟨(xs.getD i 0).toNat, by omega⟩
      have hys : y < size := by omega
      have hsn := fun c => cntI_snoc xs i (by rw [HX.out.2.1]; exact hlt) c
      have c1 := hDr.cell y hys
      have z1 := hDr.frz y hys
      have hle := cntI_le (xs.take i) y
      have hle2 : (xs.take i).length ≤ i := List.length_take_le _ _
      have hset := hDr.set hys (cntI (xs.take i) y + 1)
      have HS := Lib.hid (And.intro hset (And.intro hsn hy))
      subst hAe
      rw [hy] at hcb
      clear hset hsn hDr hxb hxm hy
      obtain ⟨cy, hcy⟩ : ∃ cy, cy = cntI (xs.take i) y := ⟨_, rfl⟩
      rw [← hcy] at c1 hle HS
      have HCY := Lib.hid hcy
      clear hcy
      have q3 : (i : Int) < (n : Int) := by omega
      have q4 : (0 : Int) ≤ (i : Int) := by omega
      have q7 : (y : Int) < (size : Int) := by omega
      have q8 : (0 : Int) ≤ (y : Int) := by omega
      go_wp2
      go_roundw
      case rel =>
        refine ⟨i + 1, by omega, by go_num, HS.out.1.congr fun c _ => ?_⟩
        rw [HS.out.2.1 c, HS.out.2.2]
        by_cases e : c = y
        · rw [if_pos e, if_pos (by omega), HCY.out, e]
        · rw [if_neg e, if_neg (by omega)]
      case measure => simp [intOf]; omega
    · obtain rfl : i = n := by omega
      have q3 : ¬ (i : Int) < (i : Int) := by omega
      have hDr2 : DI w D size (cntI xs) wr := by
        have e : xs.take i = xs := List.take_of_length_le (by have := HX.out.2.1; omega)
        rw [e] at hDr; exact hDr
      have HDR := Lib.hid hDr2
      clear hDr hDr2
      go_wp2
      go_ret
      refine ⟨D, rfl, .inr ⟨D, 0, rfl, HDR.out.hi, fun j hj => ?_⟩, HDR.out.bel⟩
      rw [cntL_length] at hj
      rw [Nat.zero_add, cntL_at xs size j hj]
      exact HDR.out.cell j hj

end Go.Proofs.YtdidoecigkbffaaGreat
end

section
/- The contract of slices.Repeat: one number, again and again. -/
set_option maxRecDepth 100000
namespace Go.Proofs.YtdidoecigkbffaaGreat
open Go.RowKit
open S J M
attribute [local go_sem ↓] Go.wp_at_zero Go.wp_at_succ

/-- The first m of n are c. -/
def repL (c : Int) (n m : Nat) : List Value := List.replicate m (.int .i64 c) ++ List.replicate (n - m) (.int .i64 0)
theorem repL_len (c : Int) {n m : Nat} (h : m ≤ n) : (repL c n m).length = n := by simp [repL]; omega
theorem repL_splice (c : Int) {n m k : Nat} (h : m + k ≤ n) : splice (repL c n m) m (List.replicate k (.int .i64 c)) = repL c n (m + k) := by
  unfold splice repL
  have e1 : (List.replicate m (Value.int .i64 c) ++ List.replicate (n - m) (Value.int .i64 0)).take m = List.replicate m (Value.int .i64 c) := by
    rw [List.take_append_of_le_length (by simp)]; simp
  have e2 : (List.replicate m (Value.int .i64 c) ++ List.replicate (n - m) (Value.int .i64 0)).drop (m + k) = List.replicate (n - (m + k)) (Value.int .i64 0) := by
    rw [List.drop_append, List.drop_eq_nil_of_le (by simp), List.length_replicate, List.drop_replicate, List.nil_append]
    congr 1; omega
  rw [List.length_replicate, e1, e2, ← List.append_assoc, List.replicate_append_replicate]
theorem repL_at (c : Int) {n m j : Nat} (h : j < m) : (repL c n m)[j]? = some (.int .i64 c) := by
  unfold repL
  rw [List.getElem?_append_left (by simpa using h)]
  simp [h]

structure RI (w : World) (D : Nat) (c : Int) (n m : Nat) (u : World) : Prop where
  row : u.heap[D]? = some (.cells (repL c n m).toArray 3 (0, 0))
  bel : Below w.heap.size w u

theorem RI.cell {w u : World} {D n m j : Nat} {c : Int} (h : RI w D c n m u) (hj : j < m) : u.cell? ⟨D, j, none⟩ = some (.int .i64 c) := by
  have := repL_at c (n := n) hj
  unfold World.cell?
  rw [h.row]
  simpa using this

theorem add_zero_addr0 (B o : Nat) : (⟨B, o, none⟩ : Addr).add 0 = ⟨B, o, none⟩ := by simp [Addr.add]

/-- A row of its own, all of one number. -/
def RepEnd (w : World) (c : Int) (n : Nat) (e : Ending) (u : World) : Prop :=
  ∃ D, e = .returned (.slice (some ⟨D, 0, none⟩) n n) ∧ RI w D c n n u ∧ w.heap.size ≤ D

set_option maxHeartbeats 4000000 in
theorem rep_any (B o cap : Nat) (c : Int) (n : Nat) (w : World) (hc : w.cell? ⟨B, o, none⟩ = some (.int .i64 c)) (hn1 : 1 ≤ n) (hn : n ≤ 1000) :
    Calls Tryz.prog 44 #[.slice (some ⟨B, o, none⟩) 1 cap, .int .i64 (n : Int)] w (RepEnd w c n) := by
  have hBl := World.block_lt_of_cell? w _ hc
  have HM := Lib.hid (mul1_one n w hn)
  have HC := Lib.hid (And.intro hc hBl)
  clear hc hBl
  obtain ⟨i0, hi, hz0, hz1, hz2⟩ := info_parts info3
  have q1 : ¬ (n : Int) < 0 := by omega
  have q2 : ¬ (9223372036854775807 : Int) < (n : Int) := by omega
  go_enter Tryz.func44, Tryz.ntmps44
  go_wp2_with fail
  (with_reducible refine HM.out.mono ?_)
  rintro e u ⟨rfl, rfl⟩
  go_wp2_with (first | (at_make; refine wpList_make_full _ rfl _ _ 22 rfl w.heap.size 3 i0 (.int .i64 0) 1 Tryz.underlying22 hi hz0 hz1 _ _ _ _ n rfl rfl rfl rfl ?b2 ?b3 (by simp) ?_))
  case b2 => first | omega | (rw [hz2]; omega)
  case b3 => unfold maxLen; omega
  intro w1 hown hgrow
  obtain ⟨D, hDe⟩ : ∃ D, D = w.heap.size := ⟨_, rfl⟩
  have h0 : RI w D c n 0 w1 := by
    rw [hDe]
    have ho : w1.ownsRow w.heap.size 3 1 (.slice (some ⟨w.heap.size, 0, none⟩) n n) n (madeCells #[Value.int .i64 0] n).toList := by simpa using hown
    refine ⟨?_, (below_grown hgrow).mono (Nat.le_refl _)⟩
    have hcells : ∀ j, j < n → w1.cell? ⟨w.heap.size, j, none⟩ = some (.int .i64 0) := fun j hj => by
      rw [ho.cellAt j (by omega)]; exact madeInt n j hj
    obtain ⟨-, h2⟩ := ho
    rcases h2 with ⟨h2, -⟩ | ⟨g, cap, cur, h2, -, hh, -, -, hc, -⟩
    · simp at h2
    · simp only [Value.slice.injEq, Option.some.injEq, Addr.mk.injEq, and_true, true_and] at h2
      obtain ⟨rfl, rfl⟩ := h2
      rw [hh]
      have hcs : cur.size = n := by simpa using hc
      have e : cur = (repL c n 0).toArray := by
        apply Array.ext
        · simp [repL, hcs]
        · intro j h1 h3
          have := hcells j (by omega)
          unfold World.cell? at this
          rw [hh] at this
          simp [h1] at this
          rw [this]
          simp [repL]
      rw [e]
  have H0 := Lib.hid h0
  have hb1 : Below w.heap.size w w1 := h0.bel
  have hsrc : w1.cell? ⟨B, o, none⟩ = some (.int .i64 c) := by rw [hb1.cell (p := ⟨B, o, none⟩) HC.out.2]; exact HC.out.1
  have hsj : ∀ (j : Nat) (v : Value), (List.replicate 1 (Value.int .i64 c))[j]? = some v → w1.cell? ((⟨B, o, none⟩ : Addr).add j) = some v := by
    intro j v hj
    match j with
    | 0 => simp at hj; rw [add_zero_addr0, ← hj]; exact hsrc
    | j + 1 => simp at hj
  have HSR := Lib.hid hsj
  have hfit : 0 + (List.replicate 1 (Value.int .i64 c)).length ≤ (repL c n 0).length := by rw [repL_len c (Nat.zero_le _)]; simpa using hn1
  have hmin : (List.replicate 1 (Value.int .i64 c)).length = Nat.min 1 n := (Nat.min_eq_left hn1).symm
  have HF := Lib.hid (And.intro hfit hmin)
  have HDE := Lib.hid hDe
  have HSZ : Hid ((Tryz.prog.info? 3).map (·.size) = some 1) := Lib.hid (by rw [hi]; simp [hz1])
  rw [← hDe]
  clear hown hgrow h0 hb1 hsrc hsj hfit hmin hDe hi hz0 hz1 hz2
  go_wp2_with (refine wpList_copy_splice (o := ⟨some 33, _, _, _, _, _⟩) rfl (.tmp 31) (.tmp 32) 22 22 rfl 3 Tryz.underlying22 HSZ.out (some ⟨D, 0, none⟩) (some ⟨B, o, none⟩) n n 1 cap (by rfl) (by rfl) D 0 (repL c n 0) 3 H0.out.row (List.replicate 1 (.int .i64 c)) HF.out.2 (fun hpos => ⟨rfl, _, rfl, HSR.out⟩) HF.out.1 (by intro v hv; rw [List.eq_of_mem_replicate hv]; rfl) w.heap.size w H0.out.bel (Nat.le_of_eq HDE.out.symm) ?_)
  intro w2 hh2 hb2
  have h1 : RI w D c n 1 w2 := ⟨by rw [hh2.out, show splice (repL c n 0) 0 [Value.int .i64 c] = repL c n 1 from repL_splice c (n := n) (m := 0) (k := 1) (by omega)], hb2⟩
  have H1 := Lib.hid h1
  clear hh2 hb2 h1
  go_wp2
  go_loopw [8] (fun v8 wr => ∃ m : Nat, 1 ≤ m ∧ m ≤ n ∧ v8 = .int .i64 (m : Int) ∧ RI w D c n m wr) (fun v8 _ => n - (intOf v8).toNat)
  case atStart => exact ⟨1, Nat.le_refl _, hn1, rfl, H1.out⟩
  case round =>
    obtain ⟨m, hm1, hmn, rfl, hR⟩ := hrel
    by_cases hlt : m < n
    · obtain ⟨k, hk⟩ : ∃ k, k = Nat.min m (n - m) := ⟨_, rfl⟩
      have hkm : k ≤ m ∧ m + k ≤ n ∧ 1 ≤ k := by
        have e1 := Nat.min_le_left m (n - m)
        have e2 := Nat.min_le_right m (n - m)
        have e3 : 1 ≤ min m (n - m) := by omega
        change k = min m (n - m) at hk
        omega
      have hsj : ∀ (j : Nat) (v : Value), (List.replicate k (Value.int .i64 c))[j]? = some v → wr.cell? ((⟨D, 0, none⟩ : Addr).add j) = some v := by
        intro j v hj
        obtain ⟨h1, h2⟩ := List.getElem?_eq_some_iff.1 hj
        simp only [List.length_replicate] at h1
        simp only [List.getElem_replicate] at h2
        rw [← h2, add_zero_addr]
        exact hR.cell (by omega)
      have hfit : m + (List.replicate k (Value.int .i64 c)).length ≤ (repL c n m).length := by rw [repL_len c hmn]; simpa using hkm.2.1
      have hln : (List.replicate k (Value.int .i64 c)).length = Nat.min m (n - m) := by rw [List.length_replicate, hk]
      have HW := Lib.hid (And.intro hR (And.intro hsj (And.intro hfit hln)))
      clear hR hsj hfit hln hk
      have HNE : Hid (¬ n = m) := Lib.hid (by omega)
      have HWR : Hid (IntKind.i64.wrap ((m : Int) + (k : Int)) = ((m + k : Nat) : Int)) := Lib.hid (by rw [IntWalk.i64_in _ (by omega)]; omega)
      have q3 : (m : Int) < (n : Int) := by omega
      have q4 : (0 : Int) ≤ (m : Int) := by omega
      have q5 : (m : Int) ≤ (n : Int) := by omega
      go_wp2_with fail
      go_region_law (refine step_copy_splice rfl (.tmp 41) (.tmp 44) 22 22 rfl 3 Tryz.underlying22 HSZ.out (some ⟨D, m, none⟩) (some ⟨D, 0, none⟩) (n - m) (n - m) m n (by simp [Act.eval, Act.put, HNE.out]) (by simp [Act.eval, Act.put]) D m (repL c n m) 3 HW.out.1.row (List.replicate k (.int .i64 c)) HW.out.2.2.2 (fun _ => ⟨rfl, _, rfl, HW.out.2.1⟩) HW.out.2.2.1 (by intro v hv; rw [List.eq_of_mem_replicate hv]; rfl) w.heap.size w (by first | exact HW.out.1.bel | exact HW.out.1.bel.drew) (Nat.le_of_eq HDE.out.symm) ?_; intro w2 hh2 hb2)
      all_goals
        have h2 : RI w D c n (m + k) w2 := ⟨by rw [hh2.out, repL_splice c hkm.2.1], hb2⟩
        have H2 := Lib.hid h2
        clear hh2 hb2 h2
        go_wp2
        go_roundw
        case rel => exact ⟨m + k, by omega, by omega, by rw [HWR.out], H2.out⟩
        case measure => rw [HWR.out]; simp [intOf]; omega
    · obtain rfl : m = n := by omega
      have q3 : ¬ (m : Int) < (m : Int) := by omega
      have HR := Lib.hid hR
      clear hR
      go_wp2
      go_ret
      exact ⟨D, rfl, HR.out, Nat.le_of_eq HDE.out.symm⟩

end Go.Proofs.YtdidoecigkbffaaGreat
end

section
/- Plain: the symbols whose codes begin so, in order; how those of both digits make them up again. -/
namespace Go.Proofs.YtdidoecigkbffaaGreat
open S J M

/-- The symbols of the row whose codes begin with p. -/
def subL (f : Nat → List Bool) (p : List Bool) (xs : List Int) : List Int := xs.filter fun x => decide ((f x.toNat).take p.length = p)
/-- The digit behind. -/
def digB (f : Nat → List Bool) (k : Nat) (x : Int) : Bool := (f x.toNat).getD k false

theorem subL_nil (f : Nat → List Bool) (xs : List Int) : subL f [] xs = xs := by simp [subL]

theorem subL_mem {f : Nat → List Bool} {p : List Bool} {xs : List Int} {x : Int} : x ∈ subL f p xs ↔ x ∈ xs ∧ (f x.toNat).take p.length = p := by simp [subL]

/-- Where no code is p itself, each of them is longer. -/
theorem subL_long {f : Nat → List Bool} {p : List Bool} {xs : List Int} (hp : p ∉ codesL xs f) {x : Int} (h : x ∈ subL f p xs) : p.length < (f x.toNat).length := by
  obtain ⟨h1, h2⟩ := subL_mem.1 h
  rcases Nat.lt_or_ge p.length (f x.toNat).length with c | c
  · exact c
  · rw [List.take_of_length_le c] at h2
    exact absurd (List.mem_map.2 ⟨x, h1, h2⟩) hp

theorem take_dig {c p : List Bool} {d : Bool} (h : p.length < c.length) : c.take (p ++ [d]).length = p ++ [d] ↔ c.take p.length = p ∧ c.getD p.length false = d := by
  rw [List.length_append, List.length_singleton, List.take_add_one, List.getElem?_eq_getElem h]
  have e : c.getD p.length false = c[p.length] := by simp [List.getD_eq_getElem?_getD, h]
  rw [e]
  constructor
  · intro hh
    have := List.append_inj' hh rfl
    exact ⟨this.1, by simpa using this.2⟩
  · rintro ⟨h1, h2⟩
    rw [h1, h2]; rfl

/-- Those of one digit behind p. -/
theorem subL_snoc {f : Nat → List Bool} {p : List Bool} {xs : List Int} (hp : p ∉ codesL xs f) (d : Bool) : subL f (p ++ [d]) xs = (subL f p xs).filter fun x => digB f p.length x == d := by
  unfold subL
  rw [List.filter_filter]
  apply List.filter_congr
  intro x hx
  rw [Bool.eq_iff_iff, decide_eq_true_iff, Bool.and_eq_true, decide_eq_true_iff, beq_iff_eq]
  by_cases hl : p.length < (f x.toNat).length
  · rw [take_dig hl]; unfold digB; exact And.comm
  · have hno : (f x.toNat).take p.length ≠ p := fun e => hp (List.mem_map.2 ⟨x, hx, by rw [List.take_of_length_le (by omega)] at e; exact e⟩)
    constructor
    · intro e
      have := congrArg List.length e
      simp at this
      omega
    · rintro ⟨-, e⟩; exact absurd e hno

/-- The part of p: the digit behind of each. -/
theorem part_subL {f : Nat → List Bool} {p : List Bool} {xs : List Int} (hp : p ∉ codesL xs f) : partB (codesL xs f) p = (subL f p xs).map (digB f p.length) := by
  unfold partB codesL subL
  unfold codesL at hp
  induction xs with
  | nil => rfl
  | cons x xs ih =>
    have h1 : p ∉ xs.map fun x => f x.toNat := fun h => hp (by simp only [List.map_cons, List.mem_cons]; exact .inr h)
    have h2 : f x.toNat ≠ p := fun h => hp (by simp only [List.map_cons, List.mem_cons]; exact .inl h.symm)
    rw [List.map_cons, List.flatMap_cons, ih h1, List.filter_cons]
    unfold nxt nxtK
    by_cases e : (f x.toNat).take p.length = p
    · have hl : p.length < (f x.toNat).length := by
        rcases Nat.lt_or_ge p.length (f x.toNat).length with c | c
        · exact c
        · rw [List.take_of_length_le c] at e; exact absurd e h2
      rw [if_pos ⟨hl, e⟩, if_pos (by simpa using e), List.map_cons]
      rfl
    · rw [if_neg (fun h => e h.2), if_neg (by simpa using e), List.nil_append]

/-- All whose codes begin with c's are c. -/
theorem subL_one {xs : List Int} {size : Nat} {f : Nat → List Bool} (hF : FR xs size f) {c : Int} (hc : c ∈ xs) : subL f (f c.toNat) xs = List.replicate (subL f (f c.toNat) xs).length c := by
  apply List.eq_replicate_iff.2
  refine ⟨rfl, fun x hx => ?_⟩
  obtain ⟨h1, h2⟩ := subL_mem.1 hx
  refine hF.one hc h1 (s := (f x.toNat).drop (f c.toNat).length) ?_
  have := List.take_append_drop (f c.toNat).length (f x.toNat)
  rw [h2] at this
  exact this.symm

/-- Of a list that is gone over: it stands in its own part, behind as many as came ahead. -/
theorem filt_at {α : Type} (g : α → Bool) (L : List α) (i : Nat) (h : i < L.length) : (L.filter fun x => g x == g L[i])[rkN (g L[i]) (L.map g) i]? = some L[i] := by
  have e : L = L.take i ++ L[i] :: L.drop (i + 1) := by
    rw [← List.drop_eq_getElem_cons h, List.take_append_drop]
  have hr : rkN (g L[i]) (L.map g) i = ((L.take i).filter fun x => g x == g L[i]).length := by
    unfold rkN
    rw [← List.map_take, List.count, List.countP_map, List.countP_eq_length_filter]
    rfl
  rw [hr]
  generalize L[i] = y at *
  have hs : (L.filter fun x => g x == g y) = ((L.take i).filter fun x => g x == g y) ++ ((y :: L.drop (i + 1)).filter fun x => g x == g y) := by
    rw [← List.filter_append, ← e]
  rw [hs, List.getElem?_append_right (Nat.le_refl _), Nat.sub_self, List.filter_cons, if_pos (by simp)]
  rfl

/-- How many of them there are. -/
theorem filt_len {α : Type} (g : α → Bool) (L : List α) (d : Bool) : (L.filter fun x => g x == d).length = rkN d (L.map g) L.length := by
  unfold rkN
  rw [List.take_of_length_le (by simp), List.count, List.countP_map, List.countP_eq_length_filter]
  rfl

/-- What is left of its part, a step on. -/
theorem rkN_step (b : Bool) (l : List Bool) (i : Nat) (h : i < l.length) : rkN b l (i + 1) = if l[i] = b then rkN b l i + 1 else rkN b l i := by
  unfold rkN
  rw [List.take_add_one, List.getElem?_eq_getElem h, Option.toList_some, List.count_append, List.count_singleton]
  by_cases e : l[i] = b
  · rw [if_pos e, if_pos (by simpa using e)]
  · rw [if_neg e, if_neg (by simpa using e)]; rfl

end Go.Proofs.YtdidoecigkbffaaGreat
end

section
/- Plain: the order in which the document gives codes out (depth by depth, in each the symbols in order) is ours; its next code, filled up, is ours. -/
namespace Go.Proofs.YtdidoecigkbffaaGreat
open S J M

/-- Depth by depth, in each the symbols in order. -/
def byD (dep : Nat → Nat) (n most : Nat) : List Int := (List.range most).flatMap fun d => (symL dep n).filter fun x => decide (dep x.toNat = d + 1)

theorem range_pick {α : Type} (X : List α) (k : Int) : ∀ most : Nat, ((List.range most).flatMap fun d : Nat => if ((d : Int) + 1 = k) then X else []) = if 1 ≤ k ∧ k ≤ most then X else [] := by
  intro most
  induction most with
  | zero => rw [if_neg (by omega)]; rfl
  | succ m ih =>
    rw [List.range_succ, List.flatMap_append, ih, List.flatMap_singleton]
    by_cases e : (m : Int) + 1 = k
    · rw [if_pos e, if_neg (by omega), if_pos (by omega)]; rfl
    · rw [if_neg e, List.append_nil]
      by_cases e2 : 1 ≤ k ∧ k ≤ m
      · rw [if_pos e2, if_pos (by omega)]
      · rw [if_neg e2, if_neg (by omega)]

theorem byD_same (dep : Nat → Nat) (n most : Nat) (hm : ∀ c, c < n → dep c ≤ most) : Same (fun x : Int => (dep x.toNat : Int)) (symL dep n) (byD dep n most) := by
  intro k
  unfold byD
  rw [List.filter_flatMap]
  have e : (fun d : Nat => ((symL dep n).filter fun x => decide (dep x.toNat = d + 1)).filter fun x => decide ((dep x.toNat : Int) = k)) = fun d : Nat => if ((d : Int) + 1 = k) then ((symL dep n).filter fun x => decide ((dep x.toNat : Int) = k)) else [] := by
    funext d
    rw [List.filter_filter]
    by_cases h : (d : Int) + 1 = k
    · rw [if_pos h]
      apply List.filter_congr
      intro x _
      rw [Bool.eq_iff_iff, Bool.and_eq_true, decide_eq_true_iff, decide_eq_true_iff]
      omega
    · rw [if_neg h]
      apply List.filter_eq_nil_iff.2
      intro x _
      rw [Bool.and_eq_true, decide_eq_true_iff, decide_eq_true_iff]
      omega
  rw [e, range_pick]
  by_cases h : 1 ≤ k ∧ k ≤ most
  · rw [if_pos h]
  · rw [if_neg h]
    apply List.filter_eq_nil_iff.2
    intro x hx
    obtain ⟨c, h1, h2, h3⟩ := symL_mem.1 hx
    have := hm c h2
    rw [decide_eq_true_iff, h1]
    show ¬ ((dep (c : Int).toNat : Nat) : Int) = k
    rw [Int.toNat_natCast]
    omega

theorem byD_pw (dep : Nat → Nat) (n : Nat) : ∀ most, (byD dep n most).Pairwise (fun a b => dep a.toNat ≤ dep b.toNat) ∧ ∀ x ∈ byD dep n most, dep x.toNat ≤ most := by
  intro most
  induction most with
  | zero => exact ⟨List.Pairwise.nil, fun x h => by simp [byD] at h⟩
  | succ m ih =>
    have e : byD dep n (m + 1) = byD dep n m ++ (symL dep n).filter fun x => decide (dep x.toNat = m + 1) := by
      unfold byD
      rw [List.range_succ, List.flatMap_append, List.flatMap_singleton]
    have hl : ∀ x ∈ (symL dep n).filter (fun x => decide (dep x.toNat = m + 1)), dep x.toNat = m + 1 := fun x hx => by
      simpa using (List.mem_filter.1 hx).2
    rw [e]
    refine ⟨List.pairwise_append.2 ⟨ih.1, ?_, fun a ha b hb => ?_⟩, fun x hx => ?_⟩
    · exact List.Pairwise.imp_of_mem (fun ha hb _ => by rw [hl _ ha, hl _ hb]; exact Nat.le_refl _) (List.pairwise_of_forall (R := fun _ _ => True) (fun _ _ => trivial))
    · have := ih.2 a ha
      rw [hl b hb]; omega
    · rcases List.mem_append.1 hx with h | h
      · have := ih.2 x h; omega
      · rw [hl x h]; exact Nat.le_refl _

/-- Our order is the document's. -/
theorem Cod.byD {xs : List Int} {n : Nat} {ys : List Hp} {zs : List Int} (h : Cod xs n ys zs) {most : Nat} (hm : ∀ c, c < n → depF ys c ≤ most) : zs = byD (depF ys) n most := by
  refine same_uniq (h.same.symm.trans (byD_same (depF ys) n most hm)) ?_ ?_
  · exact h.pw.imp (fun h => by simpa using h)
  · exact (byD_pw (depF ys) n most).1.imp (fun h => by simpa using h)

/-- The number behind, of as many digits. -/
def moreL (l : List Bool) : List Bool := match bump l with
  | some a => nextC a l.length
  | none => List.replicate l.length false

theorem bump_lt : ∀ {l a : List Bool}, bump l = some a → a.length < l.length := by
  intro l
  induction l with
  | nil => intro a h; simp [bump] at h
  | cons x t ih =>
    intro a h
    unfold bump at h
    cases hb : bump t with
    | some b =>
      rw [hb] at h
      simp only [Option.some.injEq] at h
      subst h
      have := ih hb
      simp; omega
    | none =>
      rw [hb] at h
      cases x
      · simp at h; subst h; simp
      · simp at h

/-- Filled up with zeros it is the next code. -/
theorem more_next {l a : List Bool} {d : Nat} (hb : bump l = some a) (hd : l.length ≤ d) : moreL l ++ List.replicate (d - l.length) false = nextC a d := by
  have := bump_lt hb
  unfold moreL
  rw [hb]
  unfold nextC
  rw [List.append_assoc, List.cons_append, List.replicate_append_replicate]
  congr 3
  omega

/-- The code behind code k, as the document makes it. -/
theorem codeSeq_more (d : Nat → Nat) (k : Nat) {a : List Bool} (hb : bump (codeSeq d k) = some a) (hd : (codeSeq d k).length ≤ d (k + 1)) :
    codeSeq d (k + 1) = moreL (codeSeq d k) ++ List.replicate (d (k + 1) - (codeSeq d k).length) false := by
  rw [more_next hb hd]
  show (match bump (codeSeq d k) with | some a => nextC a (d (k + 1)) | none => []) = _
  rw [hb]

end Go.Proofs.YtdidoecigkbffaaGreat
end

section
/- The contract of the document's more. -/
set_option maxRecDepth 100000
namespace Go.Proofs.YtdidoecigkbffaaGreat
open Go.RowKit
open S J M
attribute [local go_sem ↓] Go.wp_at_zero Go.wp_at_succ

/-- Where the last digit 0 stands is where it is raised. -/
theorem bump_at : ∀ (a : List Bool) (r : Nat), bump (a ++ false :: List.replicate r true) = some a := by
  intro a r
  have h0 : ∀ r, bump (List.replicate r true) = none := by
    intro r
    induction r with
    | zero => rfl
    | succ r ih => rw [List.replicate_succ]; unfold bump; rw [ih]; rfl
  induction a with
  | nil => rw [List.nil_append]; unfold bump; rw [h0]; rfl
  | cons x a ih => rw [List.cons_append]; unfold bump; rw [ih]
theorem bump_ones (r : Nat) : bump (List.replicate r true) = none := by
  induction r with
  | zero => rfl
  | succ r ih => rw [List.replicate_succ]; unfold bump; rw [ih]; rfl

theorem more_at (a : List Bool) (r : Nat) : moreL (a ++ false :: List.replicate r true) = a ++ true :: List.replicate r false := by
  unfold moreL
  rw [bump_at]
  unfold nextC
  simp
theorem more_ones (r : Nat) : moreL (List.replicate r true) = List.replicate r false := by
  unfold moreL
  rw [bump_ones]
  simp

/-- A text's bytes, in memory of the call's own. -/
structure BY (w : World) (D : Nat) (l : List Bool) (u : World) : Prop where
  cell : ∀ i, i < l.length → u.cell? ⟨D, i, none⟩ = some (.int .u8 ((dig (l.getD i false)).toNat : Int))
  frz : ∀ i, i < l.length → u.frozen? ⟨D, i, none⟩ = false
  lo : w.heap.size ≤ D
  bel : Below w.heap.size w u

theorem BY.set {w u : World} {D : Nat} {l : List Bool} (h : BY w D l u) {i : Nat} (hi : i < l.length) (d : Bool) : BY w D (l.set i d) (u.setCell ⟨D, i, none⟩ (.int .u8 ((dig d).toNat : Int))) := by
  refine ⟨fun j hj => ?_, fun j hj => ?_, h.lo, h.bel.setCell h.lo _⟩
  · rw [List.length_set] at hj
    rw [cell_set _ _ _ _ _ _ (h.cell j hj)]
    by_cases e : j = i
    · subst e
      simp [List.getD_eq_getElem?_getD, hj]
    · simp [e, List.getD_eq_getElem?_getD, List.getElem?_set_ne (Ne.symm e)]
  · rw [List.length_set] at hj
    rw [World.frozen?_setCell]; exact h.frz j hj

/-- What the conversion makes. -/
theorem BY.made (w : World) (l : List Bool) : BY w w.heap.size l (Lib.bytesWorld w 5 (str l)) := by
  have hz : (str l).size = l.length := str_size l
  have hsz : (str l).size ≤ (Lib.bytesCells w 5 (str l)).size := by
    unfold Lib.bytesCells
    rw [Array.size_append, Array.size_map]
    exact Nat.le_add_right _ _
  refine ⟨fun i hi => ?_, fun i hi => ?_, Nat.le_refl _, ⟨rfl, ?_, rfl, ?_, fun k hk => Lib.bytesWorld_at_old w 5 _ k hk⟩⟩
  · rw [Lib.bytesWorld_cell w 5 (str l) i (by omega)]
    simp [str, List.getD_eq_getElem?_getD, hi]
  · unfold World.frozen?
    rw [Lib.bytesWorld_at_new]
    simp
    omega
  · rfl
  · rw [Lib.bytesWorld_size]; omega

theorem BY.back {w u : World} {D : Nat} {l : List Bool} (h : BY w D l u) {n : Nat} (hn : l.length = n) (cp : Nat) : (convert 72 9 (.slice (some ⟨D, 0, none⟩) n cp)).run Tryz.prog u = .ok (.string (str l)) u := by
  have := run_convert_bytes_back (P := Tryz.prog) u 72 9 5 ⟨D, 0, none⟩ cp (l.map dig) Tryz.underlying72 Tryz.underlying5 Tryz.underlying9 (fun j hj => by
    rw [List.length_map] at hj
    rw [add_zero_addr, h.cell j hj]
    simp [List.getD_eq_getElem?_getD, hj])
  rw [List.length_map, hn] at this
  exact this

/-- How far the digits are turned: those behind m were ones. -/
def turnL (l : List Bool) (m : Nat) : List Bool := l.take m ++ List.replicate (l.length - m) false
theorem turnL_len (l : List Bool) {m : Nat} (h : m ≤ l.length) : (turnL l m).length = l.length := by simp [turnL]; omega
theorem turnL_all (l : List Bool) : turnL l l.length = l := by simp [turnL]
theorem turnL_at (l : List Bool) {i : Nat} (h : i < l.length) : (turnL l (i + 1)).getD i false = l.getD i false := by
  unfold turnL
  simp only [List.getD_eq_getElem?_getD]
  rw [List.getElem?_append_left (by simp; omega), List.getElem?_take, if_pos (by omega)]
theorem turnL_split (l : List Bool) {i : Nat} (h : i < l.length) : turnL l (i + 1) = l.take i ++ l.getD i false :: List.replicate (l.length - (i + 1)) false := by
  unfold turnL
  rw [List.take_succ_eq_append_getElem h, List.append_assoc]
  simp [List.getD_eq_getElem?_getD, h]
theorem turnL_set (l : List Bool) {i : Nat} (h : i < l.length) (d : Bool) : (turnL l (i + 1)).set i d = l.take i ++ d :: List.replicate (l.length - (i + 1)) false := by
  rw [turnL_split l h, List.set_append_right _ _ (by simp; omega)]
  have e : i - (l.take i).length = 0 := by simp; omega
  rw [e]; rfl
theorem turnL_zero (l : List Bool) {i : Nat} (h : i < l.length) : (turnL l (i + 1)).set i false = turnL l i := by
  rw [turnL_set l h, ← List.replicate_succ]
  unfold turnL
  congr 2
  omega
theorem drop_ones (l : List Bool) {i : Nat} (h : i < l.length) (ho : l.drop (i + 1) = List.replicate (l.length - (i + 1)) true) : l = l.take i ++ l.getD i false :: List.replicate (l.length - (i + 1)) true := by
  have e := List.take_append_drop i l
  rw [List.drop_eq_getElem_cons h, ho] at e
  have : l.getD i false = l[i] := by simp [List.getD_eq_getElem?_getD, h]
  rw [this]
  exact e.symm

set_option maxHeartbeats 2000000 in
theorem more_any (l : List Bool) (w : World) (hl : l.length ≤ 39) : Calls Tryz.prog 24 #[.string (str l)] w fun e w' => e = .returned (.string (str (moreL l))) ∧ Below w.heap.size w w' := by
  obtain ⟨n, hn⟩ : ∃ n, n = l.length := ⟨_, rfl⟩
  have hcv := Lib.run_convert_string_bytes (P := Tryz.prog) w 9 72 5 (str l) Tryz.underlying9 Tryz.underlying72 Tryz.underlying5
  rw [str_size, ← hn] at hcv
  obtain ⟨cp, hcp⟩ : ∃ cp, cp = grownCap w n 0 5 := ⟨_, rfl⟩
  rw [← hcp] at hcv
  have hB := BY.made w l
  generalize Lib.bytesWorld w 5 (str l) = u at *
  have HB := Lib.hid (And.intro hB (And.intro hn hl))
  obtain ⟨D, hD⟩ : ∃ D, D = w.heap.size := ⟨_, rfl⟩
  rw [← hD] at hcv HB
  have hn39 : n ≤ 39 := by omega
  clear hB hn hl hcp hD
  go_enter Tryz.func24, Tryz.ntmps24
  go_wp2
  clear hcv
  go_loopw [4] (fun v4 wr => ∃ m : Nat, m ≤ n ∧ v4 = .int .i64 ((m : Int) - 1) ∧ BY w D (turnL l m) wr ∧ l.drop m = List.replicate (n - m) true) (fun v4 _ => (intOf v4 + 1).toNat)
  case atStart =>
    refine ⟨n, Nat.le_refl _, by go_num, ?_, by rw [HB.out.2.1]; simp⟩
    rw [HB.out.2.1, turnL_all]
    exact HB.out.1
  case round =>
    obtain ⟨m, hmn, rfl, hBr, hone⟩ := hrel
    match m with
    | 0 =>
      have hbk := hBr.back (n := n) (by rw [turnL_len l (Nat.zero_le _), HB.out.2.1]) cp
      have e : moreL l = turnL l 0 := by
        rw [List.drop_zero] at hone
        rw [hone, more_ones]
        simp [turnL]
      have HE := Lib.hid (And.intro e hBr.bel)
      clear hBr hone e
      go_wp2
      go_ret
      rw [HE.out.1]
      exact ⟨rfl, HE.out.2⟩
    | i + 1 =>
      have hil : i < l.length := by have := HB.out.2.1; omega
      have hlen : (turnL l (i + 1)).length = l.length := turnL_len l (by omega)
      have hln := HB.out.2.1
      have c1 := hBr.cell i (by omega)
      have z1 := hBr.frz i (by omega)
      rw [turnL_at l hil] at c1
      rw [hln] at hone
      have hsp := drop_ones l hil hone
      have q1 : ((i + 1 : Nat) : Int) - 1 = (i : Int) := by omega
      rw [q1]
      have q2 : (0 : Int) ≤ (i : Int) := by omega
      have q3 : (i : Int) < (n : Int) := by omega
      cases hd : l.getD i false with
      | false =>
        rw [hd] at c1 hsp
        have hset : BY w D ((turnL l (i + 1)).set i true) (wr.setCell ⟨D, i, none⟩ (.int .u8 49)) := hBr.set (by omega) true
        rw [turnL_set l hil] at hset
        have e : moreL l = l.take i ++ true :: List.replicate (l.length - (i + 1)) false := by
          conv => lhs; rw [hsp]
          exact more_at _ _
        have hbk := hset.back (n := n) (by simp; omega) cp
        rw [← e] at hbk
        have HE := Lib.hid hset.bel
        have c1' : wr.cell? ⟨D, i, none⟩ = some (.int .u8 48) := c1
        clear hset e hsp hone hBr c1 hlen hln hil hd
        go_wp2
        go_ret
        exact ⟨rfl, HE.out⟩
      | true =>
        rw [hd] at c1 hsp
        have hset : BY w D ((turnL l (i + 1)).set i false) (wr.setCell ⟨D, i, none⟩ (.int .u8 48)) := hBr.set (by omega) false
        rw [turnL_zero l hil] at hset
        have hone' : l.drop i = List.replicate (n - i) true := by
          rw [List.drop_eq_getElem_cons hil, hone, show l[i] = true by simpa [List.getD_eq_getElem?_getD, hil] using hd, ← List.replicate_succ]
          congr 1
          omega
        have HE := Lib.hid (And.intro hset hone')
        have c1' : wr.cell? ⟨D, i, none⟩ = some (.int .u8 49) := c1
        clear hset hsp hone hone' hBr c1 hlen hln hil hd
        go_wp2
        go_roundw
        case rel => exact ⟨i, by omega, by go_num, HE.out.1, HE.out.2⟩
        case measure => simp [intOf]

end Go.Proofs.YtdidoecigkbffaaGreat
end

section
/- The document's Codes, behind the contract of its Depths. -/
set_option maxRecDepth 100000
namespace Go.Proofs.YtdidoecigkbffaaGreat
open Go.RowKit
open S J M
attribute [local go_sem ↓] Go.wp_at_zero Go.wp_at_succ

/-- The codes that the document has given out ahead of symbol c at depth d + 1: whose they are. -/
def preP (dep : Nat → Nat) (n d c : Nat) : List Int := byD dep n d ++ (symL dep c).filter fun x => decide (dep x.toNat = d + 1)

theorem preP_zero (dep : Nat → Nat) (n d : Nat) : preP dep n d 0 = byD dep n d := by simp [preP, symL]
theorem preP_last (dep : Nat → Nat) (n d : Nat) : preP dep n d n = byD dep n (d + 1) := by
  unfold preP byD
  rw [List.range_succ, List.flatMap_append, List.flatMap_singleton]
theorem preP_succ (dep : Nat → Nat) (n d c : Nat) : preP dep n d (c + 1) = if dep c = d + 1 then preP dep n d c ++ [(c : Int)] else preP dep n d c := by
  unfold preP
  rw [symL_succ, List.filter_append, ← List.append_assoc]
  by_cases h : dep c = d + 1
  · rw [if_pos h, if_pos (by omega), List.filter_cons, if_pos (by simpa using h)]; rfl
  · rw [if_neg h]
    by_cases h0 : 0 < dep c
    · rw [if_pos h0, List.filter_cons, if_neg (by simpa using h)]; simp
    · rw [if_neg h0]; simp

theorem symL_pre (dep : Nat → Nat) (c : Nat) : ∀ k, ∃ r, symL dep (c + k) = symL dep c ++ r := by
  intro k
  induction k with
  | zero => exact ⟨[], by simp⟩
  | succ k ih =>
    obtain ⟨r, hr⟩ := ih
    exact ⟨_, by rw [← Nat.add_assoc, symL_succ, hr, List.append_assoc]⟩
theorem byD_pre (dep : Nat → Nat) (n d : Nat) : ∀ k, ∃ r, byD dep n (d + k) = byD dep n d ++ r := by
  intro k
  induction k with
  | zero => exact ⟨[], by simp⟩
  | succ k ih =>
    obtain ⟨r, hr⟩ := ih
    refine ⟨r ++ (symL dep n).filter fun x => decide (dep x.toNat = d + k + 1), ?_⟩
    rw [← List.append_assoc, ← hr]
    unfold byD
    rw [← Nat.add_assoc, List.range_succ, List.flatMap_append, List.flatMap_singleton]
theorem preP_pre (dep : Nat → Nat) {n d c most : Nat} (hd : d < most) (hc : c ≤ n) : ∃ r, byD dep n most = preP dep n d c ++ r := by
  obtain ⟨r1, h1⟩ := byD_pre dep n (d + 1) (most - (d + 1))
  rw [show d + 1 + (most - (d + 1)) = most by omega, ← preP_last] at h1
  obtain ⟨r2, h2⟩ := symL_pre dep c (n - c)
  rw [show c + (n - c) = n by omega] at h2
  refine ⟨(r2.filter fun x => decide (dep x.toNat = d + 1)) ++ r1, ?_⟩
  rw [h1]
  unfold preP
  rw [h2, List.filter_append]
  simp
/-- Whose turn it is. -/
theorem preP_at (dep : Nat → Nat) {n d c most : Nat} (hd : d < most) (hc : c < n) (h : dep c = d + 1) : (byD dep n most).getD (preP dep n d c).length 0 = (c : Int) ∧ (preP dep n d c).length < (byD dep n most).length := by
  obtain ⟨r, hr⟩ := preP_pre dep hd (show c + 1 ≤ n by omega)
  rw [preP_succ, if_pos h] at hr
  rw [hr]
  constructor
  · simp [List.getD_eq_getElem?_getD]
  · simp

/-- The code that was given out last. -/
def lastC (d : Nat → Nat) : Nat → List Bool
  | 0 => []
  | k + 1 => codeSeq d k
/-- What the next code is filled up from. -/
def baseC (d : Nat → Nat) : Nat → List Bool
  | 0 => []
  | k + 1 => moreL (codeSeq d k)

theorem moreL_len (l : List Bool) : (moreL l).length = l.length := by
  unfold moreL
  cases h : bump l with
  | none => simp
  | some a =>
    have := bump_lt h
    simp [nextC]; omega

theorem baseC_len (d : Nat → Nat) (k : Nat) : (baseC d k).length = (lastC d k).length := by
  cases k with
  | zero => rfl
  | succ k => exact moreL_len _

theorem fill_next {d : Nat → Nat} {M n : Nat} (h : Full d M n) {k : Nat} (hk : k < n) : (baseC d k).length ≤ d k ∧ baseC d k ++ List.replicate (d k - (baseC d k).length) false = codeSeq d k := by
  cases k with
  | zero => exact ⟨Nat.zero_le _, by simp [baseC, codeSeq]⟩
  | succ k =>
    have hl := (h.codes k (by omega)).1
    obtain ⟨a, e1, e2, e3⟩ := h.next k hk
    have hb : bump (codeSeq d k) = some a := by rw [e1]; exact bump_at a _
    have hm := h.mono k (k + 1) (by omega) hk
    rw [baseC_len]
    refine ⟨?_, ?_⟩
    · show (codeSeq d k).length ≤ d (k + 1)
      rw [hl]; exact hm
    · show moreL (codeSeq d k) ++ List.replicate (d (k + 1) - (codeSeq d k).length) false = _
      exact (codeSeq_more d k hb (by rw [hl]; exact hm)).symm

theorem SR.put {w u : World} {C n : Nat} {f : Nat → List Bool} (h : SR w C n f u) (i : Nat) (x : List Bool) : SR w C n (fun k => if k = i then x else f k) (u.setCell ⟨C, i, none⟩ (.string (str x))) := by
  refine ⟨fun k hk => ?_, fun k hk => by simpa using h.frz k hk, h.lo, by simpa using h.hi, h.bel.setCell h.lo _⟩
  rw [cell_set _ _ _ _ _ _ (h.cell k hk)]
  by_cases e : k = i
  · simp [e]
  · simp [e]

def szV : Value → Nat
  | .string s => s.size
  | _ => 0

set_option maxHeartbeats 8000000 in
theorem dcodes_any (A : Option Addr) (n cA : Nat) (xs : List Int) (ys : List Hp) (zs : List Int) (w : World) (hcod : Cod xs n ys zs) (hn : n ≤ 39) (hys : 2 ≤ ys.length → ys.length ≤ 39) (hdep : Calls Tryz.prog 23 #[.slice A n cA] w (DDepEnd w n (depF ys))) :
    Calls Tryz.prog 9 #[.slice A n cA] w fun e u => ∃ C, e = .returned (.slice (some ⟨C, 0, none⟩) n n) ∧ SR w C n (codF ys zs) u := by
  obtain ⟨dep, hdp⟩ : ∃ dep, dep = depF ys := ⟨_, rfl⟩
  rw [← hdp] at hdep
  have HCOD := Lib.hid (And.intro hcod (And.intro hdp hys))
  have HDEP := Lib.hid hdep
  clear hcod hdep hdp hys
  obtain ⟨i0, hi, hz0, hz1, hz2⟩ := info_parts info9
  go_enter Tryz.func9, Tryz.ntmps9
  go_wp2_with fail
  refine HDEP.out.mono ?_
  rintro e w2 ⟨D, dv, rfl, hN, hR, hb⟩
  go_wp2_with (first | (at_make; refine wpList_make_full _ rfl _ _ 27 rfl w2.heap.size 9 i0 (.string ⟨#[]⟩) 1 Tryz.underlying27 hi hz0 hz1 _ _ _ _ n rfl rfl rfl rfl ?b2 ?b3 (Nat.le_refl _) ?_))
  case b2 => rw [hz2]; omega
  case b3 => unfold maxLen; omega
  intro w3 hown hgrow
  have hC : SR w2 w2.heap.size n (fun _ => []) w3 := by
    have hg := hown.lt w2.heap.size rfl
    exact ⟨fun i hi => by rw [hown.cellAt i (by omega)]; exact madeStr n i hi, fun i _ => hown.frozenAt i, Nat.le_refl _, hg.2, below_grown hgrow⟩
  obtain ⟨C, hCe⟩ : ∃ C, C = w2.heap.size := ⟨_, rfl⟩
  rw [← hCe] at hC
  rw [← hCe]
  have HC := Lib.hid hC
  have HN := Lib.hid (And.intro hN (And.intro hR hb))
  clear hown hgrow hC hi hz0 hz1 hz2 hN hR hb hCe
  go_wp2
  go_loopw [5, 6] (fun v5 v6 wr => ∃ m i : Nat, v5 = .int .i64 (m : Int) ∧ v6 = .int .i64 (i : Int) ∧ i ≤ n ∧ m ≤ n ∧ (∀ c, c < i → dep c ≤ m) ∧ SR w2 C n (fun _ => []) wr) (fun _ v6 _ => n - (intOf v6).toNat)
  case atStart => exact ⟨0, 0, rfl, rfl, Nat.zero_le _, Nat.zero_le _, fun c h => by omega, HC.out⟩
  case round =>
    obtain ⟨m, i, rfl, rfl, hin, hmn, hle, hS⟩ := hrel
    by_cases hlt : i < n
    · obtain ⟨x, hx, hx1, hx2, hx3⟩ := HN.out.2.1.cell (HN.out.1.kept hS.bel) hlt
      have HS := Lib.hid hS
      have HLE := Lib.hid hle
      clear hS hle
      have q1 : (i : Int) < (n : Int) := by omega
      have q2 : (0 : Int) ≤ (i : Int) := by omega
      by_cases hgt : (m : Int) < x
      · go_wp2
        go_roundw
        case rel =>
          refine ⟨x.toNat, i + 1, by congr 1; omega, by go_num, by omega, by omega, fun c hc => ?_, HS.out⟩
          by_cases e : c = i
          · subst e; omega
          · have := HLE.out c (by omega); omega
        case measure => simp [intOf]; omega
      · go_wp2
        go_roundw
        case rel =>
          refine ⟨m, i + 1, rfl, by go_num, by omega, by omega, fun c hc => ?_, HS.out⟩
          by_cases e : c = i
          · subst e; omega
          · exact HLE.out c (by omega)
        case measure => simp [intOf]; omega
    · obtain rfl : i = n := by omega
      have q1 : ¬ (i : Int) < (i : Int) := by omega
      obtain ⟨hcod, hdp, hys⟩ := HCOD.out
      have hz : zs = byD dep i m := by rw [hdp]; exact hcod.byD fun c hc => by rw [← hdp]; exact hle c hc
      obtain ⟨dd, hdd⟩ : ∃ dd : Nat → Nat, dd = fun k => dep (zs.getD k 0).toNat := ⟨_, rfl⟩
      obtain ⟨z, hze⟩ : ∃ z : Nat → Int, z = fun k => zs.getD k 0 := ⟨_, rfl⟩
      -- what the next code is
      have hnext : ∀ d c, d < m → c < i → dep c = d + 1 → z (preP dep i d c).length = (c : Int) ∧ dd (preP dep i d c).length = d + 1 ∧ (lastC dd (preP dep i d c).length).length ≤ d + 1 ∧ baseC dd (preP dep i d c).length ++ List.replicate (d + 1 - (baseC dd (preP dep i d c).length).length) false = codeSeq dd (preP dep i d c).length := by
        intro d c hd hc he
        obtain ⟨a1, a2⟩ := preP_at dep hd hc he
        rw [← hz] at a1 a2
        have h2 : 2 ≤ ys.length := by
          apply Decidable.byContradiction
          intro hh
          have := hcod.yo.few (by omega) c
          rw [← hdp] at this
          omega
        have hf := hcod.yo.full h2 (hcod.same |> same_perm) hcod.pw
        have a3 : dd (preP dep i d c).length = d + 1 := by rw [hdd]; show dep (zs.getD _ 0).toNat = _; rw [a1, Int.toNat_natCast]; exact he
        have hF : Full dd (2 * ys.length) zs.length := by rw [hdd, hdp]; exact hf.2
        have hn := fill_next hF a2
        rw [a3] at hn
        exact ⟨by rw [hze]; exact a1, a3, by rw [← baseC_len]; exact hn.1, hn.2⟩
      have HNEXT := Lib.hid hnext
      have HFIN := Lib.hid (And.intro hz (And.intro hdd (And.intro hze hdp)))
      have HS := Lib.hid hS
      clear hnext hz hdd hze hdp hcod hys hS hle
      go_wp2
      go_loopw [7, 8, 9, 10] (fun v7 v8 v9 _ wq => ∃ d : Nat, v7 = .string (str (lastC dd (preP dep i d 0).length)) ∧ v8 = .bool (decide ((preP dep i d 0).length = 0)) ∧ v9 = .int .i64 ((d + 1 : Nat) : Int) ∧ d ≤ m ∧ (lastC dd (preP dep i d 0).length).length ≤ d ∧ SR w2 C i (codN z dd (preP dep i d 0).length) wq) (fun _ _ v9 _ _ => m + 1 - (intOf v9).toNat)
      case atStart =>
        have e : (preP dep i 0 0).length = 0 := by simp [preP, symL, byD]
        exact ⟨0, by rw [e]; rfl, by rw [e]; rfl, rfl, Nat.zero_le _, by rw [e]; exact Nat.le_refl _, by rw [e]; exact HS.out⟩
      case round =>
        obtain ⟨d, rfl, rfl, rfl, hdm, hll, hSq⟩ := hrel
        by_cases hdl : d < m
        · have q3 : ((d + 1 : Nat) : Int) ≤ (m : Int) := by omega
          have HSQ := Lib.hid (And.intro hSq hll)
          clear hSq hll
          go_wp2
          go_loopw [7, 8, 10] (fun v7 v8 v10 wq2 => ∃ c : Nat, v7 = .string (str (lastC dd (preP dep i d c).length)) ∧ v8 = .bool (decide ((preP dep i d c).length = 0)) ∧ v10 = .int .i64 (c : Int) ∧ c ≤ i ∧ (lastC dd (preP dep i d c).length).length ≤ d + 1 ∧ SR w2 C i (codN z dd (preP dep i d c).length) wq2) (fun _ _ v10 _ => i - (intOf v10).toNat)
          case atStart => exact ⟨0, rfl, rfl, rfl, Nat.zero_le _, by have := HSQ.out.2; omega, HSQ.out.1⟩
          case round =>
            obtain ⟨c, rfl, rfl, rfl, hci, hlc, hSc⟩ := hrel
            by_cases hcl : c < i
            · obtain ⟨x, hx, hx1, hx2, hx3⟩ := HN.out.2.1.cell (HN.out.1.kept hSc.bel) hcl
              have hps := preP_succ dep i d c
              have q4 : (c : Int) < (i : Int) := by omega
              have q5 : (0 : Int) ≤ (c : Int) := by omega
              by_cases hxd : x = ((d + 1 : Nat) : Int)
              · obtain ⟨a1, a2, a3, a4⟩ := HNEXT.out d c hdl hcl (by omega)
                rw [if_pos (by omega)] at hps
                have hpl : (preP dep i d (c + 1)).length = (preP dep i d c).length + 1 := by rw [hps]; simp
                generalize (preP dep i d c).length = K at *
                have hbl := baseC_len dd K
                have HZ := Lib.hid (And.intro a1 hpl)
                clear a1 hps hpl a2 hx1
                cases K with
                | zero =>
                  rw [show (decide ((0 : Nat) = 0)) = true from rfl, show lastC dd 0 = [] from rfl]
                  have HSS := Lib.hid hSc
                  clear hSc a3 hlc

                  obtain ⟨bs, hbs⟩ : ∃ bs, bs = baseC dd 0 := ⟨_, rfl⟩
                  rw [← hbs] at a4 hbl
                  have HBB := Lib.hid (And.intro hbs (And.intro a4 (And.intro hbl (show bs.length ≤ d + 1 by rw [hbs]; exact Nat.zero_le _))))
                  clear hbs a4 hbl
                  go_wp2
                  go_loopw [7] (fun v7 wx => ∃ j : Nat, v7 = .string (str (bs ++ List.replicate j false)) ∧ bs.length + j ≤ d + 1 ∧ SR w2 C i (codN z dd 0) wx) (fun v7 _ => d + 1 - szV v7)
                  case atStart => exact ⟨0, by rw [HBB.out.1]; simp [baseC], by have := HBB.out.2.2.2; simp; omega, HSS.out⟩
                  case round =>
                    obtain ⟨j, rfl, hj, hSx⟩ := hrel
                    by_cases hjl : bs.length + j < d + 1
                    · have hsz : (str (bs ++ List.replicate j false)).size = bs.length + j := by rw [str_size]; simp
                      have q6 : (((str (bs ++ List.replicate j false)).size : Nat) : Int) < ((d + 1 : Nat) : Int) := by omega
                      have a1 : ∀ W : World, (Op.stringOp .add (str (bs ++ List.replicate j false)) ⟨#[48]⟩).run Tryz.prog W = .ok (.string (str (bs ++ List.replicate j false) ++ ⟨#[48]⟩)) W := fun W => run_string_add W _ _ (by omega) (by decide)
                      have HSX := Lib.hid (And.intro hSx hsz)
                      clear hSx hsz
                      go_wp2
                      go_roundw
                      case rel =>
                        refine ⟨j + 1, ?_, by omega, HSX.out.1⟩
                        show Value.string (str (bs ++ List.replicate j false) ++ (⟨#[48]⟩ : ByteArray)) = _
                        rw [show (⟨#[48]⟩ : ByteArray) = str [false] from rfl, str_append, List.append_assoc, ← List.replicate_succ']
                      case measure =>
                        have h1 := HSX.out.2
                        show d + 1 - (str (bs ++ List.replicate j false) ++ (⟨#[48]⟩ : ByteArray)).size < d + 1 - (str (bs ++ List.replicate j false)).size
                        rw [ByteArray.size_append, h1]
                        show d + 1 - (bs.length + j + 1) < _
                        omega
                    · have hje : j = d + 1 - bs.length := by omega
                      have hsz : (str (bs ++ List.replicate j false)).size = d + 1 := by rw [str_size]; simp; omega
                      have hcd : bs ++ List.replicate j false = codeSeq dd 0 := by rw [hje]; exact HBB.out.2.1
                      rw [hcd] at hsz ⊢
                      have q6 : ¬ (((str (codeSeq dd 0)).size : Nat) : Int) < ((d + 1 : Nat) : Int) := by omega
                      have c1 := hSx.cell c hcl
                      have z1 := hSx.frz c hcl
                      have hput := hSx.put c (codeSeq dd 0)
                      have hsr : SR w2 C i (codN z dd (0 + 1)) (wr.setCell ⟨C, c, none⟩ (.string (str (codeSeq dd 0)))) := hput.congr fun k _ => by
                        show (if k = c then codeSeq dd 0 else codN z dd 0 k) = if (k : Int) = z 0 then codeSeq dd 0 else codN z dd 0 k
                        rw [HZ.out.1]
                        by_cases e : k = c
                        · rw [if_pos e, if_pos (by omega)]
                        · rw [if_neg e, if_neg (by omega)]
                      have hl1 : (codeSeq dd 0).length = d + 1 := by rw [str_size] at hsz; exact hsz
                      have HR := Lib.hid (And.intro hsr hl1)
                      clear hput hsr hSx hl1 hsz hcd
                      go_wp2
                      go_roundw
                      case rel => exact ⟨c + 1, by rw [HZ.out.2]; rfl, by rw [HZ.out.2]; rfl, by go_num, by omega, by rw [HZ.out.2]; show (codeSeq dd 0).length ≤ _; rw [HR.out.2]; exact Nat.le_refl _, by rw [HZ.out.2]; exact HR.out.1⟩
                      case measure => simp [intOf]; omega
                | succ K =>
                  rw [show (decide (K + 1 = 0)) = false from by simp, show lastC dd (K + 1) = codeSeq dd K from rfl]
                  have ha3 : (codeSeq dd K).length ≤ d + 1 := a3
                  have HS0 := Lib.hid hSc
                  clear hSc a3 hlc
                  go_wp2_with fail
                  refine (more_any (codeSeq dd K) wr (by omega)).mono ?_
                  rintro e u ⟨rfl, hbu⟩
                  have HSS := Lib.hid (HS0.out.kept hbu)
                  clear hbu HS0

                  obtain ⟨bs, hbs⟩ : ∃ bs, bs = baseC dd (K + 1) := ⟨_, rfl⟩
                  rw [← hbs] at a4 hbl
                  have HBB := Lib.hid (And.intro hbs (And.intro a4 (And.intro hbl (show bs.length ≤ d + 1 by rw [hbs]; exact Nat.le_trans (Nat.le_of_eq (moreL_len _)) ha3))))
                  clear hbs a4 hbl ha3
                  go_wp2
                  go_loopw [7] (fun v7 wx => ∃ j : Nat, v7 = .string (str (bs ++ List.replicate j false)) ∧ bs.length + j ≤ d + 1 ∧ SR w2 C i (codN z dd (K + 1)) wx) (fun v7 _ => d + 1 - szV v7)
                  case atStart => exact ⟨0, by rw [HBB.out.1]; simp [baseC], by have := HBB.out.2.2.2; simp; omega, HSS.out⟩
                  case round =>
                    obtain ⟨j, rfl, hj, hSx⟩ := hrel
                    by_cases hjl : bs.length + j < d + 1
                    · have hsz : (str (bs ++ List.replicate j false)).size = bs.length + j := by rw [str_size]; simp
                      have q6 : (((str (bs ++ List.replicate j false)).size : Nat) : Int) < ((d + 1 : Nat) : Int) := by omega
                      have a1 : ∀ W : World, (Op.stringOp .add (str (bs ++ List.replicate j false)) ⟨#[48]⟩).run Tryz.prog W = .ok (.string (str (bs ++ List.replicate j false) ++ ⟨#[48]⟩)) W := fun W => run_string_add W _ _ (by omega) (by decide)
                      have HSX := Lib.hid (And.intro hSx hsz)
                      clear hSx hsz
                      go_wp2
                      go_roundw
                      case rel =>
                        refine ⟨j + 1, ?_, by omega, HSX.out.1⟩
                        show Value.string (str (bs ++ List.replicate j false) ++ (⟨#[48]⟩ : ByteArray)) = _
                        rw [show (⟨#[48]⟩ : ByteArray) = str [false] from rfl, str_append, List.append_assoc, ← List.replicate_succ']
                      case measure =>
                        have h1 := HSX.out.2
                        show d + 1 - (str (bs ++ List.replicate j false) ++ (⟨#[48]⟩ : ByteArray)).size < d + 1 - (str (bs ++ List.replicate j false)).size
                        rw [ByteArray.size_append, h1]
                        show d + 1 - (bs.length + j + 1) < _
                        omega
                    · have hje : j = d + 1 - bs.length := by omega
                      have hsz : (str (bs ++ List.replicate j false)).size = d + 1 := by rw [str_size]; simp; omega
                      have hcd : bs ++ List.replicate j false = codeSeq dd (K + 1) := by rw [hje]; exact HBB.out.2.1
                      rw [hcd] at hsz ⊢
                      have q6 : ¬ (((str (codeSeq dd (K + 1))).size : Nat) : Int) < ((d + 1 : Nat) : Int) := by omega
                      have c1 := hSx.cell c hcl
                      have z1 := hSx.frz c hcl
                      have hput := hSx.put c (codeSeq dd (K + 1))
                      have hsr : SR w2 C i (codN z dd ((K + 1) + 1)) (wr.setCell ⟨C, c, none⟩ (.string (str (codeSeq dd (K + 1))))) := hput.congr fun k _ => by
                        show (if k = c then codeSeq dd (K + 1) else codN z dd (K + 1) k) = if (k : Int) = z (K + 1) then codeSeq dd (K + 1) else codN z dd (K + 1) k
                        rw [HZ.out.1]
                        by_cases e : k = c
                        · rw [if_pos e, if_pos (by omega)]
                        · rw [if_neg e, if_neg (by omega)]
                      have hl1 : (codeSeq dd (K + 1)).length = d + 1 := by rw [str_size] at hsz; exact hsz
                      have HR := Lib.hid (And.intro hsr hl1)
                      clear hput hsr hSx hl1 hsz hcd
                      go_wp2
                      go_roundw
                      case rel =>
                        have hne : ¬ preP dep i d (c + 1) = [] := fun h => by
                          have := HZ.out.2
                          rw [h] at this
                          simp at this
                        exact ⟨_, _, _, ⟨c + 1, rfl, rfl, rfl, by omega, by rw [HZ.out.2]; show (codeSeq dd (K + 1)).length ≤ _; rw [HR.out.2]; exact Nat.le_refl _, by rw [HZ.out.2]; exact HR.out.1⟩, by rw [HZ.out.2]; rfl, by rw [decide_eq_false hne], by go_num⟩
                      case measure => simp [intOf]; omega
              · rw [if_neg (by omega)] at hps
                have HSC := Lib.hid (And.intro hSc (And.intro hlc hps))
                clear hSc hlc hps hx1
                go_wp2
                go_roundw
                case rel => exact ⟨c + 1, by rw [HSC.out.2.2], by rw [HSC.out.2.2], by go_num, by omega, by rw [HSC.out.2.2]; exact HSC.out.2.1, by rw [HSC.out.2.2]; exact HSC.out.1⟩
                case measure => simp [intOf]; omega
            · obtain rfl : c = i := by omega
              have q4 : ¬ (c : Int) < (c : Int) := by omega
              have hlast := preP_last dep c d
              rw [← preP_zero dep c (d + 1)] at hlast
              have HSC := Lib.hid (And.intro hSc (And.intro hlc hlast))
              clear hSc hlc hlast
              go_wp2
              go_roundw
              case rel => exact ⟨d + 1, by rw [← HSC.out.2.2], by rw [← HSC.out.2.2], by go_num, by omega, by rw [← HSC.out.2.2]; exact HSC.out.2.1, by rw [← HSC.out.2.2]; exact HSC.out.1⟩
              case measure => simp [intOf]; omega
        · obtain rfl : d = m := by omega
          have q3 : ¬ ((d + 1 : Nat) : Int) ≤ (d : Int) := by omega
          have hfin : SR w C i (codF ys zs) wr := by
            obtain ⟨hz, hdd, hze, hdp⟩ := HFIN.out
            rw [preP_zero, ← hz, hdd, hze, hdp] at hSq
            exact ⟨hSq.cell, hSq.frz, Nat.le_trans HN.out.2.2.size hSq.lo, hSq.hi, HN.out.2.2.trans (hSq.bel.mono HN.out.2.2.size)⟩
          have HF := Lib.hid hfin
          clear hfin hSq hll
          go_wp2
          go_ret
          exact ⟨C, rfl, HF.out⟩

end Go.Proofs.YtdidoecigkbffaaGreat
end
