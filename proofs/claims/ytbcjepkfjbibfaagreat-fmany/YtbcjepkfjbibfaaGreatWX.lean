/- The contract of List of rows of symbols: what it holds, and plain facts on the places in order. -/
import Derived.Test.YtbcjepkfjbibfaaGreatWV
set_option maxRecDepth 100000
namespace Go.Proofs.YtbcjepkfjbibfaaGreat
open Go.RowKit
open M
attribute [local go_sem ↓] Go.wp_at_zero Go.wp_at_succ

theorem ent51 (args : Array Value) (w : World) : (callFunc 51 args).run Tryz.prog w = .ok (.enter 51 args) w := by kernel_rfl

/-- The places; the places in the order of row k. -/
def rngI (n : Nat) : List Int := (List.range n).map Int.ofNat
def keyP (l : List Int) (s : Nat) (i : Int) : Int := l.getD i.toNat 0 / 2 ^ s
def plK (l : List Int) (W k : Nat) : List Int := if k = 0 then rngI l.length else srt (keyP l (W - k)) (rngI l.length) (2 ^ k)

theorem rngI_mem (n : Nat) (i : Int) : i ∈ rngI n ↔ 0 ≤ i ∧ i < (n : Int) := by
  unfold rngI
  simp only [List.mem_map, List.mem_range]
  constructor
  · rintro ⟨j, hj, rfl⟩; exact ⟨Int.natCast_nonneg j, by simpa using hj⟩
  · intro h; exact ⟨i.toNat, by omega, by show ((i.toNat : Nat) : Int) = i; omega⟩
theorem keyP_range (l : List Int) (W s t : Nat) (h : Sy l W) (hst : s + t = W) (i : Int) (hi : i ∈ rngI l.length) : 0 ≤ keyP l s i ∧ keyP l s i < ((2 ^ t : Nat) : Int) := by
  rw [rngI_mem] at hi
  have hm : l.getD i.toNat 0 ∈ l := by simp [List.getD_eq_getElem?_getD, show i.toNat < l.length by omega]
  obtain ⟨h1, h2⟩ := h _ hm
  have hp : (0 : Int) < 2 ^ s := Int.pow_pos (by decide)
  have e : ((2 ^ t : Nat) : Int) = 2 ^ t := by simp
  unfold keyP
  refine ⟨Int.ediv_nonneg h1 (by omega), ?_⟩
  rw [e]
  refine Int.ediv_lt_of_lt_mul hp ?_
  rw [← Int.pow_add, show t + s = W by omega]; exact h2
theorem keyP_half (l : List Int) (s : Nat) (i : Int) : keyP l s i / 2 = keyP l (s + 1) i := by
  unfold keyP
  rw [Int.pow_succ, Int.ediv_ediv_of_nonneg (by exact Int.le_of_lt (Int.pow_pos (by decide)))]
theorem plK_srt (l : List Int) (W k : Nat) (hk : k < W) (h : Sy l W) : plK l W k = srt (fun i => keyP l (W - 1 - k) i / 2) (rngI l.length) (2 ^ k) := by
  have e : (fun i => keyP l (W - 1 - k) i / 2) = keyP l (W - k) := by
    funext i; rw [keyP_half, show W - 1 - k + 1 = W - k by omega]
  unfold plK
  rw [e]
  by_cases h0 : k = 0
  · subst h0
    rw [if_pos rfl, Nat.pow_zero, srt_one]
    intro i hi
    have := keyP_range l W W 0 h (by omega) i hi
    rw [Nat.sub_zero]
    simp at this
    omega
  · rw [if_neg h0]
theorem plK_pw (l : List Int) (W k : Nat) (hk : k < W) (h : Sy l W) : (plK l W k).Pairwise (fun x y => keyP l (W - 1 - k) x / 2 ≤ keyP l (W - 1 - k) y / 2) := by
  rw [plK_srt l W k hk h]; exact srt_pw _ _ _
theorem plK_next (l : List Int) (W k : Nat) (hk : k < W) (h : Sy l W) (O : List Int) (hO : SortOf (keyP l (W - 1 - k)) (plK l W k) O) : O = plK l W (k + 1) := by
  rw [plK_srt l W k hk h] at hO
  have h1 := part_srt (keyP l (W - 1 - k)) (rngI l.length) O (2 ^ k) (fun i hi => by
    have := keyP_range l W (W - 1 - k) (k + 1) h (by omega) i hi
    rw [show 2 * 2 ^ k = 2 ^ (k + 1) by rw [Nat.pow_succ]; omega]
    exact this) hO
  rw [h1]
  unfold plK
  rw [if_neg (by omega), show W - (k + 1) = W - 1 - k by omega, show 2 * 2 ^ k = 2 ^ (k + 1) by rw [Nat.pow_succ]; omega]
theorem srt_has {κ : Int → Int} {L : List Int} {K : Nat} {x : Int} (h : x ∈ L) (h0 : 0 ≤ κ x) (h1 : κ x < (K : Int)) : x ∈ srt κ L K := by
  unfold srt
  simp only [List.mem_flatMap, List.mem_filter, List.mem_range, decide_eq_true_eq]
  exact ⟨(κ x).toNat, by omega, h, by omega⟩
theorem srt_nd (κ : Int → Int) (L : List Int) (h : L.Nodup) (K : Nat) : (srt κ L K).Nodup := by
  induction K with
  | zero => simp [srt]
  | succ K ih =>
    have e : srt κ L (K + 1) = srt κ L K ++ L.filter fun x => decide (κ x = (K : Int)) := by
      unfold srt; rw [List.range_succ, List.flatMap_append]; simp
    rw [e, List.nodup_append]
    refine ⟨ih, h.filter _, ?_⟩
    intro x hx y hy hxy
    subst hxy
    have h1 := srt_lt hx
    simp only [List.mem_filter, decide_eq_true_eq] at hy
    omega
theorem rngI_nd (n : Nat) : (rngI n).Nodup := by
  unfold rngI
  refine List.Pairwise.map _ (R := fun (a b : Nat) => a ≠ b) (fun a b hab e => hab ?_) List.nodup_range
  exact Int.ofNat.inj e
theorem plK_nd (l : List Int) (W k : Nat) : (plK l W k).Nodup := by
  unfold plK
  split
  · exact rngI_nd _
  · exact srt_nd _ _ (rngI_nd _) _
theorem plK_mem (l : List Int) (W k : Nat) (hk : k ≤ W) (h : Sy l W) (i : Int) : i ∈ plK l W k ↔ 0 ≤ i ∧ i < (l.length : Int) := by
  rw [← rngI_mem]
  unfold plK
  by_cases h0 : k = 0
  · rw [if_pos h0]
  · rw [if_neg h0]
    constructor
    · intro hi; exact srt_mem hi
    · intro hi
      have := keyP_range l W (W - k) k h (by omega) i hi
      exact srt_has hi this.1 this.2
theorem rngI_map (l : List Int) : (rngI l.length).map (fun i => l.getD i.toNat 0) = l := by
  unfold rngI
  rw [List.map_map]
  apply List.ext_getElem?
  intro j
  by_cases hj : j < l.length
  · simp [hj, List.getD_eq_getElem?_getD]
  · simp [hj]
theorem plK_cur (l : List Int) (W k : Nat) : (plK l W k).map (fun i => l.getD i.toNat 0) = curI l W k := by
  unfold plK curI
  by_cases h0 : k = 0
  · rw [if_pos h0, if_pos h0, rngI_map]
  · rw [if_neg h0, if_neg h0]
    unfold srt sortI
    rw [List.map_flatMap]
    congr 1
    funext v
    unfold withI
    conv => rhs; rw [← rngI_map l]
    rw [List.filter_map]
    rfl
theorem plK_len (l : List Int) (W k : Nat) (hk : k ≤ W) (h : Sy l W) : (plK l W k).length = l.length := by
  have := congrArg List.length (plK_cur l W k)
  rw [List.length_map, curI_len l W k hk h] at this
  exact this
theorem plK_bit (l : List Int) (W k j : Nat) (hk : k < W) (h : Sy l W) (hj : j < l.length) : (rowK l W k).getD j false = decide (keyP l (W - 1 - k) ((plK l W k).getD j 0) % 2 = 1) := by
  have hl := plK_len l W k (by omega) h
  have hc := curI_len l W k (by omega) h
  unfold rowK
  rw [bitsI_at _ _ _ (by rw [hc]; exact hj)]
  have e : (curI l W k).getD j 0 = l.getD ((plK l W k).getD j 0).toNat 0 := by
    rw [← plK_cur l W k]
    simp [List.getD_eq_getElem?_getD, show j < (plK l W k).length by omega]
  rw [e]
  rfl

/-- The numbers in block g of n places. -/
structure GA (u : World) (g n : Nat) (f : Nat → Int) : Prop where
  at_ : ∀ i, i < n → u.cell? ⟨g, i, none⟩ = some (.int .i64 (f i)) ∧ u.frozen? ⟨g, i, none⟩ = false
  lt : g < u.heap.size
/-- What List holds: the box of the row, where the list is, and the list. -/
structure LH (w : World) (vb n : Nat) (size : Int) (s : Value) (f : Nat → Int) (u : World) : Prop where
  box : WBx u w.heap.size (n : Int) size s
  vb2 : w.heap.size + 2 ≤ vb
  vc : u.cell? ⟨vb, 0, none⟩ = some (.slice (some ⟨w.heap.size + 1, 0, none⟩) n n)
  ga : GA u (w.heap.size + 1) n f
  bel : Below w.heap.size w u
theorem LH.kept {w u u' : World} {vb n : Nat} {size : Int} {s : Value} {f : Nat → Int} (h : LH w vb n size s f u) (hb : Below u.heap.size u u') : LH w vb n size s f u' :=
  ⟨h.box.kept hb, h.vb2, by rw [hb.cell (p := ⟨vb, 0, none⟩) (World.block_lt_of_cell? u _ h.vc)]; exact h.vc,
   ⟨fun i hi => ⟨by rw [hb.cell (p := ⟨w.heap.size + 1, i, none⟩) h.ga.lt]; exact (h.ga.at_ i hi).1, by rw [hb.frozen (p := ⟨w.heap.size + 1, i, none⟩) h.ga.lt]; exact (h.ga.at_ i hi).2⟩, Nat.lt_of_lt_of_le h.ga.lt hb.size⟩, h.bel.trans (hb.mono h.bel.size)⟩
/-- A cell further on is written. -/
theorem LH.far {w u : World} {vb n : Nat} {size : Int} {s : Value} {f : Nat → Int} (h : LH w vb n size s f u) (b o : Nat) (v : Value) (hb : vb < b) : LH w vb n size s f (u.setCell ⟨b, o, none⟩ v) := by
  have hv := h.vb2
  have far : ∀ q o', q ≤ vb → (u.setCell ⟨b, o, none⟩ v).cell? ⟨q, o', none⟩ = u.cell? ⟨q, o', none⟩ := fun q o' hq => World.cell?_setCell_other _ _ _ _ (by simp only [ne_eq, Addr.mk.injEq]; omega)
  refine ⟨⟨by rw [far _ _ (by omega)]; exact h.box.c0, by rw [far _ _ (by omega)]; exact h.box.c1, by rw [far _ _ (by omega)]; exact h.box.c2⟩, h.vb2, by rw [far _ _ (by omega)]; exact h.vc, ⟨fun i hi => ⟨by rw [far _ _ (by omega)]; exact (h.ga.at_ i hi).1, by simpa using (h.ga.at_ i hi).2⟩, by simpa using h.ga.lt⟩, h.bel.setCell (p := ⟨b, o, none⟩) (by simp only; omega) _⟩
/-- A number of the list is written. -/
theorem LH.put {w u : World} {vb n : Nat} {size : Int} {s : Value} {f : Nat → Int} (h : LH w vb n size s f u) (i : Nat) (x : Int) (hi : i < n) : LH w vb n size s (fun j => if j = i then x else f j) (u.setCell ⟨w.heap.size + 1, i, none⟩ (.int .i64 x)) := by
  have hv := h.vb2
  have far : ∀ q o', (q ≠ w.heap.size + 1 ∨ o' ≠ i) → (u.setCell ⟨w.heap.size + 1, i, none⟩ (.int .i64 x)).cell? ⟨q, o', none⟩ = u.cell? ⟨q, o', none⟩ := fun q o' hq => World.cell?_setCell_other _ _ _ _ (by simp only [ne_eq, Addr.mk.injEq]; omega)
  refine ⟨⟨by rw [far _ _ (by omega)]; exact h.box.c0, by rw [far _ _ (by omega)]; exact h.box.c1, by rw [far _ _ (by omega)]; exact h.box.c2⟩, h.vb2, by rw [far _ _ (by omega)]; exact h.vc, ⟨fun j hj => ⟨?_, by simpa using (h.ga.at_ j hj).2⟩, by simpa using h.ga.lt⟩, h.bel.setCell (p := ⟨w.heap.size + 1, i, none⟩) (by simp only; omega) _⟩
  by_cases hji : j = i
  · subst hji
    rw [if_pos rfl]
    exact World.cell?_setCell_same _ _ _ (h.ga.at_ j hj).1
  · rw [if_neg hji, far _ _ (by omega)]
    exact (h.ga.at_ j hj).1
theorem LH.congr {w u : World} {vb n : Nat} {size : Int} {s : Value} {f g : Nat → Int} (h : LH w vb n size s f u) (e : ∀ i, i < n → f i = g i) : LH w vb n size s g u :=
  { h with ga := ⟨fun i hi => by rw [← e i hi]; exact h.ga.at_ i hi, h.ga.lt⟩ }

/-- The key by which List parts the places. -/
theorem keyl_any {w u : World} {vb n : Nat} {size : Int} {s : Value} {f : Nat → Int} (i : Nat) (hi : i < n) (h : LH w vb n size s f u) :
    Calls Tryz.prog 51 (#[.int .i64 (i : Int)] ++ #[.pointer (some ⟨vb, 0, none⟩)]) u fun e u' => e = .returned (.int .i64 (f i)) ∧ u' = u := by
  have x0 := h.vc
  have x1 := (h.ga.at_ i hi).1
  have q1 : (i : Int) < (n : Int) := by omega
  have q2 : (0 : Int) ≤ (i : Int) := by omega
  clear h
  generalize f i = y at *
  go_enter Tryz.func51, Tryz.ntmps51
  go_wp2
  go_ret
  exact ⟨rfl, rfl⟩

end Go.Proofs.YtbcjepkfjbibfaaGreat
