/- The contract of the document's Rows. -/
import Derived.Test.YtpnjccomngdblaaGreatWB
set_option maxRecDepth 100000
namespace Go.Proofs.YtpnjccomngdblaaGreat
open Go.RowKit
open M
attribute [local go_sem ↓] Go.wp_at_zero Go.wp_at_succ

theorem info99 : (Tryz.prog.info? 99).map (fun i => (i.zero, i.size, i.bytes)) = some (some (.slice none 0 0), 1, 24) := by kernel_rfl

/-- The bits worth 2^s of numbers; those whose parts above 2^s are v; all of l, stably sorted by their parts above 2^s, as far as these are below k. -/
def bitsI (l : List Int) (s : Nat) : List Bool := l.map fun x => decide (x / 2 ^ s % 2 = 1)
def withI (l : List Int) (s : Nat) (v : Nat) : List Int := l.filter fun x => decide (x / 2 ^ s = (v : Int))
def sortI (l : List Int) (s : Nat) (k : Nat) : List Int := (List.range k).flatMap fun v => withI l s v
/-- The symbols' order in row k; the rows of bits. -/
def curI (l : List Int) (W k : Nat) : List Int := if k = 0 then l else sortI l (W - k) (2 ^ k)
def rowsI (l : List Int) (W k : Nat) : List (List Bool) := (List.range k).map fun j => bitsI (curI l W j) (W - 1 - j)

theorem rowsI_succ (l : List Int) (W k : Nat) : rowsI l W (k + 1) = rowsI l W k ++ [bitsI (curI l W k) (W - 1 - k)] := by
  unfold rowsI; rw [List.range_succ, List.map_append]; rfl
theorem rowsI_len (l : List Int) (W k : Nat) : (rowsI l W k).length = k := by simp [rowsI]
theorem sortI_succ (l : List Int) (s k : Nat) : sortI l s (k + 1) = sortI l s k ++ withI l s k := by
  unfold sortI; rw [List.range_succ, List.flatMap_append]; simp
theorem withI_snoc (l : List Int) (s v : Nat) (i : Nat) (h : i < l.length) : withI (l.take (i + 1)) s v = withI (l.take i) s v ++ if l.getD i 0 / 2 ^ s = (v : Int) then [l.getD i 0] else [] := by
  unfold withI
  rw [List.take_add_one, List.filter_append]
  congr 1
  have e : l[i]?.toList = [l.getD i 0] := by simp [List.getD_eq_getElem?_getD, h]
  rw [e]
  generalize l.getD i 0 = y
  by_cases hx : y / 2 ^ s = (v : Int)
  · rw [if_pos hx]; simp [hx]
  · rw [if_neg hx]; simp [hx]
theorem bitsI_len (l : List Int) (s : Nat) : (bitsI l s).length = l.length := by simp [bitsI]
theorem bitsI_snoc (l : List Int) (s i : Nat) (h : i < l.length) : (bitsI l s).take (i + 1) = (bitsI l s).take i ++ [decide (l.getD i 0 / 2 ^ s % 2 = 1)] := by
  rw [List.take_add_one]; simp [bitsI, List.getD_eq_getElem?_getD, h]

theorem countP_split (l : List Int) (p q r : Int → Bool) (h : ∀ x, r x = (p x || q x)) (hd : ∀ x, p x = true → q x = false) : l.countP r = l.countP p + l.countP q := by
  induction l with
  | nil => simp
  | cons x t ih =>
    have h1 := h x
    have h2 := hd x
    simp only [List.countP_cons, ih, h1]
    cases hp : p x <;> cases hq : q x <;> simp_all <;> omega
theorem sortI_count (l : List Int) (s k : Nat) : (sortI l s k).length = l.countP fun x => decide (0 ≤ x / 2 ^ s ∧ x / 2 ^ s < (k : Int)) := by
  induction k with
  | zero =>
    have e : (fun x : Int => decide (0 ≤ x / 2 ^ s ∧ x / 2 ^ s < ((0 : Nat) : Int))) = fun _ => false := by funext x; rw [decide_eq_false_iff_not]; omega
    rw [e]; simp [sortI]
  | succ k ih =>
    rw [sortI_succ, List.length_append, ih]
    unfold withI
    rw [← List.countP_eq_length_filter]
    refine (countP_split l _ _ _ ?_ ?_).symm
    · intro x; rw [← Bool.decide_or, decide_eq_decide]; omega
    · intro x hx; simp only [decide_eq_true_eq] at hx; simp only [decide_eq_false_iff_not]; omega
theorem sortI_len (l : List Int) (s k : Nat) : (sortI l s k).length ≤ l.length := by
  rw [sortI_count]; exact List.countP_le_length
theorem sortI_all (l : List Int) (s k : Nat) (h : ∀ x ∈ l, 0 ≤ x ∧ x < 2 ^ (s + k)) : (sortI l s (2 ^ k)).length = l.length := by
  rw [sortI_count, List.countP_eq_length]
  intro x hx
  obtain ⟨h1, h2⟩ := h x hx
  have hp : (0 : Int) < 2 ^ s := Int.pow_pos (by decide)
  have e : ((2 ^ k : Nat) : Int) = 2 ^ k := by simp
  rw [decide_eq_true_eq, e]
  refine ⟨Int.ediv_nonneg h1 (by omega), Int.ediv_lt_of_lt_mul hp ?_⟩
  rw [← Int.pow_add, Nat.add_comm]; exact h2
theorem curI_len (l : List Int) (W k : Nat) (hk : k ≤ W) (h : ∀ x ∈ l, 0 ≤ x ∧ x < 2 ^ W) : (curI l W k).length = l.length := by
  unfold curI
  split
  · rfl
  · exact sortI_all l (W - k) k (by rw [show W - k + k = W by omega]; exact h)

/-- Rows of bits of length n in a list of its own at v. -/
structure RowsO (w : World) (n : Nat) (v : Value) (bs : List (List Bool)) (u : World) : Prop where
  own : ∃ ss : List Value, u.ownsRow w.heap.size 99 1 v bs.length ss ∧ ∀ j, j < bs.length → ∃ a cap, ss.getD j (.bool false) = .slice a n cap ∧ SliceOf u a n cap (bs.getD j []) ∧ ∀ b o, a = some ⟨b, o, none⟩ → v.ownBlock ≠ some b ∧ b < u.heap.size
  bel : Below w.heap.size w u

theorem RowsO.kept {w u u' : World} {n : Nat} {v : Value} {bs : List (List Bool)} (h : RowsO w n v bs u) (hb : Below u.heap.size u u') : RowsO w n v bs u' := by
  obtain ⟨⟨ss, h1, h2⟩, h3⟩ := h
  refine ⟨⟨ss, own_kept h1 hb, fun j hj => ?_⟩, h3.trans (hb.mono h3.size)⟩
  obtain ⟨a, cap, e1, e2, e3⟩ := h2 j hj
  exact ⟨a, cap, e1, e2.kept hb, fun b o e => ⟨(e3 b o e).1, Nat.lt_of_lt_of_le (e3 b o e).2 hb.size⟩⟩

theorem RowsO.nil (w : World) (n : Nat) : RowsO w n (.slice none 0 0) [] w := ⟨⟨[], World.ownsRow_nil _ _ _ _, fun j hj => absurd hj (by simp)⟩, Below.refl _ _⟩

theorem bools_kp {X : Nat → Prop} {w w' : World} {a : Option Addr} {l : List Bool} (h : BoolsAt w a l) (hb : Kp X w w') (hx : ∀ b o, a = some ⟨b, o, none⟩ → ¬ X b) : BoolsAt w' a l := by
  rcases h with h | ⟨b, off, h1, h2, h3⟩
  · exact .inl h
  · refine .inr ⟨b, off, h1, Nat.lt_of_lt_of_le h2 hb.size, fun j hj => ?_⟩
    rw [hb.cell (p := ⟨b, off + j, none⟩) h2 (hx b off h1)]; exact h3 j hj

/-- A row more, behind those that are there. -/
theorem RowsO.app {w u u' : World} {n : Nat} {v v' : Value} {bs : List (List Bool)} {ss : List Value} (h1 : u.ownsRow w.heap.size 99 1 v bs.length ss)
    (h2 : ∀ j, j < bs.length → ∃ a cap, ss.getD j (.bool false) = .slice a n cap ∧ SliceOf u a n cap (bs.getD j []) ∧ ∀ b o, a = some ⟨b, o, none⟩ → v.ownBlock ≠ some b ∧ b < u.heap.size)
    (h3 : Below w.heap.size w u) (o : Obj) {a : Option Addr} {cap : Nat} {l : List Bool} (hs : SliceOf u a n cap l)
    (hne : ∀ b o, a = some ⟨b, o, none⟩ → v.ownBlock ≠ some b ∧ b < u.heap.size)
    (hown : u'.ownsRow w.heap.size 99 1 v' (bs.length + 1) (ss ++ [.slice a n cap])) (hg : (u.alloc o).grownBy u' v.ownBlock) (hat : v'.ownBlock = v.ownBlock ∨ v'.ownBlock = some (u.heap.size + 1)) : RowsO w n v' (bs ++ [l]) u' := by
  have hk : Kp (fun k => v.ownBlock = some k) u u' := ((Kp.refl _ u).alloc o).grown hg (fun k hk _ => hk)
  have hl : ss.length = bs.length := by have := h1.1; omega
  have hfar : ∀ (a : Option Addr) (cap : Nat) (l : List Bool), SliceOf u a n cap l → (∀ b o, a = some ⟨b, o, none⟩ → v.ownBlock ≠ some b ∧ b < u.heap.size) →
      SliceOf u' a n cap l ∧ ∀ b o, a = some ⟨b, o, none⟩ → v'.ownBlock ≠ some b ∧ b < u'.heap.size := by
    intro a cap l hs hn
    refine ⟨⟨hs.1, hs.2.1, hs.2.2.1, bools_kp hs.2.2.2.1 hk (fun b o e => (hn b o e).1), hs.2.2.2.2⟩, fun b o e => ⟨?_, Nat.lt_of_lt_of_le (hn b o e).2 hk.size⟩⟩
    rcases hat with e2 | e2
    · rw [e2]; exact (hn b o e).1
    · rw [e2]; have := (hn b o e).2; simp; omega
  refine ⟨⟨ss ++ [.slice a n cap], by rw [List.length_append]; exact hown, fun j hj => ?_⟩, h3.trans (hk.toBelow h3.size (fun k hk e => by have := (h1.lt k e).1; omega))⟩
  rw [List.length_append] at hj
  by_cases hlt : j < bs.length
  · obtain ⟨a', cap', e1, e2, e3⟩ := h2 j hlt
    have := hfar a' cap' _ e2 e3
    refine ⟨a', cap', ?_, ?_, this.2⟩
    · rw [← e1]; simp [List.getD_eq_getElem?_getD, List.getElem?_append_left (show j < ss.length by omega)]
    · have e : (bs ++ [l]).getD j [] = bs.getD j [] := by simp [List.getD_eq_getElem?_getD, List.getElem?_append_left hlt]
      rw [e]; exact this.1
  · have hj2 : j = bs.length := by simp at hj; omega
    have := hfar a cap l hs hne
    refine ⟨a, cap, ?_, ?_, this.2⟩
    · rw [hj2, ← hl]; simp [List.getD_eq_getElem?_getD]
    · have e : (bs ++ [l]).getD j [] = l := by rw [hj2]; simp [List.getD_eq_getElem?_getD]
      rw [e]; exact this.1

/-- Bits in a list of the call's own. -/
def OwnB (w : World) (v : Value) (p : List Bool) (u : World) : Prop := u.ownsRow w.heap.size 4 1 v p.length (p.map Value.bool) ∧ Below w.heap.size w u
theorem OwnB.kept {w u u' : World} {v : Value} {p : List Bool} (h : OwnB w v p u) (hb : Below u.heap.size u u') : OwnB w v p u' := ⟨own_kept h.1 hb, h.2.trans (hb.mono h.2.size)⟩
theorem OwnB.app {w u u' : World} {v v' : Value} {l l' : List Bool} (h : OwnB w v l u) (hown : u'.ownsRow w.heap.size 4 1 v' l'.length (l'.map Value.bool)) (hg : u.grownBy u' v.ownBlock) : OwnB w v' l' u' := by
  have hk : Kp (fun k => v.ownBlock = some k) u u' := (Kp.refl _ u).grown hg (fun k hk _ => hk)
  exact ⟨hown, h.2.trans (hk.toBelow h.2.size (fun k hk e => by have := (h.1.lt k e).1; omega))⟩
theorem OwnB.alloc {w u : World} {v : Value} {l : List Bool} (h : OwnB w v l u) (o : Obj) : OwnB w v l (u.alloc o) := h.kept ((Below.refl _ _).alloc (Nat.le_refl _) _)

theorem slice_oneB (w : World) (y : Bool) : SliceOf (w.alloc (.cells #[.bool y] 4)) (some ⟨w.heap.size, 0, none⟩) 1 1 [y] :=
  ⟨rfl, Nat.le_refl _, by unfold maxLen; omega, .inr ⟨w.heap.size, 0, rfl, by simp, fun j hj => by
    obtain rfl : j = 0 := by simpa using hj
    simp⟩, fun e => by cases e⟩

end Go.Proofs.YtpnjccomngdblaaGreat
