/- Plain facts on putting rows in order in place: a row is a function of its places; 'Same': those of one key stand in one order. No program is named here. -/
import Derived.Test.YtdidoecigkbffaaGreatRows
namespace Go.Proofs.YtdidoecigkbffaaGreat.S

variable {α : Type} {κ : α → Int} {f g : Nat → α} {a b m n i j : Nat}

def seg (f : Nat → α) (a b : Nat) : List α := (List.range' a (b - a)).map f

theorem seg_length (f : Nat → α) (a b : Nat) : (seg f a b).length = b - a := by simp [seg]
theorem seg_nil (f : Nat → α) (a : Nat) : seg f a a = [] := by simp [seg]
theorem seg_add (f : Nat → α) (h1 : a ≤ m) (h2 : m ≤ b) : seg f a b = seg f a m ++ seg f m b := by
  unfold seg
  rw [← List.map_append]
  congr 1
  have e : b - a = (m - a) + (b - m) := by omega
  rw [e, ← List.range'_append_1]
  congr 2
  omega
theorem seg_one (f : Nat → α) (a : Nat) : seg f a (a + 1) = [f a] := by simp [seg]
theorem seg_get (f : Nat → α) (a b k : Nat) : (seg f a b)[k]? = if k < b - a then some (f (a + k)) else none := by
  unfold seg
  rw [List.getElem?_map]
  by_cases h : k < b - a
  · rw [List.getElem?_range' h, if_pos h]; simp
  · rw [List.getElem?_eq_none (by simp; omega), if_neg h]; rfl
theorem seg_shift (f g : Nat → α) (a b c d : Nat) (hl : b - a = d - c) (h : ∀ i, i < b - a → f (a + i) = g (c + i)) : seg f a b = seg g c d := by
  apply List.ext_getElem?
  intro k
  rw [seg_get, seg_get, ← hl]
  split
  · rename_i hk; rw [h k hk]
  · rfl
theorem seg_congr (f g : Nat → α) (a b : Nat) (h : ∀ i, a ≤ i → i < b → f i = g i) : seg f a b = seg g a b :=
  seg_shift f g a b a b rfl fun i hi => h _ (by omega) (by omega)
theorem mem_seg {x : α} : x ∈ seg f a b ↔ ∃ i, a ≤ i ∧ i < b ∧ f i = x := by
  unfold seg
  rw [List.mem_map]
  constructor
  · rintro ⟨i, hi, rfl⟩
    rw [List.mem_range'_1] at hi
    exact ⟨i, hi.1, by omega, rfl⟩
  · rintro ⟨i, h1, h2, rfl⟩
    exact ⟨i, by rw [List.mem_range'_1]; omega, rfl⟩

/-- Those of one key stand in one order in both. -/
def Same (κ : α → Int) (xs ys : List α) : Prop := ∀ k, xs.filter (fun x => decide (κ x = k)) = ys.filter (fun x => decide (κ x = k))
theorem Same.refl (κ : α → Int) (xs : List α) : Same κ xs xs := fun _ => rfl
theorem Same.trans {xs ys zs : List α} (h : Same κ xs ys) (k : Same κ ys zs) : Same κ xs zs := fun i => (h i).trans (k i)
theorem Same.symm {xs ys : List α} (h : Same κ xs ys) : Same κ ys xs := fun i => (h i).symm
theorem Same.app {xs ys zs us : List α} (h : Same κ xs ys) (k : Same κ zs us) : Same κ (xs ++ zs) (ys ++ us) := fun i => by rw [List.filter_append, List.filter_append, h i, k i]
theorem Same.swap {xs ys : List α} (h : ∀ x ∈ xs, ∀ y ∈ ys, κ x ≠ κ y) : Same κ (xs ++ ys) (ys ++ xs) := by
  intro k
  rw [List.filter_append, List.filter_append]
  by_cases hx : ∃ x ∈ xs, κ x = k
  · obtain ⟨x, hx1, hx2⟩ := hx
    have : ys.filter (fun x => decide (κ x = k)) = [] := by
      rw [List.filter_eq_nil_iff]
      intro y hy
      have := h x hx1 y hy
      simp; omega
    rw [this]; simp
  · have : xs.filter (fun x => decide (κ x = k)) = [] := by
      rw [List.filter_eq_nil_iff]
      intro y hy
      simp only [decide_eq_true_eq]
      exact fun e => hx ⟨y, hy, e⟩
    rw [this]; simp
theorem Same.mem {xs ys : List α} (h : Same κ xs ys) {x : α} (hx : x ∈ xs) : x ∈ ys := by
  have : x ∈ xs.filter (fun y => decide (κ y = κ x)) := by simp [hx]
  rw [h (κ x)] at this
  exact (List.mem_filter.1 this).1
theorem Same.nil {ys : List α} (h : Same κ [] ys) : ys = [] := by
  cases ys with
  | nil => rfl
  | cons y ys => have := h.symm.mem (x := y) (by simp); simp at this

/-- From a up to b keys never fall. -/
def Up (κ : α → Int) (f : Nat → α) (a b : Nat) : Prop := ∀ i j, a ≤ i → i ≤ j → j < b → κ (f i) ≤ κ (f j)

def rot (f : Nat → α) (a m b : Nat) : Nat → α := fun k => if a ≤ k ∧ k < a + (b - m) then f (k + (m - a)) else if a + (b - m) ≤ k ∧ k < b then f (k - (b - m)) else f k
def swr (f : Nat → α) (a b n : Nat) : Nat → α := fun k => if a ≤ k ∧ k < a + n then f (k + (b - a)) else if b ≤ k ∧ k < b + n then f (k - (b - a)) else f k
def sw (f : Nat → α) (i j : Nat) : Nat → α := fun k => if k = i then f j else if k = j then f i else f k

theorem swr_zero (f : Nat → α) (a b : Nat) : swr f a b 0 = f := by
  funext k; simp only [swr]
  rw [if_neg (by omega), if_neg (by omega)]
theorem swr_succ (f : Nat → α) (a b n : Nat) (h : a + (n + 1) ≤ b) : swr f a b (n + 1) = sw (swr f a b n) (a + n) (b + n) := by
  funext k; simp only [swr, sw]
  repeat' split
  all_goals first
    | rfl
    | omega
    | (congr 1; omega)
theorem rot_end (f : Nat → α) (m i : Nat) (h : i ≤ m) : swr f (m - i) m i = rot f (m - i) m (m + i) := by
  funext k; simp only [swr, rot]
  repeat' split
  all_goals first
    | rfl
    | omega
    | (congr 1; omega)
theorem rot_gt (f : Nat → α) (m i j : Nat) (h : i ≤ m) (hj : 0 < j) (hij : j < i) : rot (swr f (m - i) m j) (m - (i - j)) m (m + j) = rot f (m - i) m (m + j) := by
  funext k; simp only [swr, rot]
  repeat' split
  all_goals first
    | rfl
    | omega
    | (congr 1; omega)
theorem rot_lt (f : Nat → α) (m i j : Nat) (h : i ≤ m) (hj : 0 < i) (hij : i < j) : rot (swr f (m - i) (m + j - i) i) (m - i) m (m + (j - i)) = rot f (m - i) m (m + j) := by
  funext k; simp only [swr, rot]
  repeat' split
  all_goals first
    | rfl
    | omega
    | (congr 1; omega)
theorem rot_self (f : Nat → α) (a b : Nat) (h : a ≤ b) : rot f a a b = f := by
  funext k; simp only [rot]
  repeat' split
  all_goals first
    | rfl
    | omega
    | (congr 1; omega)
theorem rot_down (f : Nat → α) (i j : Nat) (h : j + 1 ≤ i) : sw (rot f (j + 1) i (i + 1)) (j + 1) j = rot f j i (i + 1) := by
  funext k; simp only [sw, rot]
  repeat' split
  all_goals first
    | rfl
    | omega
    | (congr 1; omega)
theorem rot_up (f : Nat → α) (a k : Nat) (h : a ≤ k) : sw (rot f a (a + 1) (k + 1)) k (k + 1) = rot f a (a + 1) (k + 1 + 1) := by
  funext t; simp only [sw, rot]
  repeat' split
  all_goals first
    | rfl
    | omega
    | (congr 1; omega)
theorem rot_unit (f : Nat → α) (a b : Nat) (_h : a ≤ b) : rot f a b b = f := by
  funext k; simp only [rot]
  repeat' split
  all_goals first
    | rfl
    | omega
    | (congr 1; omega)

theorem rot_lo (f : Nat → α) (a m b k : Nat) (h1 : a ≤ k) (h2 : k < a + (b - m)) : rot f a m b k = f (k + (m - a)) := if_pos ⟨h1, h2⟩
theorem rot_hi (f : Nat → α) (a m b k : Nat) (h1 : a + (b - m) ≤ k) (h2 : k < b) : rot f a m b k = f (k - (b - m)) := by
  unfold rot; rw [if_neg (by omega), if_pos ⟨h1, h2⟩]
theorem rot_out (f : Nat → α) (a m b k : Nat) (h : k < a ∨ b ≤ k) (ha : a ≤ m) (hb : m ≤ b) : rot f a m b k = f k := by
  unfold rot; rw [if_neg (by omega), if_neg (by omega)]

theorem rot_same (f : Nat → α) (a m b n : Nat) (ha : a ≤ m) (hb : m ≤ b) (hn : b ≤ n) (h : ∀ x y, a ≤ x → x < m → m ≤ y → y < b → κ (f x) ≠ κ (f y)) : Same κ (seg f 0 n) (seg (rot f a m b) 0 n) := by
  have e1 : seg f 0 n = seg f 0 a ++ ((seg f a m ++ seg f m b) ++ seg f b n) := by
    rw [← seg_add f ha hb, ← seg_add f (by omega) hn, ← seg_add f (Nat.zero_le _) (by omega)]
  have e2 : seg (rot f a m b) 0 n = seg f 0 a ++ ((seg f m b ++ seg f a m) ++ seg f b n) := by
    have c := a + (b - m)
    rw [seg_add (rot f a m b) (Nat.zero_le a) (show a ≤ n by omega), seg_add (rot f a m b) (show a ≤ b by omega) hn, seg_add (rot f a m b) (show a ≤ a + (b - m) by omega) (show a + (b - m) ≤ b by omega)]
    congr 1
    · exact seg_congr _ _ _ _ fun i _ h2 => rot_out f a m b i (.inl h2) ha hb
    · congr 1
      · congr 1
        · exact seg_shift _ _ _ _ _ _ (by omega) fun i hi => by rw [rot_lo _ _ _ _ _ (by omega) (by omega)]; congr 1; omega
        · exact seg_shift _ _ _ _ _ _ (by omega) fun i hi => by rw [rot_hi _ _ _ _ _ (by omega) (by omega)]; congr 1; omega
      · exact seg_congr _ _ _ _ fun i h1 _ => rot_out f a m b i (.inr h1) ha hb
  rw [e1, e2]
  refine (Same.refl _ _).app (Same.app (Same.swap ?_) (Same.refl _ _))
  intro x hx y hy
  obtain ⟨i, i1, i2, rfl⟩ := mem_seg.1 hx
  obtain ⟨j, j1, j2, rfl⟩ := mem_seg.1 hy
  exact h i j i1 i2 j1 j2

/-- f' is f, with what stands from a up to b put in order. -/
structure Srt (κ : α → Int) (n : Nat) (f : Nat → α) (a b : Nat) (f' : Nat → α) : Prop where
  same : Same κ (seg f 0 n) (seg f' 0 n)
  up : Up κ f' a b
  out : ∀ k, k < a ∨ b ≤ k → f' k = f k

theorem Up.rot_ins (h : Up κ f a i) (ha : a ≤ j) (hji : j ≤ i) (h1 : ∀ k, j ≤ k → k < i → κ (f i) < κ (f k)) (h2 : ∀ k, a ≤ k → k < j → κ (f k) ≤ κ (f i)) : Up κ (rot f j i (i + 1)) a (i + 1) := by
  intro x y hx hxy hy
  have e : ∀ k, k < i + 1 → (k < j ∧ rot f j i (i + 1) k = f k) ∨ (k = j ∧ rot f j i (i + 1) k = f i) ∨ (j < k ∧ rot f j i (i + 1) k = f (k - 1)) := by
    intro k hk
    rcases Nat.lt_trichotomy k j with h | h | h
    · exact .inl ⟨h, rot_out _ _ _ _ _ (.inl h) hji (by omega)⟩
    · refine .inr (.inl ⟨h, ?_⟩)
      rw [rot_lo _ _ _ _ _ (by omega) (by omega)]; congr 1; omega
    · refine .inr (.inr ⟨h, ?_⟩)
      rw [rot_hi _ _ _ _ _ (by omega) (by omega)]; congr 1; omega
  rcases e x (by omega) with ⟨x1, x2⟩ | ⟨x1, x2⟩ | ⟨x1, x2⟩ <;> rcases e y (by omega) with ⟨y1, y2⟩ | ⟨y1, y2⟩ | ⟨y1, y2⟩ <;> rw [x2, y2]
  · exact h x y hx hxy (by omega)
  · exact h2 x hx x1
  · have := h2 x hx x1; have := h1 (y - 1) (by omega) (by omega); omega
  · omega
  · omega
  · have := h1 (y - 1) (by omega) (by omega); omega
  · omega
  · omega
  · exact h (x - 1) (y - 1) (by omega) (by omega) (by omega)

theorem Up.rot_del (h : Up κ f (a + 1) b) (hi : a < i) (hib : i ≤ b) (h1 : ∀ k, a < k → k < i → κ (f k) < κ (f a)) (h2 : ∀ k, i ≤ k → k < b → κ (f a) ≤ κ (f k)) : Up κ (rot f a (a + 1) i) a b := by
  intro x y hx hxy hy
  have e : ∀ k, a ≤ k → k < b → (k + 1 < i ∧ rot f a (a + 1) i k = f (k + 1)) ∨ (k + 1 = i ∧ rot f a (a + 1) i k = f a) ∨ (i ≤ k ∧ rot f a (a + 1) i k = f k) := by
    intro k hk hkb
    rcases Nat.lt_trichotomy (k + 1) i with h | h | h
    · refine .inl ⟨h, ?_⟩
      rw [rot_lo _ _ _ _ _ (by omega) (by omega)]; congr 1; omega
    · refine .inr (.inl ⟨h, ?_⟩)
      rw [rot_hi _ _ _ _ _ (by omega) (by omega)]; congr 1; omega
    · exact .inr (.inr ⟨by omega, rot_out _ _ _ _ _ (.inr (by omega)) (by omega) (by omega)⟩)
  rcases e x (by omega) (by omega) with ⟨x1, x2⟩ | ⟨x1, x2⟩ | ⟨x1, x2⟩ <;> rcases e y (by omega) (by omega) with ⟨y1, y2⟩ | ⟨y1, y2⟩ | ⟨y1, y2⟩ <;> rw [x2, y2]
  · exact h (x + 1) (y + 1) (by omega) (by omega) (by omega)
  · have := h1 (x + 1) (by omega) (by omega); omega
  · exact h (x + 1) y (by omega) (by omega) (by omega)
  · omega
  · omega
  · exact h2 y (by omega) (by omega)
  · omega
  · omega
  · exact h x y (by omega) (by omega) (by omega)

/-- One step of an order by insertion. -/
theorem ins_srt (hu : Up κ f a i) (ha : a ≤ j) (hji : j ≤ i) (hin : i < n) (h1 : ∀ k, j ≤ k → k < i → κ (f i) < κ (f k)) (h2 : j = a ∨ κ (f (j - 1)) ≤ κ (f i)) : Srt κ n f a (i + 1) (rot f j i (i + 1)) := by
  refine ⟨rot_same f j i (i + 1) n hji (by omega) (by omega) ?_, hu.rot_ins ha hji h1 ?_, ?_⟩
  · intro x y x1 x2 y1 y2
    have := h1 x x1 x2
    have e : y = i := by omega
    subst e; omega
  · intro k hk hkj
    rcases h2 with h2 | h2
    · omega
    · have := hu k (j - 1) hk (by omega) (by omega); omega
  · intro k hk
    exact rot_out _ _ _ _ _ (by omega) hji (by omega)

theorem del_srt (hu : Up κ f (a + 1) b) (hi : a < i) (hib : i ≤ b) (hbn : b ≤ n) (h1 : ∀ k, a < k → k < i → κ (f k) < κ (f a)) (h2 : i = b ∨ κ (f a) ≤ κ (f i)) : Srt κ n f a b (rot f a (a + 1) i) := by
  refine ⟨rot_same f a (a + 1) i n (by omega) (by omega) (by omega) ?_, hu.rot_del hi hib h1 ?_, ?_⟩
  · intro x y x1 x2 y1 y2
    have e : x = a := by omega
    subst e
    have := h1 y (by omega) y2; omega
  · intro k hk hkb
    rcases h2 with h2 | h2
    · omega
    · have := hu i k (by omega) hk hkb; omega
  · intro k hk
    exact rot_out _ _ _ _ _ (by omega) (by omega) (by omega)

theorem Srt.trans {f' f'' : Nat → α} {a' b' : Nat} (h : Srt κ n f a b f') (k : Srt κ n f' a' b' f'') (ha : a' ≤ a) (hb : b ≤ b') : Srt κ n f a' b' f'' :=
  ⟨h.same.trans k.same, k.up, fun i hi => (k.out i hi).trans (h.out i (by omega))⟩
theorem Srt.refl (h : Up κ f a b) : Srt κ n f a b f := ⟨Same.refl _ _, h, fun _ _ => rfl⟩

/-- What stood between a and b stands there, if no more is turned. -/
theorem Srt.from {f' : Nat → α} (h : Srt κ n f a b f') (hab : a ≤ b) (hbn : b ≤ n) : ∀ k, a ≤ k → k < b → ∃ i, a ≤ i ∧ i < b ∧ f' k = f i := by
  have e1 : seg f 0 n = seg f 0 a ++ (seg f a b ++ seg f b n) := by rw [← seg_add f hab hbn, ← seg_add f (Nat.zero_le _) (by omega)]
  have e2 : seg f' 0 n = seg f 0 a ++ (seg f' a b ++ seg f b n) := by
    rw [seg_add f' (Nat.zero_le a) (show a ≤ n by omega), seg_add f' hab hbn, seg_congr f' f 0 a fun i _ h2 => h.out i (.inl h2), seg_congr f' f b n fun i h1 _ => h.out i (.inr h1)]
  have hs : Same κ (seg f a b) (seg f' a b) := by
    intro k
    have := h.same k
    rw [e1, e2] at this
    simp only [List.filter_append] at this
    exact List.append_cancel_right (List.append_cancel_left this)
  intro k hk hkb
  have := hs.symm.mem (mem_seg.2 ⟨k, hk, hkb, rfl⟩)
  obtain ⟨i, i1, i2, i3⟩ := mem_seg.1 this
  exact ⟨i, i1, i2, i3.symm⟩

/-- The two halves of a symmetric merge, put in order, are the whole. -/
theorem merge_srt {f1 f2 f3 : Nat → α} {mid st en : Nat} (hum : Up κ f a m) (hub : Up κ f m b) (_ham : a ≤ m) (_hmb : m ≤ b) (hbn : b ≤ n) (hst : a ≤ st) (hstm : st ≤ m) (hen : m ≤ en) (henb : en ≤ b) (hmid : mid = st + (en - m))
    (hL : ∀ x y, a ≤ x → x < st → en ≤ y → y < b → κ (f x) ≤ κ (f y)) (hR : ∀ x y, st ≤ x → x < m → m ≤ y → y < en → κ (f y) < κ (f x))
    (h1 : f1 = rot f st m en) (h2 : Srt κ n f1 a mid f2) (h3 : Srt κ n f2 mid b f3) : Srt κ n f a b f3 := by
  have s1 : Same κ (seg f 0 n) (seg f1 0 n) := by
    rw [h1]
    exact rot_same f st m en n hstm hen (by omega) fun x y x1 x2 y1 y2 => by have := hR x y x1 x2 y1 y2; omega
  have hout1 : ∀ k, k < a ∨ b ≤ k → f1 k = f k := fun k hk => by rw [h1]; exact rot_out _ _ _ _ _ (by omega) hstm hen
  refine ⟨s1.trans (h2.same.trans h3.same), ?_, fun k hk => by rw [h3.out k (by omega), h2.out k (by omega), hout1 k hk]⟩
  intro x y hx hxy hy
  by_cases hxm : mid ≤ x
  · exact h3.up x y hxm hxy hy
  by_cases hym : y < mid
  · rw [h3.out x (.inl (by omega)), h3.out y (.inl hym)]
    exact h2.up x y hx hxy hym
  rw [h3.out x (.inl (by omega))]
  obtain ⟨i, i1, i2, i3⟩ := h2.from (by omega) (by omega) x hx (by omega)
  obtain ⟨j, j1, j2, j3⟩ := h3.from (by omega) hbn y (by omega) hy
  rw [i3, j3, h2.out j (.inr j1), h1]
  have ei : (i < st ∧ rot f st m en i = f i) ∨ (st ≤ i ∧ rot f st m en i = f (i + (m - st))) := by
    by_cases h : i < st
    · exact .inl ⟨h, rot_out _ _ _ _ _ (.inl h) hstm hen⟩
    · exact .inr ⟨by omega, rot_lo _ _ _ _ _ (by omega) (by omega)⟩
  have ej : (j < en ∧ rot f st m en j = f (j - (en - m))) ∨ (en ≤ j ∧ rot f st m en j = f j) := by
    by_cases h : j < en
    · exact .inl ⟨h, rot_hi _ _ _ _ _ (by omega) h⟩
    · exact .inr ⟨by omega, rot_out _ _ _ _ _ (.inr (by omega)) hstm hen⟩
  rcases ei with ⟨e1, e2⟩ | ⟨e1, e2⟩ <;> rcases ej with ⟨e3, e4⟩ | ⟨e3, e4⟩ <;> rw [e2, e4]
  · exact hum _ _ i1 (by omega) (by omega)
  · exact hL i j i1 e1 e3 j2
  · have := hR (j - (en - m)) (i + (m - st)) (by omega) (by omega) (by omega) (by omega); omega
  · exact hub _ _ (by omega) (by omega) j2

theorem rot_up_lo {f : Nat → α} {st en mid : Nat} (hub : Up κ f m b) (hum : Up κ f a m) (_hst : a ≤ st) (hstm : st ≤ m) (hen : m ≤ en) (henb : en ≤ b) (hmid : mid = st + (en - m)) (h : st = a ∨ mid ≤ st) : Up κ (rot f st m en) a mid := by
  intro x y hx hxy hy
  rcases h with h | h
  · rw [rot_lo _ _ _ _ _ (by omega) (by omega), rot_lo _ _ _ _ _ (by omega) (by omega)]
    exact hub _ _ (by omega) (by omega) (by omega)
  · rw [rot_out _ _ _ _ _ (.inl (by omega)) hstm hen, rot_out _ _ _ _ _ (.inl (by omega)) hstm hen]
    exact hum _ _ hx hxy (by omega)

theorem rot_up_hi {f : Nat → α} {st en mid : Nat} (hub : Up κ f m b) (hum : Up κ f a m) (hst : a ≤ st) (hstm : st ≤ m) (hen : m ≤ en) (_henb : en ≤ b) (hmid : mid = st + (en - m)) (h : en = b ∨ en ≤ mid) : Up κ (rot f st m en) mid b := by
  intro x y hx hxy hy
  rcases h with h | h
  · rw [rot_hi _ _ _ _ _ (by omega) (by omega), rot_hi _ _ _ _ _ (by omega) (by omega)]
    exact hum _ _ (by omega) (by omega) (by omega)
  · rw [rot_out _ _ _ _ _ (.inr (by omega)) hstm hen, rot_out _ _ _ _ _ (.inr (by omega)) hstm hen]
    exact hub _ _ (by omega) hxy (by omega)

theorem rot_none {f : Nat → α} {st en : Nat} (hstm : st ≤ m) (hen : m ≤ en) (h : ¬ (st < m ∧ m < en)) : rot f st m en = f := by
  by_cases h1 : st = m
  · subst h1; exact rot_self _ _ _ hen
  · have e : en = m := by omega
    subst e; exact rot_unit _ _ _ hstm

end Go.Proofs.YtdidoecigkbffaaGreat.S
