/- What ShapedTells needs of the document: its heaps in memory and its Depths. -/
import Derived.Test.YtdidoecigkbffaaGreatCC
import Derived.Test.YtdidoecigkbffaaGreatTG
import Derived.BigQuiet
import Derived.Deep.QuietTactic

section
/- The document's heaps in memory; the contract of without. -/
set_option maxRecDepth 100000
namespace Go.Proofs.YtdidoecigkbffaaGreat
open Go.RowKit
open S J
attribute [local go_sem ↓] Go.wp_at_zero Go.wp_at_succ

/-- A heap of the document: its weight, its number, its symbols (a slice). -/
structure Hd where
  w : Int
  k : Int
  a : Option Addr
  n : Nat
  c : Nat
deriving Inhabited

def hcd (x : Hd) : List Value := [.int .i64 x.w, .int .i64 x.k, .slice x.a x.n x.c]

theorem info69 : (Tryz.prog.info? 69).map (fun i => (i.zero, i.size, i.bytes)) = some (some (.agg #[.int .i64 0, .int .i64 0, .slice none 0 0]), 3, 40) := by kernel_rfl

/-- Heaps that are read. -/
def DRow (u : World) (g : Nat) (L : List Hd) : Prop := ∀ i, i < L.length → u.cell? ⟨g, i * 3, none⟩ = some (.int .i64 (L.getD i default).w) ∧ u.cell? ⟨g, i * 3 + 1, none⟩ = some (.int .i64 (L.getD i default).k) ∧
  u.cell? ⟨g, i * 3 + 2, none⟩ = some (.slice (L.getD i default).a (L.getD i default).n (L.getD i default).c)

theorem DRow.kept {u u' : World} {g : Nat} {L : List Hd} (h : DRow u g L) (hb : Below u.heap.size u u') : DRow u' g L := by
  intro i hi
  obtain ⟨a, b, c⟩ := h i hi
  have hl := World.block_lt_of_cell? u _ a
  exact ⟨by rw [hb.cell (p := ⟨g, i * 3, none⟩) hl]; exact a, by rw [hb.cell (p := ⟨g, i * 3 + 1, none⟩) hl]; exact b, by rw [hb.cell (p := ⟨g, i * 3 + 2, none⟩) hl]; exact c⟩

/-- The first i without the k-th. -/
def outL (L : List Hd) (k i : Nat) : List Hd := (L.take i).eraseIdx k
theorem outL_succ (L : List Hd) (k i : Nat) (h : i < L.length) : outL L k (i + 1) = if i = k then outL L k i else outL L k i ++ [L.getD i default] := by
  unfold outL
  have e : L.getD i default = L[i] := by simp [List.getD_eq_getElem?_getD, h]
  rw [List.take_succ_eq_append_getElem h, e]
  by_cases c : i = k
  · have hlen : (L.take i).length = k := by rw [List.length_take]; omega
    have e1 : (L.take i).eraseIdx k = L.take i := List.eraseIdx_of_length_le (by omega)
    rw [if_pos c, List.eraseIdx_append_of_length_le (by omega), e1, hlen, Nat.sub_self]
    simp
  · rw [if_neg c]
    by_cases d : k < i
    · rw [List.eraseIdx_append_of_lt_length (by simp; omega)]
    · rw [List.eraseIdx_of_length_le (by simp; omega), List.eraseIdx_of_length_le (by simp; omega)]
theorem outL_len (L : List Hd) (k i : Nat) : (outL L k i).length ≤ i := by
  unfold outL
  exact Nat.le_trans (List.length_eraseIdx_le _ _) (by simp; omega)

set_option maxHeartbeats 2000000 in
theorem without_any (g cap k : Nat) (L : List Hd) (n : Nat) (w : World) (hL : DRow w g L) (hl : L.length = n) (hn : n ≤ 39) :
    Calls Tryz.prog 43 #[.slice (some ⟨g, 0, none⟩) n cap, .int .i64 (k : Int)] w fun e u => ∃ v, e = .returned v ∧ u.ownsRow w.heap.size 69 3 v (L.eraseIdx k).length ((L.eraseIdx k).flatMap hcd) ∧ Below w.heap.size w u := by
  have HX := Lib.hid (And.intro hL hl)
  clear hL hl
  go_enter Tryz.func43, Tryz.ntmps43
  go_wp2
  go_loopw [5, 6] (fun v5 v6 wr => ∃ i : Nat, i ≤ n ∧ v6 = .int .i64 (i : Int) ∧ wr.ownsRow w.heap.size 69 3 v5 (outL L k i).length ((outL L k i).flatMap hcd) ∧ Below w.heap.size w wr) (fun _ v6 _ => n - (intOf v6).toNat)
  case atStart => exact ⟨0, Nat.zero_le _, rfl, by simpa [outL] using World.ownsRow_nil w w.heap.size 69 3, Below.refl _ _⟩
  case round =>
    obtain ⟨i, hin, rfl, hown, hbel⟩ := hrel
    by_cases hlt : i < n
    · have hil : i < L.length := by have := HX.out.2; omega
      obtain ⟨c1, c2, c3⟩ := (HX.out.1.kept hbel) i hil
      have hs := outL_succ L k i hil
      have hle := outL_len L k i
      obtain ⟨x, hx⟩ : ∃ x, x = L.getD i default := ⟨_, rfl⟩
      rw [← hx] at c1 c2 c3 hs
      clear hx hil
      have q1 : (i : Int) < (n : Int) := by omega
      have q2 : (0 : Int) ≤ (i : Int) := by omega
      by_cases hk : i = k
      · rw [if_pos hk] at hs
        have q3 : (i : Int) = (k : Int) := by omega
        have HR := Lib.hid (And.intro hown (And.intro hbel hs))
        clear hown hbel hs c1 c2 c3 hle
        go_wp2
        go_roundw
        case rel => exact ⟨i + 1, by omega, by go_num, by rw [HR.out.2.2]; exact HR.out.1, HR.out.2.1⟩
        case measure => simp [intOf]; omega
      · rw [if_neg hk] at hs
        have q3 : ¬ (i : Int) = (k : Int) := by omega
        obtain ⟨i0, hi, hz0, hz1, hz2⟩ := info_parts info69
        have HS := Lib.hid (And.intro hs (And.intro hown (And.intro hbel hle)))
        clear hs hown hbel hle
        go_wp2_with (first
          | (at_builtin
             refine wpList_append_own_at _ rfl (.tmp 16) (.tmp 21) 67 rfl w.heap.size 69 i0 (.agg #[.int .i64 0, .int .i64 0, .slice none 0 0]) 3 40 Tryz.underlying67 hi hz0 hz1 hz2 rfl (by omega) _ (outL L k i).length ((outL L k i).flatMap hcd) rfl (HS.out.2.1.alloc (.cells #[.int .i64 x.w, .int .i64 x.k, .slice x.a x.n x.c] 69)) ⟨_, 0, none⟩ 1 1 [.int .i64 x.w, .int .i64 x.k, .slice x.a x.n x.c] rfl rfl ?c1 (by simp [Value.oneCell']) ?c2 ?c3 ?c4 ?_))
        case c1 => exact World.news_of_block (cs := #[.int .i64 x.w, .int .i64 x.k, .slice x.a x.n x.c]) (t := 69) (fr := (0, 0)) (heap_alloc_new wr _)
        case c2 => have := HS.out.2.2.2; unfold maxLen; omega
        case c3 => have := HS.out.2.2.2; omega
        case c4 => have := HS.out.2.2.1.size; simp; omega
        intro v9 w5 hown hgrow _ hat
        have hb5 : Below w.heap.size w w5 := (HS.out.2.2.1.alloc HS.out.2.2.1.size _).grown hgrow (by have := HS.out.2.2.1.size; simp; omega) (fun r hr => (HS.out.2.1.lt r hr).1)
        have hrow : w5.ownsRow w.heap.size 69 3 v9 (outL L k (i + 1)).length ((outL L k (i + 1)).flatMap hcd) := by
          rw [HS.out.1, List.length_append, List.flatMap_append]
          exact hown
        have HR := Lib.hid (And.intro hrow hb5)
        clear hown hgrow hat hb5 hrow hi hz0 hz1 hz2
        go_wp2
        go_roundw
        case rel => exact ⟨i + 1, by omega, by go_num, HR.out.1, HR.out.2⟩
        case measure => simp [intOf]; omega
    · obtain rfl : i = n := by omega
      have q1 : ¬ (i : Int) < (i : Int) := by omega
      have e : outL L k i = L.eraseIdx k := by
        unfold outL
        rw [List.take_of_length_le (by have := HX.out.2; omega)]
      rw [e] at hown
      have HR := Lib.hid (And.intro hown hbel)
      clear hown hbel e
      go_wp2
      go_ret
      exact ⟨_, rfl, HR.out.1, HR.out.2⟩

end Go.Proofs.YtdidoecigkbffaaGreat
end

section
/- What the document's Depths gives. -/
set_option maxRecDepth 100000
namespace Go.Proofs.YtdidoecigkbffaaGreat
open Go.RowKit
open S J

/-- A row of depths: -1, or 0, where none is. -/
structure DepR (n : Nat) (dep : Nat → Nat) (dv : List Int) : Prop where
  len : dv.length = n
  val : ∀ c, c < n → (dv.getD c 0).toNat = dep c ∧ -1 ≤ dv.getD c 0 ∧ dv.getD c 0 ≤ n

def DDepEnd (w : World) (n : Nat) (dep : Nat → Nat) (e : Ending) (u : World) : Prop :=
  ∃ (D : Nat) (dv : List Int), e = .returned (.slice (some ⟨D, 0, none⟩) n n) ∧ NumsAt .i64 u (some ⟨D, 0, none⟩) dv ∧ DepR n dep dv ∧ Below w.heap.size w u

theorem DepR.cell {n : Nat} {dep : Nat → Nat} {dv : List Int} (h : DepR n dep dv) {u : World} {D : Nat} (hu : NumsAt .i64 u (some ⟨D, 0, none⟩) dv) {c : Nat} (hc : c < n) : ∃ x : Int, u.cell? ⟨D, c, none⟩ = some (.int .i64 x) ∧ x.toNat = dep c ∧ -1 ≤ x ∧ x ≤ n := by
  obtain ⟨b, off, hA, -, hcb⟩ := num_at hu (i := c) (by rw [h.len]; exact hc)
  simp only [Option.some.injEq, Addr.mk.injEq, and_true] at hA
  obtain ⟨rfl, rfl⟩ := hA
  rw [Nat.zero_add] at hcb
  obtain ⟨h1, h2, h3⟩ := h.val c hc
  exact ⟨_, hcb, h1, h2, h3⟩


end Go.Proofs.YtdidoecigkbffaaGreat
end

section
/- Plain: the document's heaps, join by join: in whatever order they lie, the two lightest are what our two rows give. -/
set_option maxRecDepth 100000
namespace Go.Proofs.YtdidoecigkbffaaGreat
open S J

/-- The number of heap k. -/
def numN (L size : Nat) (sy : Nat → Nat) (k : Nat) : Nat := if k < L then sy k else size + (k - L)

/-- What symbols of lone heaps are: none twice, below size, rising among those that weigh the same. -/
structure Sym (W : List Int) (size : Nat) (sy : Nat → Nat) : Prop where
  inj : ∀ i j, i < W.length → j < W.length → sy i = sy j → i = j
  lt : ∀ i, i < W.length → sy i < size
  up : ∀ i j, i < j → j < W.length → W.getD i 0 = W.getD j 0 → sy i < sy j
  nn : ∀ k, k < W.length → 0 ≤ W.getD k 0 ∧ W.getD k 0 ≤ big
  rise : ∀ i j, i ≤ j → j < W.length → W.getD i 0 ≤ W.getD j 0

theorem getD_eraseIdx {α : Type} (l : List α) (p j : Nat) (d : α) : (l.eraseIdx p).getD j d = if j < p then l.getD j d else l.getD (j + 1) d := by
  simp only [List.getD_eq_getElem?_getD, List.getElem?_eraseIdx]
  split <;> rfl

theorem getD_snocA {α : Type} (l : List α) (x d : α) (i : Nat) : (l ++ [x]).getD i d = if i < l.length then l.getD i d else if i = l.length then x else d := by
  simp only [List.getD_eq_getElem?_getD]
  by_cases h : i < l.length
  · rw [if_pos h, List.getElem?_append_left h]
  · rw [if_neg h, List.getElem?_append_right (by omega)]
    by_cases e : i = l.length
    · rw [if_pos e, e, Nat.sub_self]; rfl
    · rw [if_neg e, List.getElem?_eq_none (by simp; omega)]; rfl

theorem erase_at {l : List Nat} (hn : l.Nodup) {p : Nat} (hp : p < l.length) : l.erase (l.getD p 0) = l.eraseIdx p := by
  have e : l.getD p 0 = l[p] := by simp [List.getD_eq_getElem?_getD, hp]
  rw [e]
  exact List.erase_eq_eraseIdx_of_idxOf (List.Nodup.idxOf_getElem hn p hp)

theorem runQ_wt (W : List Int) {k : Nat} (hk : k < W.length) : ∀ t, (runQ W t).wt k = W.getD k 0 ∧ W.length ≤ (runQ W t).W.length := by
  intro t
  induction t with
  | zero => exact ⟨rfl, Nat.le_refl _⟩
  | succ t ih =>
    have e : (runQ W (t + 1)).W = (runQ W t).W ++ [min ((((runQ W t).adv W.length).adv W.length).W.getD ((runQ W t).pk W.length) 0 + (((runQ W t).adv W.length).adv W.length).W.getD (((runQ W t).adv W.length).pk W.length) 0) big] := by
      show (((runQ W t).adv W.length).adv W.length).W ++ _ = _
      rw [adv_W, adv_W]
    refine ⟨?_, by rw [e]; simp; omega⟩
    rw [← ih.1]
    unfold Q.wt
    rw [e]
    simp only [List.getD_eq_getElem?_getD]
    rw [List.getElem?_append_left (by omega)]

theorem Sym.num {W : List Int} {size : Nat} {sy : Nat → Nat} (h : Sym W size sy) (t : Nat) : ∀ i j, i < j → j < W.length + t → (runQ W t).wt i = (runQ W t).wt j → numN W.length size sy i < numN W.length size sy j := by
  intro i j hij hj he
  unfold numN
  by_cases c : j < W.length
  · rw [if_pos (by omega), if_pos c]
    rw [(runQ_wt W (by omega) t).1, (runQ_wt W c t).1] at he
    exact h.up i j hij c he
  · rw [if_neg c]
    by_cases c' : i < W.length
    · rw [if_pos c']; have := h.lt i c'; omega
    · rw [if_neg c']; omega

/-- The document's heaps (X, their symbols S): those that lie there (ks). -/
structure DS (W : List Int) (sy : Nat → Nat) (size t : Nat) (s : Q) (X : List Hd) (ks : List Nat) (S : List (List Int)) : Prop where
  lies : Lies W.length t s ks
  lx : X.length = ks.length
  ls : S.length = ks.length
  wt : ∀ j, j < ks.length → (X.getD j default).w = s.wt (ks.getD j 0)
  nm : ∀ j, j < ks.length → (X.getD j default).k = (numN W.length size sy (ks.getD j 0) : Int)
  sm : ∀ j, j < ks.length → ∀ x : Int, x ∈ S.getD j [] ↔ ∃ i, i ∈ within W t (ks.getD j 0) ∧ (sy i : Int) = x
  nd : ∀ j, j < ks.length → (S.getD j []).Nodup

/-- No heap is ahead of that one. -/
def LeastH (X : List Hd) (p : Nat) : Prop := p < X.length ∧ ∀ j, j < X.length → (X.getD p default).w < (X.getD j default).w ∨ ((X.getD p default).w = (X.getD j default).w ∧ (X.getD p default).k ≤ (X.getD j default).k)

variable {W : List Int} {sy : Nat → Nat} {size t m : Nat} {s : Q} {X : List Hd} {ks : List Nat} {S : List (List Int)}

theorem DS.pick (h : DS W sy size t s X ks S) (hs : QS W.length t m s) (hq : QH W.length t m s) (h2 : 2 * t ≤ m) (hm : m < W.length + t) (ht : t ≤ m / 2)
    (hnum : ∀ i j, i < j → j < W.length + t → s.wt i = s.wt j → numN W.length size sy i < numN W.length size sy j) {p : Nat} (hp : LeastH X p) :
    ks.getD p 0 = s.pk W.length ∧ p < ks.length ∧ ks.eraseIdx p = ks.erase (s.pk W.length) ∧ DS W sy size t (s.adv W.length) (X.eraseIdx p) (ks.eraseIdx p) (S.eraseIdx p) := by
  have hpk : p < ks.length := by have := hp.1; have := h.lx; omega
  have e : ks.getD p 0 = s.pk W.length := by
    refine least_pick hs hq h2 hm _ hnum h.lies (getD_mem ks p hpk) fun y hy => ?_
    obtain ⟨j, hj, rfl⟩ := List.getElem_of_mem hy
    have hh := hp.2 j (by have := h.lx; omega)
    rw [h.wt p hpk, h.wt j hj, h.nm p hpk, h.nm j hj] at hh
    rw [show ks[j] = ks.getD j 0 by simp [List.getD_eq_getElem?_getD, hj]]
    omega
  have he : ks.eraseIdx p = ks.erase (s.pk W.length) := by rw [← e, erase_at h.lies.nd hpk]
  have hl := List.length_eraseIdx_of_lt hpk
  have hx := List.length_eraseIdx_of_lt hp.1
  have hS := List.length_eraseIdx_of_lt (show p < S.length by have := h.ls; omega)
  have h1 := h.lx; have h2' := h.ls
  refine ⟨e, hpk, he, by rw [he]; exact h.lies.adv hq hm ht, by omega, by omega, fun j hj => ?_, fun j hj => ?_, fun j hj => ?_, fun j hj => ?_⟩
  all_goals rw [hl] at hj
  · rw [getD_eraseIdx, getD_eraseIdx, adv_wt]; split
    · exact h.wt j (by omega)
    · exact h.wt (j + 1) (by omega)
  · rw [getD_eraseIdx, getD_eraseIdx]; split
    · exact h.nm j (by omega)
    · exact h.nm (j + 1) (by omega)
  · rw [getD_eraseIdx, getD_eraseIdx]; split
    · exact h.sm j (by omega)
    · exact h.sm (j + 1) (by omega)
  · rw [getD_eraseIdx]; split
    · exact h.nd j (by omega)
    · exact h.nd (j + 1) (by omega)

/-- A join. -/
theorem DS.stp (hy : Sym W size sy) (h : DS W sy size t (runQ W t) X ks S) (ht : t + 1 < W.length) {p p' : Nat} (hp : LeastH X p) (hp' : LeastH (X.eraseIdx p) p') (A : Option Addr) (n c : Nat) :
    (∃ ks', DS W sy size (t + 1) (runQ W (t + 1)) ((X.eraseIdx p).eraseIdx p' ++ [⟨min ((X.getD p default).w + ((X.eraseIdx p).getD p' default).w) big, ((size + t : Nat) : Int), A, n, c⟩]) ks' ((S.eraseIdx p).eraseIdx p' ++ [S.getD p [] ++ (S.eraseIdx p).getD p' []])) ∧
    (∀ x : Int, x ∈ S.getD p [] ++ (S.eraseIdx p).getD p' [] ↔ ∃ i, i ∈ within W (t + 1) (W.length + t) ∧ (sy i : Int) = x) ∧ (S.getD p [] ++ (S.eraseIdx p).getD p' []).Nodup := by
  have hq := (runQ_ok W t (by omega)).1
  have hs := runQ_rise W hy.rise hy.nn t (by omega)
  obtain ⟨e1, l1, f1, d1⟩ := h.pick hs hq (by omega) (by omega) (by omega) (hy.num t) hp
  obtain ⟨q1, eq1⟩ := hq.adv (by omega) (by omega)
  have s1 := hs.adv hq (by omega) (by omega) (by omega)
  obtain ⟨e2, l2, f2, d2⟩ := d1.pick s1 q1 (by omega) (by omega) (by omega) (fun i j a b e => hy.num t i j a b (by rw [adv_wt, adv_wt] at e; exact e)) hp'
  have hst : (runQ W (t + 1)) = (runQ W t).stp W.length := rfl
  have hqW : (((runQ W t).adv W.length).adv W.length).W.length = W.length + t := by rw [adv_W, adv_W]; exact hq.len
  have hne : (runQ W t).pk W.length ≠ ((runQ W t).adv W.length).pk W.length := by
    intro e
    have := q1.pk_new
    rw [← e, eq1] at this
    exact this (by simp)
  have hla := hq.pk_lt (by omega)
  have hlb := q1.pk_lt (by omega)
  have hold : ∀ k, k < W.length + t → (runQ W (t + 1)).wt k = (runQ W t).wt k := by
    intro k hk
    show ((runQ W t).stp W.length).wt k = _
    unfold Q.wt Q.stp Q.join
    simp only [List.getD_eq_getElem?_getD]
    rw [List.getElem?_append_left (by omega), adv_W, adv_W]
  have hnew : (runQ W (t + 1)).wt (W.length + t) = min ((X.getD p default).w + ((X.eraseIdx p).getD p' default).w) big := by
    rw [h.wt p l1, d1.wt p' l2, e1, e2, adv_wt]
    show ((runQ W t).stp W.length).wt _ = _
    unfold Q.wt Q.stp Q.join
    simp only [List.getD_eq_getElem?_getD]
    rw [List.getElem?_append_right (by omega), show W.length + t - (((runQ W t).adv W.length).adv W.length).W.length = 0 by omega]
    simp only [List.getElem?_cons_zero, Option.getD_some]
    rw [adv_W, adv_W]
  have hmem : ∀ x : Int, x ∈ S.getD p [] ++ (S.eraseIdx p).getD p' [] ↔ ∃ i, i ∈ within W (t + 1) (W.length + t) ∧ (sy i : Int) = x := by
    intro x
    rw [List.mem_append, h.sm p l1, d1.sm p' l2, e1, e2]
    constructor
    · rintro (⟨i, hi, rfl⟩ | ⟨i, hi, rfl⟩)
      · exact ⟨i, (within_new W ht).2 (.inl hi), rfl⟩
      · exact ⟨i, (within_new W ht).2 (.inr hi), rfl⟩
    · rintro ⟨i, hi, rfl⟩
      rcases (within_new W ht).1 hi with hi | hi
      · exact .inl ⟨i, hi, rfl⟩
      · exact .inr ⟨i, hi, rfl⟩
  have hnd : (S.getD p [] ++ (S.eraseIdx p).getD p' []).Nodup := by
    rw [List.nodup_append]
    refine ⟨h.nd p l1, d1.nd p' l2, fun a ha b hb e => ?_⟩
    obtain ⟨i, hi, rfl⟩ := (h.sm p l1 a).1 ha
    obtain ⟨j, hj, rfl⟩ := (d1.sm p' l2 b).1 hb
    obtain ⟨a1, a2⟩ := within_mem.1 hi
    obtain ⟨b1, b2⟩ := within_mem.1 hj
    have := hy.inj i j a1 b1 (by omega)
    subst this
    rw [e1] at a2
    rw [e2] at b2
    exact hne (a2.symm.trans b2)
  have hks : ∀ j, j < ((ks.eraseIdx p).eraseIdx p').length → ((ks.eraseIdx p).eraseIdx p').getD j 0 < W.length + t ∧ ((ks.eraseIdx p).eraseIdx p').getD j 0 ≠ (runQ W t).pk W.length ∧ ((ks.eraseIdx p).eraseIdx p').getD j 0 ≠ ((runQ W t).adv W.length).pk W.length := by
    intro j hj
    have hm := getD_mem _ j hj
    obtain ⟨b1, b2⟩ := (d2.lies.mem _).1 hm
    obtain ⟨-, eq2⟩ := q1.adv (by omega) (by omega)
    rw [eq2, eq1] at b2
    simp only [List.mem_append, List.mem_singleton, not_or] at b2
    exact ⟨b1, b2.1.2, b2.2⟩
  refine ⟨⟨(ks.eraseIdx p).eraseIdx p' ++ [W.length + t], ?_, by simp only [List.length_append, List.length_singleton]; exact congrArg (· + 1) d2.lx, by simp only [List.length_append, List.length_singleton]; exact congrArg (· + 1) d2.ls, fun j hj => ?_, fun j hj => ?_, fun j hj => ?_, fun j hj => ?_⟩, hmem, hnd⟩
  · have := h.lies.stp hq (by omega)
    rw [← f1, ← f2] at this
    exact this
  · rw [getD_snocA, getD_snocA, d2.lx]
    rw [List.length_append, List.length_singleton] at hj
    by_cases c : j < ((ks.eraseIdx p).eraseIdx p').length
    · rw [if_pos c, if_pos c, hold _ (hks j c).1, d2.wt j c, adv_wt, adv_wt]
    · rw [if_neg c, if_neg c, if_pos (by omega), if_pos (by omega), hnew]
  · rw [getD_snocA, getD_snocA, d2.lx]
    rw [List.length_append, List.length_singleton] at hj
    by_cases c : j < ((ks.eraseIdx p).eraseIdx p').length
    · rw [if_pos c, if_pos c, d2.nm j c]
    · rw [if_neg c, if_neg c, if_pos (by omega), if_pos (by omega)]
      unfold numN
      rw [if_neg (by omega), Nat.add_sub_cancel_left]
  · rw [getD_snocA, getD_snocA, d2.ls]
    rw [List.length_append, List.length_singleton] at hj
    by_cases c : j < ((ks.eraseIdx p).eraseIdx p').length
    · rw [if_pos c, if_pos c, within_old W (hks j c).1 (hks j c).2.1 (hks j c).2.2]
      exact d2.sm j c
    · rw [if_neg c, if_neg c, if_pos (by omega), if_pos (by omega)]
      exact hmem
  · rw [getD_snocA, d2.ls]
    rw [List.length_append, List.length_singleton] at hj
    by_cases c : j < ((ks.eraseIdx p).eraseIdx p').length
    · rw [if_pos c]; exact d2.nd j c
    · rw [if_neg c, if_pos (by omega)]; exact hnd

/-- What stands in the row of depths behind t joins. -/
def OutO (W : List Int) (sy : Nat → Nat) (t : Nat) (o : Nat → Int) : Prop := (∀ i, i < W.length → o (sy i) = (dpt W i t : Int)) ∧ ∀ c, (∀ i, i < W.length → sy i ≠ c) → o c = -1

theorem OutO.stp (hy : Sym W size sy) {o : Nat → Int} (h : OutO W sy t o) (ht : t + 1 < W.length) {T : List Int} (hT : ∀ x : Int, x ∈ T ↔ ∃ i, i ∈ within W (t + 1) (W.length + t) ∧ (sy i : Int) = x) :
    OutO W sy (t + 1) (fun c => if (c : Int) ∈ T then o c + 1 else o c) := by
  refine ⟨fun i hi => ?_, fun c hc => ?_⟩
  · have hb : ((sy i : Nat) : Int) ∈ T ↔ i ∈ within W (t + 1) (W.length + t) := by
      rw [hT]
      constructor
      · rintro ⟨j, hj, e⟩
        have := hy.inj j i (within_mem.1 hj).1 hi (by omega)
        exact this ▸ hj
      · intro hh; exact ⟨i, hh, rfl⟩
    show (if ((sy i : Nat) : Int) ∈ T then o (sy i) + 1 else o (sy i)) = _
    rw [h.1 i hi, dpt_step W ht hi]
    by_cases c : i ∈ within W (t + 1) (W.length + t)
    · rw [if_pos (hb.2 c), if_pos c]; omega
    · rw [if_neg (fun x => c (hb.1 x)), if_neg c]; omega
  · show (if (c : Int) ∈ T then o c + 1 else o c) = -1
    rw [if_neg, h.2 c hc]
    intro hh
    obtain ⟨i, hi, e⟩ := (hT _).1 hh
    exact hc i (within_mem.1 hi).1 (by omega)

theorem dpt_le (W : List Int) (i : Nat) : ∀ t, dpt W i t ≤ t := by
  intro t
  induction t with
  | zero => exact Nat.le_refl _
  | succ t ih => rw [dpt]; split <;> omega

theorem OutO.le {o : Nat → Int} (h : OutO W sy t o) (c : Nat) : -1 ≤ o c ∧ o c ≤ t := by
  by_cases e : ∀ i, i < W.length → sy i ≠ c
  · rw [h.2 c e]; omega
  · obtain ⟨i, hi⟩ := Classical.not_forall.1 e
    obtain ⟨h1, h2⟩ := Classical.not_imp.1 hi
    have h3 : sy i = c := Classical.not_not.1 h2
    rw [← h3, h.1 i h1]
    have := dpt_le W i t
    omega

end Go.Proofs.YtdidoecigkbffaaGreat
end

section
/- The document's lightest heap. -/
set_option maxRecDepth 100000
namespace Go.Proofs.YtdidoecigkbffaaGreat
open Go.RowKit
open S J
attribute [local go_sem ↓] Go.wp_at_zero Go.wp_at_succ

/-- Of the first i none is ahead of the k-th. -/
def LeastI (L : List Hd) (k i : Nat) : Prop := ∀ j, j < i → (L.getD k default).w < (L.getD j default).w ∨ ((L.getD k default).w = (L.getD j default).w ∧ (L.getD k default).k ≤ (L.getD j default).k)

theorem LeastI.keep {L : List Hd} {k i : Nat} (h : LeastI L k i) (hc : ¬ ((L.getD i default).w < (L.getD k default).w ∨ ((L.getD i default).w = (L.getD k default).w ∧ (L.getD i default).k < (L.getD k default).k))) : LeastI L k (i + 1) := by
  intro j hj
  by_cases e : j = i
  · subst e; omega
  · exact h j (by omega)
theorem LeastI.turn {L : List Hd} {k i : Nat} (h : LeastI L k i) (hc : (L.getD i default).w < (L.getD k default).w ∨ ((L.getD i default).w = (L.getD k default).w ∧ (L.getD i default).k < (L.getD k default).k)) : LeastI L i (i + 1) := by
  intro j hj
  by_cases e : j = i
  · subst e; right; exact ⟨rfl, Int.le_refl _⟩
  · have := h j (by omega)
    omega

set_option maxHeartbeats 2000000 in
theorem lightest_any (g cap : Nat) (L : List Hd) (n : Nat) (w : World) (hL : DRow w g L) (hl : L.length = n) (hn1 : 1 ≤ n) (hn : n ≤ 39) :
    Calls Tryz.prog 42 #[.slice (some ⟨g, 0, none⟩) n cap] w fun e u => (∃ k : Nat, e = .returned (.int .i64 (k : Int)) ∧ k < n ∧ LeastI L k n) ∧ Below w.heap.size w u := by
  have HX := Lib.hid (And.intro hL hl)
  clear hL hl
  go_enter Tryz.func42, Tryz.ntmps42
  go_wp2
  go_loopw [3, 4] (fun v3 v4 wr => ∃ k i : Nat, v3 = .int .i64 (k : Int) ∧ v4 = .int .i64 (i : Int) ∧ k < i ∧ i ≤ n ∧ LeastI L k i ∧ Below w.heap.size w wr) (fun _ v4 _ => n - (intOf v4).toNat)
  case atStart =>
    refine ⟨0, 1, rfl, rfl, by omega, by omega, ?_, Below.refl _ _⟩
    intro j hj
    obtain rfl : j = 0 := by omega
    exact .inr ⟨rfl, Int.le_refl _⟩
  case round =>
    obtain ⟨k, i, rfl, rfl, hki, hin, hle, hbel⟩ := hrel
    by_cases hlt : i < n
    · obtain ⟨c1, c2, -⟩ := (HX.out.1.kept hbel) i (by have := HX.out.2; omega)
      obtain ⟨d1, d2, -⟩ := (HX.out.1.kept hbel) k (by have := HX.out.2; omega)
      have hk := hle.keep
      have ht := hle.turn
      generalize ew : (L.getD i default).w = xw at *
      generalize ek : (L.getD i default).k = xk at *
      generalize fw : (L.getD k default).w = yw at *
      generalize fk : (L.getD k default).k = yk at *
      clear ew ek fw fk
      have q1 : (i : Int) < (n : Int) := by omega
      have q2 : (0 : Int) ≤ (i : Int) := by omega
      have q3 : (k : Int) < (n : Int) := by omega
      have q4 : (0 : Int) ≤ (k : Int) := by omega
      have q5 : IntKind.i64.wrap ((i : Int) + 1) = ((i + 1 : Nat) : Int) := by rw [Int.natCast_add]; exact IntWalk.i64_in _ (by omega)
      by_cases ha : xw < yw
      · have h1 : decide (xw < yw) = true := by simpa using ha
        have HK := Lib.hid (And.intro (ht (.inl ha)) hbel)
        clear hk ht hle hbel
        go_wp2
        go_quiet (fail)
        all_goals
          go_wp2
          go_roundw
          case rel => exact ⟨i, i + 1, rfl, by go_num, by omega, by omega, HK.out.1, below_drewN HK.out.2 _⟩
          case measure => simp [intOf]; omega
      · have h1 : decide (xw < yw) = false := by simpa using ha
        by_cases hb : xw = yw
        · have h2 : (xw == yw) = true := by simpa using hb
          by_cases hc : xk < yk
          · have h3 : decide (xk < yk) = true := by simpa using hc
            have HK := Lib.hid (And.intro (ht (.inr ⟨hb, hc⟩)) hbel)
            have HA := Lib.hid (And.intro ha (And.intro hb hc))
            clear hk ht hle hbel ha hb hc
            go_wp2
            go_quiet (fail)
            all_goals
              go_wp2
              go_roundw
              case rel => exact ⟨i, i + 1, rfl, by go_num, by omega, by omega, HK.out.1, below_drewN HK.out.2 _⟩
              case measure => simp [intOf]; omega
          · have h3 : decide (xk < yk) = false := by simpa using hc
            have HK := Lib.hid (And.intro (hk (by omega)) hbel)
            clear hk ht hle hbel ha hb hc
            go_wp2
            go_quiet (fail)
            all_goals
              go_wp2
              go_roundw
              case rel => exact ⟨k, i + 1, rfl, by go_num, by omega, by omega, HK.out.1, below_drewN HK.out.2 _⟩
              case measure => simp [intOf]; omega
        · have h2 : (xw == yw) = false := by simpa using hb
          have HK := Lib.hid (And.intro (hk (by omega)) hbel)
          clear hk ht hle hbel ha hb
          go_wp2
          go_quiet (fail)
          all_goals
            go_wp2
            go_roundw
            case rel => exact ⟨k, i + 1, rfl, by go_num, by omega, by omega, HK.out.1, below_drewN HK.out.2 _⟩
            case measure => simp [intOf]; omega
    · obtain rfl : i = n := by omega
      have q1 : ¬ (i : Int) < (i : Int) := by omega
      have HK := Lib.hid (And.intro hle hbel)
      clear hle hbel
      go_wp2
      go_ret
      exact ⟨⟨k, rfl, hki, HK.out.1⟩, HK.out.2⟩

end Go.Proofs.YtdidoecigkbffaaGreat
end

section
/- The document's heaps in memory, each with its symbols; the depths beside them. -/
set_option maxRecDepth 100000
namespace Go.Proofs.YtdidoecigkbffaaGreat
open Go.RowKit
open S J

theorem own_neT {w : World} {b1 b2 e1 e2 z1 z2 n1 n2 : Nat} {v1 v2 : Value} {x1 x2 : List Value} (h1 : w.ownsRow b1 e1 z1 v1 n1 x1) (h2 : w.ownsRow b2 e2 z2 v2 n2 x2) (hne : e1 ≠ e2) {k : Nat} (hk : v1.ownBlock = some k) : v2.ownBlock ≠ some k := by
  intro hk2
  rcases h1.2 with ⟨rfl, -⟩ | ⟨g, cap, cur, rfl, -, hh, -⟩
  · simp [Value.ownBlock] at hk
  rcases h2.2 with ⟨rfl, -⟩ | ⟨g2, cap2, cur2, rfl, -, hh2, -⟩
  · simp [Value.ownBlock] at hk2
  simp only [Value.ownBlock, Option.some.injEq] at hk hk2
  subst hk hk2
  rw [hh] at hh2
  simp only [Option.some.injEq, Obj.cells.injEq] at hh2
  exact hne hh2.2.1

theorem hcd_at (l : List Hd) (i : Nat) (h : i < l.length) : (l.flatMap hcd)[i * 3]? = some (.int .i64 (l.getD i default).w) ∧ (l.flatMap hcd)[i * 3 + 1]? = some (.int .i64 (l.getD i default).k) ∧ (l.flatMap hcd)[i * 3 + 2]? = some (.slice (l.getD i default).a (l.getD i default).n (l.getD i default).c) := by
  induction l generalizing i with
  | nil => simp at h
  | cons x t ih =>
    match i with
    | 0 => simp [hcd, List.flatMap_cons]
    | i + 1 =>
      have := ih i (by simpa using h)
      have e : ∀ r, ((x :: t).flatMap hcd)[(i + 1) * 3 + r]? = (t.flatMap hcd)[i * 3 + r]? := by
        intro r
        rw [List.flatMap_cons, List.getElem?_append_right (by simp [hcd]; omega)]
        congr 1
        simp [hcd]; omega
      have e0 := e 0
      simp only [Nat.add_zero] at e0
      rw [e0, e 1, e 2]
      simpa using this

/-- A row of heaps of the call's own is read. -/
theorem own_drow {u : World} {b : Nat} {v : Value} {X : List Hd} (h : u.ownsRow b 69 3 v X.length (X.flatMap hcd)) (hp : 0 < X.length) : ∃ g cap, v = .slice (some ⟨g, 0, none⟩) X.length cap ∧ b ≤ g ∧ DRow u g X := by
  rcases h.2 with ⟨-, h0⟩ | ⟨g, cap, cur, rfl, hb, -, -⟩
  · omega
  · refine ⟨g, cap, rfl, hb, fun i hi => ?_⟩
    obtain ⟨a0, a1, a2⟩ := hcd_at X i hi
    have hlen := h.1
    refine ⟨?_, ?_, ?_⟩
    · rw [h.cellAt (i * 3) (by omega)]; exact a0
    · rw [h.cellAt (i * 3 + 1) (by omega)]; exact a1
    · rw [h.cellAt (i * 3 + 2) (by omega)]; exact a2

/-- The symbols of a heap. -/
def SyA (D : Nat) (u : World) (x : Hd) (T : List Int) : Prop := u.ownsRow (D + 1) 3 1 (.slice x.a x.n x.c) T.length (T.map (Value.int .i64)) ∧ x.n = T.length

theorem SyA.nums {D : Nat} {u : World} {x : Hd} {T : List Int} (h : SyA D u x T) : NumsAt .i64 u x.a T ∧ (x.a = none → x.n = 0 ∧ x.c = 0) := by
  obtain ⟨a, cap, e, h1, -, -, -, h2⟩ := nums_of_own h.1
  simp only [Value.slice.injEq] at e
  obtain ⟨e1, e2, e3⟩ := e
  subst e1 e3
  refine ⟨h1, fun hn => ?_⟩
  have := h2 hn
  rcases h.1.2 with ⟨e, e0⟩ | ⟨g, cap, cur, e, -⟩
  · simp only [Value.slice.injEq] at e
    exact ⟨e.2.1, this⟩
  · simp only [Value.slice.injEq] at e
    rw [e.1] at hn
    cases hn

/-- Depths at work. -/
structure DM (w : World) (D n : Nat) (o : Nat → Int) (v : Value) (X : List Hd) (S : List (List Int)) (u : World) : Prop where
  di : DI w D n o u
  row : u.ownsRow (D + 1) 69 3 v X.length (X.flatMap hcd)
  ls : S.length = X.length
  sy : ∀ j, j < X.length → SyA D u (X.getD j default) (S.getD j [])

variable {w u u' : World} {D n : Nat} {o : Nat → Int} {v v' : Value} {X : List Hd} {S : List (List Int)}

theorem DM.kept (h : DM w D n o v X S u) (hb : Below u.heap.size u u') : DM w D n o v X S u' :=
  ⟨h.di.kept hb, own_kept h.row hb, h.ls, fun j hj => ⟨own_kept (h.sy j hj).1 hb, (h.sy j hj).2⟩⟩

theorem DM.out (h : DM w D n o v X S u) {i : Nat} (hi : i < n) (x : Int) : DM w D n (fun k => if k = i then x else o k) v X S (u.setCell ⟨D, i, none⟩ (.int .i64 x)) :=
  ⟨h.di.set hi x, ownsRow_setCell_below h.row (Nat.lt_succ_self _) _, h.ls, fun j hj => ⟨ownsRow_setCell_below (h.sy j hj).1 (Nat.lt_succ_self _) _, (h.sy j hj).2⟩⟩

theorem DM.congr {o' : Nat → Int} (h : DM w D n o v X S u) (hd : ∀ i, i < n → o i = o' i) : DM w D n o' v X S u := { h with di := h.di.congr hd }

/-- One taken out. -/
theorem DM.less (h : DM w D n o v X S u) {p : Nat} (hp : p < X.length) (hrow : u'.ownsRow u.heap.size 69 3 v' (X.eraseIdx p).length ((X.eraseIdx p).flatMap hcd)) (hb : Below u.heap.size u u') :
    DM w D n o v' (X.eraseIdx p) (S.eraseIdx p) u' := by
  have hk := h.kept hb
  have hl := List.length_eraseIdx_of_lt hp
  have hs := List.length_eraseIdx_of_lt (show p < S.length by have := h.ls; omega)
  have hD := h.di.hi
  refine ⟨hk.di, own_mono hrow hD, by have := h.ls; omega, fun j hj => ?_⟩
  rw [hl] at hj
  rw [getD_eraseIdx, getD_eraseIdx]
  split
  · exact hk.sy j (by omega)
  · exact hk.sy (j + 1) (by omega)

/-- One put behind. -/
theorem DM.app (h : DM w D n o v X S u) {x : Hd} {T : List Int} (hx : SyA D u x T) (ob : Obj) (hown : u'.ownsRow (D + 1) 69 3 v' (X.length + 1) (X.flatMap hcd ++ hcd x)) (hg : (u.alloc ob).grownBy u' v.ownBlock) :
    DM w D n o v' (X ++ [x]) (S ++ [T]) u' := by
  have hk : Kp (fun k => v.ownBlock = some k) u u' := ((Kp.refl _ u).alloc ob).grown hg (fun k hk _ => hk)
  have hD : ∀ k, v.ownBlock = some k → D < k := fun k e => by have := (h.row.lt k e).1; omega
  have hne : ¬ v.ownBlock = some D := fun e => by have := hD D e; omega
  have hsy : ∀ {y : Hd} {R : List Int}, SyA D u y R → SyA D u' y R := fun hy => ⟨own_kp hy.1 hk (fun k e e2 => own_neT hy.1 h.row (by decide) e e2), hy.2⟩
  refine ⟨⟨fun i hi => ?_, fun i hi => ?_, h.di.lo, Nat.lt_of_lt_of_le h.di.hi hk.size, ?_⟩, ?_, by simp [h.ls], fun j hj => ?_⟩
  · rw [hk.cell (p := ⟨D, i, none⟩) h.di.hi hne]; exact h.di.cell i hi
  · rw [hk.frozen (p := ⟨D, i, none⟩) h.di.hi hne]; exact h.di.frz i hi
  · exact h.di.bel.trans (hk.toBelow h.di.bel.size (fun k hk' e => by have := hD k e; have := h.di.lo; omega))
  · rw [List.length_append, List.flatMap_append]
    simpa using hown
  · rw [getD_snocA, getD_snocA, h.ls]
    rw [List.length_append, List.length_singleton] at hj
    by_cases c : j < X.length
    · rw [if_pos c, if_pos c]; exact hsy (h.sy j c)
    · rw [if_neg c, if_neg c, if_pos (by omega), if_pos (by omega)]; exact hsy hx

/-- The lone heaps of the first i symbols. -/
structure LoneD (xs : List Int) (i : Nat) (X : List Hd) (S : List (List Int)) : Prop where
  len : X.length = (loneL xs i).length
  wt : ∀ j, j < X.length → (X.getD j default).w = ((loneL xs i).getD j default).w
  nm : ∀ j, j < X.length → (X.getD j default).k = ((loneL xs i).getD j default).s
  sy : ∀ j, j < X.length → S.getD j [] = [((loneL xs i).getD j default).s]

theorem LoneD.zero (xs : List Int) : LoneD xs 0 [] [] := ⟨rfl, fun j h => by simp at h, fun j h => by simp at h, fun j h => by simp at h⟩

theorem LoneD.step {xs : List Int} {i : Nat} (hl : LoneD xs i X S) (hs : S.length = X.length) (h : 0 < xs.getD i 0) (A : Option Addr) (c m : Nat) : LoneD xs (i + 1) (X ++ [⟨min (xs.getD i 0) big, (i : Int), A, m, c⟩]) (S ++ [[(i : Int)]]) := by
  have e := loneL_succ xs i
  rw [if_pos h] at e
  have hlen := hl.len
  refine ⟨by rw [e]; simp [hlen], fun j hj => ?_, fun j hj => ?_, fun j hj => ?_⟩
  all_goals
    rw [List.length_append, List.length_singleton] at hj
    rw [e, getD_snocA, getD_snocA, ← hlen]
    by_cases c1 : j < X.length
  · simp only [if_pos c1]; exact hl.wt j c1
  · have c2 : j = X.length := by omega
    simp only [if_neg c1, if_pos c2]
  · simp only [if_pos c1]; exact hl.nm j c1
  · have c2 : j = X.length := by omega
    simp only [if_neg c1, if_pos c2]
  · rw [hs]; simp only [if_pos c1]; exact hl.sy j c1
  · have c2 : j = X.length := by omega
    rw [hs]; simp only [if_neg c1, if_pos c2]
theorem LoneD.skip {xs : List Int} {i : Nat} (hl : LoneD xs i X S) (h : ¬ 0 < xs.getD i 0) : LoneD xs (i + 1) X S := by
  have e := loneL_succ xs i
  rw [if_neg h, List.append_nil] at e
  refine ⟨by rw [e]; exact hl.len, ?_, ?_, ?_⟩
  · rw [e]; exact hl.wt
  · rw [e]; exact hl.nm
  · rw [e]; exact hl.sy

end Go.Proofs.YtdidoecigkbffaaGreat
end

section
/- Plain: how the document's Depths begins and ends. -/
set_option maxRecDepth 100000
namespace Go.Proofs.YtdidoecigkbffaaGreat
open Go.RowKit
open S J

/-- The symbol of lone heap i, in the order of weights. -/
def syF (ys : List Hp) (i : Nat) : Nat := (ys.getD i default).s.toNat

variable {xs : List Int} {n : Nat} {ys : List Hp}

theorem wmap_at (ys : List Hp) {i : Nat} (hi : i < ys.length) : (ys.map Hp.w).getD i 0 = (ys.getD i default).w := by simp [List.getD_eq_getElem?_getD, hi]
theorem getD_memH {l : List Hp} {i : Nat} (hi : i < l.length) : l.getD i default ∈ l := by simp [List.getD_eq_getElem?_getD, hi]

theorem Ys.syF_s (h : Ys xs n ys) {i : Nat} (hi : i < ys.length) : ((syF ys i : Nat) : Int) = (ys.getD i default).s := by
  obtain ⟨c, e, -⟩ := h.sym (getD_memH hi)
  unfold syF
  rw [e]; rfl

theorem loneL_rise (xs : List Int) (n : Nat) : (loneL xs n).Pairwise (fun a b => a.s < b.s) := by
  unfold loneL
  rw [List.pairwise_map]
  exact (List.pairwise_lt_range.filter _).imp fun h => by simpa using h

theorem Ys.rise (h : Ys xs n ys) {i j : Nat} (hij : i < j) (hj : j < ys.length) (hw : (ys.getD i default).w = (ys.getD j default).w) : (ys.getD i default).s < (ys.getD j default).s := by
  have h1 : (ys.filter fun x => decide (x.w = (ys.getD i default).w)).Pairwise (fun a b => a.s < b.s) := by
    rw [← h.same]
    exact (loneL_rise xs n).filter _
  rw [List.pairwise_filter] at h1
  have h2 := List.pairwise_iff_getElem.1 h1 i j (by omega) hj hij
  have e1 : ys.getD i default = ys[i] := by simp [List.getD_eq_getElem?_getD, show i < ys.length by omega]
  have e2 : ys.getD j default = ys[j] := by simp [List.getD_eq_getElem?_getD, hj]
  rw [e1, e2] at hw
  rw [e1, e2]
  rw [e1] at h2
  exact h2 (by simp) (by simp [hw])

theorem Ys.symF (h : Ys xs n ys) : Sym (ys.map Hp.w) n (syF ys) := by
  have hl : (ys.map Hp.w).length = ys.length := List.length_map ..
  refine ⟨fun i j hi hj e => ?_, fun i hi => ?_, fun i j hij hj e => ?_, fun k hk => ?_, fun i j hij hj => ?_⟩
  · rw [hl] at hi hj
    have e1 : (ys.getD i default).s = (ys.getD j default).s := by rw [← h.syF_s hi, ← h.syF_s hj, e]
    simp only [List.getD_eq_getElem?_getD, List.getElem?_eq_getElem hi, List.getElem?_eq_getElem hj, Option.getD_some] at e1
    apply Decidable.byContradiction
    intro hne
    rcases Nat.lt_or_gt_of_ne hne with c | c
    · have hp := List.pairwise_iff_getElem.1 h.nodup i j (by rw [List.length_map]; exact hi) (by rw [List.length_map]; exact hj) c
      apply hp
      simp only [List.getElem_map]
      exact e1
    · have hp := List.pairwise_iff_getElem.1 h.nodup j i (by rw [List.length_map]; exact hj) (by rw [List.length_map]; exact hi) c
      apply hp
      simp only [List.getElem_map]
      exact e1.symm
  · rw [hl] at hi
    obtain ⟨c, e, hc, -⟩ := h.sym (getD_memH hi)
    have := h.syF_s hi
    omega
  · rw [hl] at hj
    rw [wmap_at ys (by omega), wmap_at ys hj] at e
    have := h.rise hij hj e
    have a := h.syF_s (show i < ys.length by omega)
    have b := h.syF_s hj
    omega
  · rw [hl] at hk
    rw [wmap_at ys hk]
    obtain ⟨c, -, -, h3, h4⟩ := h.sym (getD_memH hk)
    rw [h4]
    unfold big at *
    omega
  · rw [hl] at hj
    rw [wmap_at ys (by omega), wmap_at ys hj]
    rcases Nat.eq_or_lt_of_le hij with rfl | c
    · exact Int.le_refl _
    · have := List.pairwise_iff_getElem.1 h.pw i j (by omega) hj c
      simpa [List.getD_eq_getElem?_getD, hj, show i < ys.length by omega] using this

theorem LoneD.ds {X : List Hd} {S : List (List Int)} (h : Ys xs n ys) (hl : LoneD xs n X S) (hs : S.length = X.length) : ∃ ks, DS (ys.map Hp.w) (syF ys) n 0 (runQ (ys.map Hp.w) 0) X ks S := by
  have hlen : (ys.map Hp.w).length = ys.length := List.length_map ..
  have hk0 : ∀ x ∈ loneL xs n, (ys.map Hp.s).idxOf x.s < ys.length ∧ (ys.getD ((ys.map Hp.s).idxOf x.s) default).s = x.s ∧ (ys.getD ((ys.map Hp.s).idxOf x.s) default).w = x.w := by
    intro x hx
    have hm : x ∈ ys := h.perm.mem_iff.1 hx
    have hi : (ys.map Hp.s).idxOf x.s < (ys.map Hp.s).length := List.idxOf_lt_length_of_mem (List.mem_map.2 ⟨x, hm, rfl⟩)
    have e := List.getElem_idxOf hi
    rw [List.getElem_map] at e
    rw [List.length_map] at hi
    have e1 : ys.getD ((ys.map Hp.s).idxOf x.s) default = ys[(ys.map Hp.s).idxOf x.s] := by simp [List.getD_eq_getElem?_getD, hi]
    refine ⟨hi, by rw [e1]; exact e, ?_⟩
    obtain ⟨c, a1, -, -, a2⟩ := h.sym hm
    obtain ⟨c', b1, -, -, b2⟩ := h.sym (getD_memH hi)
    rw [e1] at b1 b2
    rw [e1, b2, a2]
    have : c = c' := by omega
    rw [this]
  obtain ⟨ks, hks⟩ : ∃ ks, ks = (loneL xs n).map fun x => (ys.map Hp.s).idxOf x.s := ⟨_, rfl⟩
  have hkl : ks.length = (loneL xs n).length := by rw [hks, List.length_map]
  have hka : ∀ j, j < ks.length → ks.getD j 0 = (ys.map Hp.s).idxOf ((loneL xs n).getD j default).s := by
    intro j hj
    rw [hks]
    simp [List.getD_eq_getElem?_getD, show j < (loneL xs n).length by omega]
  have hkb : ∀ j, j < ks.length → ks.getD j 0 < ys.length ∧ (ys.getD (ks.getD j 0) default).s = ((loneL xs n).getD j default).s ∧ (ys.getD (ks.getD j 0) default).w = ((loneL xs n).getD j default).w := by
    intro j hj
    rw [hka j hj]
    exact hk0 _ (getD_memH (by omega))
  refine ⟨ks, Lies.start _ (fun k => ?_) ?_, by rw [hl.len, hkl], by rw [hs, hl.len, hkl], fun j hj => ?_, fun j hj => ?_, fun j hj x => ?_, fun j hj => ?_⟩
  · rw [hks, List.mem_map, hlen]
    constructor
    · rintro ⟨x, hx, rfl⟩; exact (hk0 x hx).1
    · intro hk
      refine ⟨ys[k], h.perm.mem_iff.2 (List.getElem_mem hk), ?_⟩
      have := List.Nodup.idxOf_getElem h.nodup k (by rw [List.length_map]; exact hk)
      rw [List.getElem_map] at this
      exact this
  · rw [hks, List.Nodup, List.pairwise_map]
    refine List.Pairwise.imp_of_mem (fun {a b} ha hb hab e => ?_) (loneL_rise xs n)
    have h1 := (hk0 a ha).2.1
    have h2 := (hk0 b hb).2.1
    rw [e] at h1
    omega
  · rw [hl.wt j (by rw [hl.len]; omega), ← (hkb j hj).2.2, (runQ_wt _ (by rw [hlen]; exact (hkb j hj).1) 0).1, wmap_at ys (hkb j hj).1]
  · rw [hl.nm j (by rw [hl.len]; omega), ← (hkb j hj).2.1]
    unfold numN
    rw [hlen, if_pos (hkb j hj).1, h.syF_s (hkb j hj).1]
  · rw [hl.sy j (by rw [hl.len]; omega), List.mem_singleton]
    constructor
    · rintro rfl
      exact ⟨ks.getD j 0, within_mem.2 ⟨by rw [hlen]; exact (hkb j hj).1, rfl⟩, by rw [h.syF_s (hkb j hj).1, (hkb j hj).2.1]⟩
    · rintro ⟨i, hi, rfl⟩
      obtain ⟨a, b⟩ := within_mem.1 hi
      have b' : i = ks.getD j 0 := b
      rw [b', h.syF_s (hkb j hj).1, (hkb j hj).2.1]
  · rw [hl.sy j (by rw [hl.len]; omega)]
    simp

/-- Before the first join. -/
def startO (xs : List Int) (c : Nat) : Int := if 0 < xs.getD c 0 then 0 else -1

theorem Ys.out0 (h : Ys xs n ys) (hx : xs.length = n) : OutO (ys.map Hp.w) (syF ys) 0 (startO xs) := by
  have hlen : (ys.map Hp.w).length = ys.length := List.length_map ..
  refine ⟨fun i hi => ?_, fun c hc => ?_⟩
  · rw [hlen] at hi
    obtain ⟨c, e, -, h3, -⟩ := h.sym (getD_memH hi)
    have := h.syF_s hi
    have e2 : syF ys i = c := by omega
    unfold startO
    rw [e2, if_pos h3]; rfl
  · unfold startO
    rw [if_neg]
    intro hp
    have hcn : c < n := by
      apply Decidable.byContradiction
      intro hh
      simp [List.getD_eq_getElem?_getD, show ¬ c < xs.length by omega] at hp
    obtain ⟨k, hk, e, -⟩ := h.has hcn hp
    have := h.syF_s hk
    exact hc k (by rw [hlen]; exact hk) (by omega)

theorem Ys.out_end (h : Ys xs n ys) {t : Nat} {o : Nat → Int} (ho : OutO (ys.map Hp.w) (syF ys) t o) (ht : t = ys.length - 1) : DepR n (depF ys) ((List.range n).map o) := by
  have hlen : (ys.map Hp.w).length = ys.length := List.length_map ..
  have hln : ys.length ≤ n := by rw [← h.perm.length_eq]; exact loneL_length xs n
  refine ⟨by simp, fun c hc => ?_⟩
  have e : ((List.range n).map o).getD c 0 = o c := by simp [List.getD_eq_getElem?_getD, hc]
  have hb := ho.le c
  rw [e]
  refine ⟨?_, hb.1, by omega⟩
  by_cases hex : ∃ i, i < ys.length ∧ syF ys i = c
  · obtain ⟨i, hi, rfl⟩ := hex
    have hB := bel_ok (ys.map Hp.w) (by omega)
    have h1 := ho.1 i (by omega)
    have h2 := dpt_all hB (i := i) (by omega)
    rw [hlen, ← ht] at h2
    have h3 := h.dep_at hi (c := syF ys i) (by rw [h.syF_s hi])
    rw [h1, h2, h3]; rfl
  · rw [ho.2 c (fun i hi hh => hex ⟨i, by omega, hh⟩)]
    unfold depF
    rw [depN_out ys.length c (fun k hk hh => hex ⟨k, hk, by have := h.syF_s hk; omega⟩)]
    rfl

end Go.Proofs.YtdidoecigkbffaaGreat
end

section
/- The contract of the document's Depths. -/
set_option maxRecDepth 100000
namespace Go.Proofs.YtdidoecigkbffaaGreat
open Go.RowKit
open S J
attribute [local go_sem ↓] Go.wp_at_zero Go.wp_at_succ

/-- What stands in the row of depths behind i symbols. -/
def upO (xs : List Int) (i c : Nat) : Int := if c < i then startO xs c else 0

theorem upO_succ (xs : List Int) (i c : Nat) : upO xs (i + 1) c = if c = i then startO xs i else upO xs i c := by
  unfold upO
  by_cases e : c = i
  · subst e; rw [if_pos (by omega), if_pos rfl]
  · rw [if_neg e]
    by_cases h : c < i
    · rw [if_pos (by omega), if_pos h]
    · rw [if_neg (by omega), if_neg h]

/-- The depths while a new heap's symbols are gone over. -/
def goO (o : Nat → Int) (T : List Int) (j c : Nat) : Int := if (c : Int) ∈ T.take j then o c + 1 else o c

theorem goO_succ (o : Nat → Int) {T : List Int} (hT : T.Nodup) {j y : Nat} (hj : j < T.length) (hy : T.getD j 0 = (y : Int)) (c : Nat) : goO o T (j + 1) c = if c = y then goO o T j y + 1 else goO o T j c := by
  have e : T.getD j 0 = T[j] := by simp [List.getD_eq_getElem?_getD, hj]
  have e1 : T.take (j + 1) = T.take j ++ [T[j]] := List.take_succ_eq_append_getElem hj
  have hno : ∀ y : Int, y = T[j] → y ∉ T.take j := by
    rintro y rfl hm
    obtain ⟨i, hi, he⟩ := List.getElem_of_mem hm
    rw [List.getElem_take] at he
    rw [List.length_take] at hi
    have := (List.pairwise_iff_getElem.1 hT) i j (by omega) hj (by omega)
    exact this he
  unfold goO
  rw [e1]
  by_cases c1 : c = y
  · subst c1
    rw [if_pos rfl, if_pos (by rw [List.mem_append]; right; simp; omega), if_neg (hno _ (by omega))]
  · rw [if_neg c1]
    by_cases c2 : (c : Int) ∈ T.take j
    · rw [if_pos c2, if_pos (List.mem_append.2 (.inl c2))]
    · rw [if_neg c2, if_neg]
      rw [List.mem_append, List.mem_singleton]
      rintro (h | h)
      · exact c2 h
      · omega

/-- A heap put behind: the three cells of the new block are appended. -/
theorem hcd_one (x : Hd) : hcd x = [.int .i64 x.w, .int .i64 x.k, .slice x.a x.n x.c] := rfl

theorem own_len {u : World} {b e z : Nat} {v : Value} {n : Nat} {xs : List Value} (h : u.ownsRow b e z v n xs) : ∃ A cap, v = .slice A n cap := by
  rcases h.2 with ⟨e, e0⟩ | ⟨g, cap, cur, e, -⟩
  · exact ⟨none, 0, by rw [e, e0]⟩
  · exact ⟨_, cap, e⟩

/-- A row of one number, new. -/
theorem one_sym (D : Nat) (u : World) (hD : D < u.heap.size) (c : Int) : SyA D (u.alloc (.cells #[.int .i64 c] 3)) ⟨0, 0, some ⟨u.heap.size, 0, none⟩, 1, 1⟩ [c] := by
  refine ⟨⟨by simp, .inr ⟨u.heap.size, 1, #[.int .i64 c], rfl, hD, ?_, Nat.le_refl _, by unfold maxLen; omega, by simp, by simp⟩⟩, rfl⟩
  exact heap_alloc_new u _

theorem num_cell {k : IntKind} {w : World} {b off : Nat} {xs : List Int} (h : NumsAt k w (some ⟨b, off, none⟩) xs) {i : Nat} (hi : i < xs.length) : w.cell? ⟨b, off + i, none⟩ = some (.int k (xs.getD i 0)) := by
  obtain ⟨b', off', hA, -, hc⟩ := num_at h hi
  simp only [Option.some.injEq, Addr.mk.injEq, and_true] at hA
  obtain ⟨rfl, rfl⟩ := hA
  exact hc

/-- A heap in its box, and its symbols. -/
structure BX (D : Nat) (x : Hd) (T : List Int) (bx : Nat) (u : World) : Prop where
  c0 : u.cell? ⟨bx, 0, none⟩ = some (.int .i64 x.w)
  c2 : u.cell? ⟨bx, 2, none⟩ = some (.slice x.a x.n x.c)
  hi : bx < u.heap.size
  sy : SyA D u x T
theorem BX.kept {D bx : Nat} {x : Hd} {T : List Int} {u u' : World} (h : BX D x T bx u) (hb : Below u.heap.size u u') : BX D x T bx u' :=
  ⟨by rw [hb.cell (p := ⟨bx, 0, none⟩) h.hi]; exact h.c0, by rw [hb.cell (p := ⟨bx, 2, none⟩) h.hi]; exact h.c2, Nat.lt_of_lt_of_le h.hi hb.size, own_kept h.sy.1 hb, h.sy.2⟩

theorem SyA.kept_below {D : Nat} {x : Hd} {T : List Int} {u u' : World} (h : SyA D u x T) (hb : Below u.heap.size u u') : SyA D u' x T := ⟨own_kept h.1 hb, h.2⟩

/-- The new heap in its box, its symbols behind it. -/
structure BT (bh : Nat) (wt k : Int) (A : Option Addr) (n c : Nat) (T : List Int) (u : World) : Prop where
  c0 : u.cell? ⟨bh, 0, none⟩ = some (.int .i64 wt)
  c1 : u.cell? ⟨bh, 1, none⟩ = some (.int .i64 k)
  c2 : u.cell? ⟨bh, 2, none⟩ = some (.slice A n c)
  row : u.ownsRow (bh + 1) 3 1 (.slice A n c) T.length (T.map (Value.int .i64))
  len : n = T.length
  hi : bh < u.heap.size
theorem BT.out {bh : Nat} {wt k : Int} {A : Option Addr} {n c : Nat} {T : List Int} {u : World} (h : BT bh wt k A n c T u) {D i : Nat} (hD : D < bh) (v : Value) : BT bh wt k A n c T (u.setCell ⟨D, i, none⟩ v) :=
  ⟨by rw [World.cell?_setCell_other _ _ _ _ (ne_addr (Nat.ne_of_lt hD))]; exact h.c0, by rw [World.cell?_setCell_other _ _ _ _ (ne_addr (Nat.ne_of_lt hD))]; exact h.c1, by rw [World.cell?_setCell_other _ _ _ _ (ne_addr (Nat.ne_of_lt hD))]; exact h.c2, ownsRow_setCell_below (a := ⟨D, i, none⟩) h.row (by show D < bh + 1; omega) v, h.len, by simpa using h.hi⟩
theorem BT.nums {bh : Nat} {wt k : Int} {A : Option Addr} {n c : Nat} {T : List Int} {u : World} (h : BT bh wt k A n c T u) : NumsAt .i64 u A T := by
  obtain ⟨a, cap, e, h1, -⟩ := nums_of_own h.row
  simp only [Value.slice.injEq] at e
  obtain ⟨rfl, -, -⟩ := e
  exact h1

theorem nodup_len : ∀ {l1 l2 : List Int}, l1.Nodup → (∀ x ∈ l1, x ∈ l2) → l1.length ≤ l2.length := by
  intro l1
  induction l1 with
  | nil => intro l2 _ _; exact Nat.zero_le _
  | cons a t ih =>
    intro l2 hn hs
    rw [List.nodup_cons] at hn
    have ha : a ∈ l2 := hs a (by simp)
    have h1 := ih (l2 := l2.erase a) hn.2 (fun x hx => (List.mem_erase_of_ne (fun e : x = a => hn.1 (by rw [← e]; exact hx))).2 (hs x (by simp [hx])))
    have h2 := List.length_erase_of_mem ha
    have h3 := List.length_pos_of_mem ha
    simp only [List.length_cons]
    omega
theorem nodup_small {l : List Int} (hn : l.Nodup) {k : Nat} (h : ∀ x ∈ l, 0 ≤ x ∧ x < k) : l.length ≤ k := by
  have := nodup_len (l2 := (List.range k).map fun c : Nat => (c : Int)) hn (fun x hx => List.mem_map.2 ⟨x.toNat, List.mem_range.2 (by have := h x hx; omega), by have := h x hx; omega⟩)
  simpa using this

theorem DS.bound {W : List Int} {sy : Nat → Nat} {size t : Nat} {X : List Hd} {ks : List Nat} {S : List (List Int)} (h : DS W sy size t (runQ W t) X ks S) (hy : Sym W size sy) (ht : t + 1 ≤ W.length) {j : Nat} (hj : j < X.length) : 0 ≤ (X.getD j default).w ∧ (X.getD j default).w ≤ big := by
  have hs := runQ_rise W hy.rise hy.nn t ht
  have hj' : j < ks.length := by have := h.lx; omega
  rw [h.wt j hj']
  exact hs.nn _ ((h.lies.mem _).1 (getD_mem ks j hj')).1

set_option maxHeartbeats 8000000 in
theorem ddepths_start (A : Option Addr) (n cA : Nat) (xs : List Int) (w : World) (hx : NumsAt .i64 w A xs) (hl : xs.length = n) (hn : n ≤ 39) (ys : List Hp) (hys : Ys xs n ys) :
    Calls Tryz.prog 23 #[.slice A n cA] w (DDepEnd w n (depF ys)) := by
  have HX := Lib.hid (And.intro hx hl)
  have HY := Lib.hid hys
  clear hx hl hys
  obtain ⟨i0, hi, hz0, hz1, hz2⟩ := info_parts info3
  go_enter Tryz.func23, Tryz.ntmps23
  go_wp2_with (first | (at_make; refine wpList_make_full _ rfl _ _ 22 rfl w.heap.size 3 i0 (.int .i64 0) 1 Tryz.underlying22 hi hz0 hz1 _ _ _ _ n rfl rfl rfl rfl ?b2 ?b3 (by simp) ?_))
  case b2 => first | omega | (rw [hz2]; omega)
  case b3 => unfold maxLen; omega
  intro w1 hown hgrow
  have hD0 : DI w w.heap.size n (fun _ => 0) w1 := DI.made (Below.refl _ _) (by simpa using hown) hgrow
  obtain ⟨D, hDe⟩ : ∃ D, D = w.heap.size := ⟨_, rfl⟩
  rw [← hDe] at hD0
  rw [← hDe]
  have hM : DM w D n (upO xs 0) (.slice none 0 0) [] [] w1 := ⟨hD0.congr fun c _ => by simp [upO], World.ownsRow_nil _ _ _ _, rfl, fun j h => by simp at h⟩
  have HM := Lib.hid hM
  clear hown hgrow hD0 hM hDe hi hz0 hz1 hz2
  go_wp2
  go_loopw [4, 5, 6] (fun v4 v5 _ wr => ∃ (i : Nat) (X : List Hd) (S : List (List Int)), v5 = .int .i64 (i : Int) ∧ i ≤ n ∧ LoneD xs i X S ∧ DM w D n (upO xs i) v4 X S wr) (fun _ v5 _ _ => n - (intOf v5).toNat)
  case atStart => exact ⟨0, [], [], rfl, Nat.zero_le _, LoneD.zero xs, HM.out⟩
  case round =>
    obtain ⟨i, X, S, rfl, hin, hLD, hDM⟩ := hrel
    by_cases hlt : i < n
    · have c1 := hDM.di.cell i hlt
      have z1 := hDM.di.frz i hlt
      have h1 := hDM.out hlt (-1)
      have q1 : (i : Int) < (n : Int) := by omega
      have q2 : (0 : Int) ≤ (i : Int) := by omega
      have HLD := Lib.hid hLD
      have HDM := Lib.hid h1
      clear hLD hDM h1
      go_upto_region 7 with fail
      obtain ⟨u1, hu1⟩ : ∃ u1, u1 = wr.setCell ⟨D, i, none⟩ (.int .i64 (-1)) := ⟨_, rfl⟩
      rw [← hu1] at HDM
      rw [← hu1]
      clear hu1 c1 z1
      obtain ⟨bb, off, hAe, hbl, hcb⟩ := num_at (HX.out.1.kept HDM.out.di.bel) (i := i) (by rw [HX.out.2]; exact hlt)
      subst hAe
      obtain ⟨x, hxe⟩ : ∃ x, x = xs.getD i 0 := ⟨_, rfl⟩
      rw [← hxe] at hcb
      have HXE := Lib.hid hxe
      clear hxe
      by_cases hx : 0 < x
      · have c1 := HDM.out.di.cell i hlt
        have z1 := HDM.out.di.frz i hlt
        have h2 := HDM.out.out hlt 0
        have HD2 := Lib.hid h2
        have hXl : X.length ≤ 39 := by have := HLD.out.len; have := loneL_length xs i; omega
        clear h2
        go_upto_region 9 with fail
        obtain ⟨u2, hu2⟩ : ∃ u2, u2 = u1.setCell ⟨D, i, none⟩ (.int .i64 0) := ⟨_, rfl⟩
        rw [← hu2] at HD2
        rw [← hu2]
        clear hu2 c1 z1 hcb
        have hcb := num_cell (HX.out.1.kept HD2.out.di.bel) (i := i) (by rw [HX.out.2]; exact hlt)
        rw [← HXE.out] at hcb
        by_cases hbig : (1152921504606846976 : Int) < x
        · have hwt : min x big = 1152921504606846976 := by unfold big; omega
          · obtain ⟨ia, hi, hz0, hz1, hz2⟩ := info_parts info69
            have HW := Lib.hid hwt
            clear hwt
            go_wp2_with (first
              | (at_builtin
                 refine wpList_append_own_at _ rfl (.tmp 40) (.tmp 46) 67 rfl (D + 1) 69 ia (.agg #[.int .i64 0, .int .i64 0, .slice none 0 0]) 3 40 Tryz.underlying67 hi hz0 hz1 hz2 rfl (by omega) _ X.length (X.flatMap hcd) rfl ((HD2.out.row.alloc (.cells #[.int .i64 (i : Int)] 3)).alloc (.cells #[.int .i64 1152921504606846976, .int .i64 (i : Int), .slice (some ⟨u2.heap.size, 0, none⟩) 1 1] 69)) ⟨_, 0, none⟩ 1 1 [.int .i64 1152921504606846976, .int .i64 (i : Int), .slice (some ⟨u2.heap.size, 0, none⟩) 1 1] rfl rfl ?c1 (by simp [Value.oneCell']) ?c2 ?c3 ?c4 ?_))
            case c1 => exact World.news_of_block (cs := #[.int .i64 1152921504606846976, .int .i64 (i : Int), .slice (some ⟨u2.heap.size, 0, none⟩) 1 1]) (t := 69) (fr := (0, 0)) (by have := heap_alloc_new (u2.alloc (.cells #[.int .i64 (i : Int)] 3)) (.cells #[.int .i64 1152921504606846976, .int .i64 (i : Int), .slice (some ⟨u2.heap.size, 0, none⟩) 1 1] 69); rw [World.size_alloc] at this; exact this)
            case c2 => unfold maxLen; omega
            case c3 => omega
            case c4 => have := HD2.out.di.hi; simp; omega
            intro v9 w5 hown hgrow _ hat
            have hsy := one_sym D u2 HD2.out.di.hi (i : Int)
            have hK := HD2.out.kept ((Below.refl _ _).alloc (Nat.le_refl _) (.cells #[.int .i64 (i : Int)] 3))
            have hA := hK.app (x := ⟨1152921504606846976, (i : Int), some ⟨u2.heap.size, 0, none⟩, 1, 1⟩) (T := [(i : Int)]) ⟨hsy.1, rfl⟩ _ hown hgrow
            have hS := HLD.out.step HD2.out.ls (by rw [← HXE.out]; exact hx) (some ⟨u2.heap.size, 0, none⟩) 1 1
            rw [← HXE.out, HW.out] at hS
            have HFIN := Lib.hid (And.intro hS (hA.congr (o' := upO xs (i + 1)) fun c _ => by
              rw [upO_succ]
              show (if c = i then 0 else if c = i then -1 else upO xs i c) = _
              by_cases e : c = i
              · rw [if_pos e, if_pos e]; unfold startO; rw [← HXE.out, if_pos hx]
              · rw [if_neg e, if_neg e, if_neg e]))
            clear hsy hK hA hS hown hgrow hat hi hz0 hz1 hz2 HLD HDM HD2
            go_wp2
            go_roundw
            case rel => exact ⟨i + 1, _, _, by go_num, by omega, HFIN.out.1, HFIN.out.2⟩
            case measure => simp [intOf]; omega
        · have hwt : min x big = x := by unfold big; omega
          · obtain ⟨ia, hi, hz0, hz1, hz2⟩ := info_parts info69
            have HW := Lib.hid hwt
            clear hwt
            go_wp2_with (first
              | (at_builtin
                 refine wpList_append_own_at _ rfl (.tmp 40) (.tmp 46) 67 rfl (D + 1) 69 ia (.agg #[.int .i64 0, .int .i64 0, .slice none 0 0]) 3 40 Tryz.underlying67 hi hz0 hz1 hz2 rfl (by omega) _ X.length (X.flatMap hcd) rfl ((HD2.out.row.alloc (.cells #[.int .i64 (i : Int)] 3)).alloc (.cells #[.int .i64 x, .int .i64 (i : Int), .slice (some ⟨u2.heap.size, 0, none⟩) 1 1] 69)) ⟨_, 0, none⟩ 1 1 [.int .i64 x, .int .i64 (i : Int), .slice (some ⟨u2.heap.size, 0, none⟩) 1 1] rfl rfl ?d1 (by simp [Value.oneCell']) ?d2 ?d3 ?d4 ?_))
            case d2 => unfold maxLen; omega
            case d3 => omega
            case d4 => have := HD2.out.di.hi; simp; omega
            intro v9 w5 hown hgrow _ hat
            have hsy := one_sym D u2 HD2.out.di.hi (i : Int)
            have hK := HD2.out.kept ((Below.refl _ _).alloc (Nat.le_refl _) (.cells #[.int .i64 (i : Int)] 3))
            have hA := hK.app (x := ⟨x, (i : Int), some ⟨u2.heap.size, 0, none⟩, 1, 1⟩) (T := [(i : Int)]) ⟨hsy.1, rfl⟩ _ hown hgrow
            have hS := HLD.out.step HD2.out.ls (by rw [← HXE.out]; exact hx) (some ⟨u2.heap.size, 0, none⟩) 1 1
            rw [← HXE.out, HW.out] at hS
            have HFIN := Lib.hid (And.intro hS (hA.congr (o' := upO xs (i + 1)) fun c _ => by
              rw [upO_succ]
              show (if c = i then 0 else if c = i then -1 else upO xs i c) = _
              by_cases e : c = i
              · rw [if_pos e, if_pos e]; unfold startO; rw [← HXE.out, if_pos hx]
              · rw [if_neg e, if_neg e, if_neg e]))
            clear hsy hK hA hS hown hgrow hat hi hz0 hz1 hz2 HLD HDM HD2
            go_wp2
            go_roundw
            case rel => exact ⟨i + 1, _, _, by go_num, by omega, HFIN.out.1, HFIN.out.2⟩
            case measure => simp [intOf]; omega
      · have HFIN := Lib.hid (And.intro (HLD.out.skip (by rw [← HXE.out]; exact hx)) (HDM.out.congr (o' := upO xs (i + 1)) fun c _ => by
          rw [upO_succ]
          show (if c = i then -1 else upO xs i c) = _
          by_cases e : c = i
          · rw [if_pos e, if_pos e]; unfold startO; rw [← HXE.out, if_neg hx]
          · rw [if_neg e, if_neg e]))
        clear HLD HDM
        go_wp2
        go_roundw
        case rel => exact ⟨i + 1, X, S, by go_num, by omega, HFIN.out.1, HFIN.out.2⟩
        case measure => simp [intOf]; omega
    · obtain rfl : i = n := by omega
      have q1 : ¬ (i : Int) < (i : Int) := by omega
      have hys := HY.out
      obtain ⟨ks, hDS⟩ := hLD.ds hys hDM.ls
      have hO := hys.out0 HX.out.2
      have hLen : X.length = ys.length := by rw [hLD.len]; exact hys.perm.length_eq
      have hM2 := hDM.congr (o' := startO xs) (fun c hc => by unfold upO; rw [if_pos hc])
      have hSy := hys.symF
      have hLi : ys.length ≤ i := by rw [← hys.perm.length_eq]; exact loneL_length xs i
      obtain ⟨W, hW⟩ : ∃ W, W = ys.map Hp.w := ⟨_, rfl⟩
      have hWl : W.length = ys.length := by rw [hW, List.length_map]
      rw [← hW] at hDS hO hSy
      obtain ⟨L, hL⟩ : ∃ L, L = ys.length := ⟨_, rfl⟩
      rw [← hL] at hLen hLi hWl
      have HST := Lib.hid (And.intro hM2 (And.intro hDS hO))
      have HS := Lib.hid (And.intro hSy (And.intro hWl (And.intro hW hL)))
      clear hys hLD hDM hDS hO hM2 hSy hWl hW hL
      go_wp2
      go_loopw [4, 7, 8, 9, 10, 11, 12, 13] (fun v4 v7 _ _ _ _ _ _ wr => ∃ (t : Nat) (X : List Hd) (S : List (List Int)) (ks : List Nat) (o : Nat → Int), v7 = .int .i64 ((i + t : Nat) : Int) ∧ t ≤ 39 ∧ X.length + t = L ∧ (t + 1 ≤ L ∨ (L = 0 ∧ t = 0)) ∧ DM w D i o v4 X S wr ∧ DS W (syF ys) i t (runQ W t) X ks S ∧ OutO W (syF ys) t o) (fun _ v7 _ _ _ _ _ _ _ => 100 - (intOf v7).toNat)
      case atStart => exact ⟨0, X, S, ks, startO xs, rfl, by omega, by omega, by omega, HST.out.1, HST.out.2.1, HST.out.2.2⟩
      case round =>
        clear HST hLen
        obtain ⟨t, X, S, ks, o, rfl, ht, hXL, hLt, hDM, hDS, hO⟩ := hrel
        by_cases hX : 1 < X.length
        · obtain ⟨g, cap, rfl, hg, hDR⟩ := own_drow hDM.row (by omega)
          have q3 : (1 : Int) < (X.length : Int) := by omega
          have HM1 := Lib.hid hDM
          have HDS := Lib.hid (And.intro hDS hO)
          clear hDM hDS hO
          go_wp2_with fail
          refine (lightest_any g cap X X.length wr hDR rfl (by omega) (by omega)).mono ?_
          rintro e u1 ⟨⟨p, rfl, hp, hleast⟩, hb1⟩
          have hM1 := HM1.out.kept hb1
          obtain ⟨c1, c2, c3⟩ := (hDR.kept hb1) p hp
          have HLE := Lib.hid (show LeastH X p from ⟨hp, hleast⟩)
          have HM2 := Lib.hid (And.intro hM1 (hDR.kept hb1))
          obtain ⟨a, ha⟩ : ∃ a, a = X.getD p default := ⟨_, rfl⟩
          rw [← ha] at c1 c2 c3
          have HA := Lib.hid ha
          have q4 : (p : Int) < (X.length : Int) := by omega
          have q5 : (0 : Int) ≤ (p : Int) := by omega
          clear hleast hM1 hb1 hDR ha HM1
          go_wp2_with fail
          have hB : Below u1.heap.size u1 (u1.alloc (.cells #[.int .i64 a.w, .int .i64 a.k, .slice a.a a.n a.c] 69)) := (Below.refl _ _).alloc (Nat.le_refl _) _
          obtain ⟨u2, hu2⟩ : ∃ u2, u2 = u1.alloc (.cells #[.int .i64 a.w, .int .i64 a.k, .slice a.a a.n a.c] 69) := ⟨_, rfl⟩
          have b0 : u2.cell? ⟨u1.heap.size, 0, none⟩ = some (.int .i64 a.w) := by rw [hu2]; simp
          have b2 : u2.cell? ⟨u1.heap.size, 2, none⟩ = some (.slice a.a a.n a.c) := by rw [hu2]; simp
          have hb2 : u1.heap.size < u2.heap.size := by rw [hu2]; simp
          rw [← hu2] at hB
          rw [← hu2]
          have hM2 := HM2.out.1.kept hB
          have hR2 := HM2.out.2.kept hB
          obtain ⟨ba, hba⟩ : ∃ ba, ba = u1.heap.size := ⟨_, rfl⟩
          rw [← hba] at b0 b2 hb2
          rw [← hba]
          have HM3 := Lib.hid hM2
          have hsa : SyA D u2 a (S.getD p []) := by rw [HA.out]; exact hM2.sy p (by omega)
          have HB := Lib.hid (BX.mk b0 b2 hb2 hsa)
          clear hB hu2 b0 b2 hb2 hsa hM2 hba c1 c2 c3 HM2
          refine (without_any g cap p X X.length u2 hR2 rfl (by omega)).mono ?_
          rintro e u3 ⟨v3, rfl, hrow3, hb3⟩
          have hpX : p < X.length := by omega
          have hM3 := HM3.out.less hpX hrow3 hb3
          have hl3 : (X.eraseIdx p).length = X.length - 1 := List.length_eraseIdx_of_lt hpX
          obtain ⟨g3, cap3, rfl, hg3, hDR3⟩ := own_drow hM3.row (by omega)
          have HB3 := Lib.hid (HB.out.kept hb3)
          have HM4 := Lib.hid hM3
          obtain ⟨Y, hY⟩ : ∃ Y, Y = X.eraseIdx p := ⟨_, rfl⟩
          rw [← hY] at HM4 hDR3 hl3
          rw [← hY]
          have HY2 := Lib.hid hY
          have HL3 := Lib.hid hl3
          have q6 : 1 ≤ Y.length := by omega
          have q7 : Y.length ≤ 39 := by omega
          clear hrow3 hb3 hM3 HB HM3 hR2 hY hl3 q4 q5 hp q3
          go_wp2_with fail
          refine (lightest_any g3 cap3 Y Y.length u3 hDR3 rfl q6 q7).mono ?_
          rintro e u4 ⟨⟨r, rfl, hr, hleast2⟩, hb4⟩
          have hM5 := HM4.out.kept hb4
          obtain ⟨d1, d2, d3⟩ := (hDR3.kept hb4) r hr
          have HLE2 := Lib.hid (show LeastH Y r from ⟨hr, hleast2⟩)
          have HM5 := Lib.hid (And.intro hM5 (hDR3.kept hb4))
          have HB4 := Lib.hid (HB3.out.kept hb4)
          obtain ⟨b, hbE⟩ : ∃ b, b = Y.getD r default := ⟨_, rfl⟩
          rw [← hbE] at d1 d2 d3
          have HBE := Lib.hid hbE
          have q8 : (r : Int) < (Y.length : Int) := by omega
          have q9 : (0 : Int) ≤ (r : Int) := by omega
          clear hleast2 hM5 hb4 hDR3 hbE HM4 HB3
          go_wp2_with fail
          have hB : Below u4.heap.size u4 (u4.alloc (.cells #[.int .i64 b.w, .int .i64 b.k, .slice b.a b.n b.c] 69)) := (Below.refl _ _).alloc (Nat.le_refl _) _
          obtain ⟨u5, hu5⟩ : ∃ u5, u5 = u4.alloc (.cells #[.int .i64 b.w, .int .i64 b.k, .slice b.a b.n b.c] 69) := ⟨_, rfl⟩
          have e0 : u5.cell? ⟨u4.heap.size, 0, none⟩ = some (.int .i64 b.w) := by rw [hu5]; simp
          have e2 : u5.cell? ⟨u4.heap.size, 2, none⟩ = some (.slice b.a b.n b.c) := by rw [hu5]; simp
          have hs5 : u4.heap.size < u5.heap.size := by rw [hu5]; simp
          rw [← hu5] at hB
          rw [← hu5]
          obtain ⟨bb, hbb⟩ : ∃ bb, bb = u4.heap.size := ⟨_, rfl⟩
          have hM6 := HM5.out.1.kept hB
          have hR6 := HM5.out.2.kept hB
          rw [← hbb] at e0 e2 hs5
          rw [← hbb]
          have HM6 := Lib.hid hM6
          have hsb : SyA D u5 b ((S.eraseIdx p).getD r []) := by rw [HBE.out]; exact hM6.sy r hr
          have HB5 := Lib.hid (And.intro (HB4.out.kept hB) (BX.mk e0 e2 hs5 hsb))
          clear hB hu5 e0 e2 hs5 hsb hM6 hbb d1 d2 d3 HM5 HB4
          refine (without_any g3 cap3 r Y Y.length u5 hR6 rfl q7).mono ?_
          rintro e u6 ⟨v6, rfl, hrow6, hb6⟩
          have hM7 := HM6.out.less hr hrow6 hb6
          have HB6 := Lib.hid (And.intro (HB5.out.1.kept hb6) (HB5.out.2.kept hb6))
          obtain ⟨Z, hZ⟩ : ∃ Z, Z = Y.eraseIdx r := ⟨_, rfl⟩
          have hl6 : Z.length = Y.length - 1 := by rw [hZ]; exact List.length_eraseIdx_of_lt hr
          rw [← hZ] at hM7
          have HM7 := Lib.hid hM7
          have HZ := Lib.hid (And.intro hZ hl6)
          clear hM7 hrow6 hb6 HM6 HB5 hR6 hZ hl6 q8 q9 hr
          have hba := HDS.out.1.bound HS.out.1 (by have := HS.out.2.1; omega) (j := p) (by have := HLE.out.1; omega)
          rw [← HA.out] at hba
          have hbb2 : 0 ≤ b.w ∧ b.w ≤ big := by
            rw [HBE.out, HY2.out, getD_eraseIdx]
            have h1 := HLE2.out.1
            have h2 := HL3.out
            split
            · exact HDS.out.1.bound HS.out.1 (by have := HS.out.2.1; omega) (by omega)
            · exact HDS.out.1.bound HS.out.1 (by have := HS.out.2.1; omega) (by omega)
          unfold big at hba hbb2
          have b0 := HB6.out.1.c0
          have b2 := HB6.out.1.c2
          have e0 := HB6.out.2.c0
          have e2 := HB6.out.2.c2
          go_upto_if 80 with fail
          obtain ⟨u7, hu7⟩ : ∃ u7, u7 = u6.alloc (.cells #[.int .i64 (a.w + b.w), .int .i64 ((i : Int) + (t : Int)), .slice none 0 0] 69) := ⟨_, rfl⟩
          have hB7 : Below u6.heap.size u6 u7 := by rw [hu7]; exact (Below.refl _ _).alloc (Nat.le_refl _) _
          have f0 : u7.cell? ⟨u6.heap.size, 0, none⟩ = some (.int .i64 (a.w + b.w)) := by rw [hu7]; simp
          have f1 : u7.cell? ⟨u6.heap.size, 1, none⟩ = some (.int .i64 ((i : Int) + (t : Int))) := by rw [hu7]; simp
          have f2 : u7.cell? ⟨u6.heap.size, 2, none⟩ = some (.slice none 0 0) := by rw [hu7]; simp
          have z0 : u7.frozen? ⟨u6.heap.size, 0, none⟩ = false := by rw [hu7]; simp
          have z2 : u7.frozen? ⟨u6.heap.size, 2, none⟩ = false := by rw [hu7]; simp
          have hs7 : u6.heap.size < u7.heap.size := by rw [hu7]; simp
          rw [← hu7]
          obtain ⟨bh, hbh⟩ : ∃ bh, bh = u6.heap.size := ⟨_, rfl⟩
          rw [← hbh] at f0 f1 f2 z0 z2 hs7
          rw [← hbh]
          have HBH := Lib.hid hbh
          have HB7 := Lib.hid hB7
          clear hu7 hbh hB7 b0 b2 e0 e2
          go_cut [80] from 81 to 81 (fun _ wx => Below u6.heap.size u6 wx ∧ wx.cell? ⟨bh, 0, none⟩ = some (.int .i64 (min (a.w + b.w) big)) ∧ wx.cell? ⟨bh, 1, none⟩ = some (.int .i64 ((i : Int) + (t : Int))) ∧ wx.cell? ⟨bh, 2, none⟩ = some (.slice none 0 0) ∧ wx.frozen? ⟨bh, 2, none⟩ = false ∧ bh < wx.heap.size)
          case first =>
            by_cases hbig : (1152921504606846976 : Int) < a.w + b.w
            · have HMIN := Lib.hid (show min (a.w + b.w) big = 1152921504606846976 by unfold big; omega)
              go_wp2
              go_meet
              rw [HMIN.out]
              exact ⟨HB7.out.setCell (p := ⟨bh, 0, none⟩) (Nat.le_of_eq HBH.out.symm) _, by rw [cell_set _ _ _ _ _ _ f0, if_pos rfl], by rw [cell_set _ _ _ _ _ _ f1]; rfl, by rw [cell_set _ _ _ _ _ _ f2]; rfl, by simpa using z2, by simpa using hs7⟩
            · have HMIN := Lib.hid (show min (a.w + b.w) big = a.w + b.w by unfold big; omega)
              go_wp2
              go_meet
              rw [HMIN.out]
              exact ⟨HB7.out, f0, f1, f2, z2, hs7⟩
          case rest =>
            obtain ⟨hB8, k0, k1, k2, y2, hs8⟩ := hcut
            have hST2 := HDS.out.1.stp HS.out.1 (by have := HS.out.2.1; omega) HLE.out (by rw [← HY2.out]; exact HLE2.out)
            obtain ⟨Sa, hSa⟩ : ∃ Sa, Sa = S.getD p [] := ⟨_, rfl⟩
            obtain ⟨Sb, hSb⟩ : ∃ Sb, Sb = (S.eraseIdx p).getD r [] := ⟨_, rfl⟩
            have hT := (hST2 none 0 0).2
            rw [← hSa, ← hSb] at hT
            have hTb : ∀ x ∈ Sa ++ Sb, 0 ≤ x ∧ x < (i : Int) := by
              intro x hx
              obtain ⟨j, hj, rfl⟩ := (hT.1 x).1 hx
              have := HS.out.1.lt j (within_mem.1 hj).1
              omega
            have hTl := nodup_small hT.2 hTb
            rw [List.length_append] at hTl
            have hA8 := HB6.out.1.kept hB8
            have hC8 := HB6.out.2.kept hB8
            rw [← hSa] at hA8
            rw [← hSb] at hC8
            have n1 : a.n = Sa.length := hA8.sy.2
            have n2 : b.n = Sb.length := hC8.sy.2
            have n3 : 0 + a.n ≤ 1000000000 := by omega
            have n4 : a.n + b.n ≤ 1000000000 := by omega
            have hMo := HDS.out.2.stp HS.out.1 (by have := HS.out.2.1; omega) hT.1
            have hole := fun c => HDS.out.2.le c
            have HT := Lib.hid (And.intro hT (And.intro hTb (And.intro hTl (And.intro hMo hole))))
            have HST3 := Lib.hid hST2
            have HSS := Lib.hid (And.intro hSa hSb)
            have HA8 := Lib.hid hA8
            have HC8 := Lib.hid hC8
            have HBW := Lib.hid hB8
            have g0 := hA8.c2
            have HN := Lib.hid (And.intro n1 (And.intro n2 (And.intro n4 hTl)))
            clear f0 f1 f2 z0 z2 hs7 HB7 hT hTb hTl hB8 n1 n2 n4 hA8 hC8 hSa hSb hST2 hMo hole
            go_wp2_with (first
              | (at_builtin
                 refine wpList_append_nums rfl (.tmp 85) (.tmp 87) rfl (bh + 1) (.slice none 0 0) 0 [] rfl (World.ownsRow_nil _ _ _ _) a.a a.n a.c Sa rfl HN.out.1.symm HA8.out.sy.nums.1 HA8.out.sy.nums.2 n3 ?m1 ?_))
            case m1 => omega
            intro v9 w9 hown9 hgrow9 _
            have hg9 : Below _ _ w9 := below_grown (by simpa [Value.ownBlock] using hgrow9)
            have hB9 : Below u6.heap.size u6 w9 := HBW.out.trans (hg9.mono HBW.out.size)
            rw [← hg9.cell (p := ⟨bh, 0, none⟩) hs8] at k0
            rw [← hg9.cell (p := ⟨bh, 1, none⟩) hs8] at k1
            rw [← hg9.cell (p := ⟨bh, 2, none⟩) hs8] at k2
            rw [← hg9.frozen (p := ⟨bh, 2, none⟩) hs8] at y2
            have hs9 := Nat.lt_of_lt_of_le hs8 hg9.size
            have hC9 := HC8.out.kept hg9
            have hbbh : bb ≠ bh := by have := HB6.out.2.hi; have := HBH.out; omega
            have ho9 : w9.ownsRow (bh + 1) 3 1 v9 a.n (Sa.map (Value.int .i64)) := by simpa using hown9
            obtain ⟨A9, c9, hv9, -, -, -, -, -⟩ := nums_of_own ho9
            subst hv9
            have ho10 := ownsRow_setCell_below (a := ⟨bh, 2, none⟩) ho9 (Nat.lt_succ_self bh) (.slice A9 a.n c9)
            have hB10 := hB9.setCell (p := ⟨bh, 2, none⟩) (Nat.le_of_eq HBH.out.symm) (.slice A9 a.n c9)
            have r0 : (w9.setCell ⟨bh, 2, none⟩ (.slice A9 a.n c9)).cell? ⟨bh, 0, none⟩ = some (.int .i64 (min (a.w + b.w) big)) := by rw [cell_set _ _ _ _ _ _ k0]; rfl
            have r1 : (w9.setCell ⟨bh, 2, none⟩ (.slice A9 a.n c9)).cell? ⟨bh, 1, none⟩ = some (.int .i64 ((i : Int) + (t : Int))) := by rw [cell_set _ _ _ _ _ _ k1]; rfl
            have r2 : (w9.setCell ⟨bh, 2, none⟩ (.slice A9 a.n c9)).cell? ⟨bh, 2, none⟩ = some (.slice A9 a.n c9) := by rw [cell_set _ _ _ _ _ _ k2, if_pos rfl]
            have r3 : (w9.setCell ⟨bh, 2, none⟩ (.slice A9 a.n c9)).cell? ⟨bb, 2, none⟩ = some (.slice b.a b.n b.c) := by rw [World.cell?_setCell_other _ _ _ _ (ne_addr hbbh.symm)]; exact hC9.c2
            have x2 : (w9.setCell ⟨bh, 2, none⟩ (.slice A9 a.n c9)).frozen? ⟨bh, 2, none⟩ = false := by simpa using y2
            have hnb : NumsAt .i64 (w9.setCell ⟨bh, 2, none⟩ (.slice A9 a.n c9)) b.a Sb ∧ (b.a = none → b.n = 0 ∧ b.c = 0) := by
              have hs := HB6.out.2.sy.kept_below hB10
              rw [← HSS.out.2] at hs
              exact hs.nums
            have H10 := Lib.hid (And.intro ho10 (And.intro hB10 (And.intro r0 (And.intro r1 (And.intro r2 (And.intro x2 hnb))))))
            clear hown9 hgrow9 hg9 hB9 k0 k1 hs8 hC9 hbbh ho9 ho10 hB10 r0 r1 hnb
            go_wp2_with (first
              | (at_builtin
                 refine wpList_append_nums rfl (.tmp 91) (.tmp 93) rfl (bh + 1) (.slice A9 a.n c9) a.n (Sa.map (Value.int .i64)) rfl H10.out.1 b.a b.n b.c Sb rfl HN.out.2.1.symm H10.out.2.2.2.2.2.2.1 H10.out.2.2.2.2.2.2.2 HN.out.2.2.1 ?m2 ?_))
            case m2 => simp; omega
            intro v11 w11 hown11 hgrow11 _
            obtain ⟨A11, c11, hv11, -, -, -, -, -⟩ := nums_of_own (k := .i64) (xs := Sa ++ Sb) (by rw [List.map_append]; exact hown11)
            subst hv11
            obtain ⟨T, hTe⟩ : ∃ T, T = Sa ++ Sb := ⟨_, rfl⟩
            have hTlen : a.n + b.n = T.length := by rw [hTe, List.length_append, HN.out.1, HN.out.2.1]
            have hk11 : Kp (fun k => (Value.slice A9 a.n c9).ownBlock = some k) (w9.setCell ⟨bh, 2, none⟩ (.slice A9 a.n c9)) w11 := (Kp.refl _ _).grown hgrow11 (fun k hk _ => hk)
            have hne11 : ¬ (Value.slice A9 a.n c9).ownBlock = some bh := fun e => by have := (H10.out.1.lt bh e).1; omega
            have hs10 : bh < (w9.setCell ⟨bh, 2, none⟩ (.slice A9 a.n c9)).heap.size := by simpa using hs9
            have hB11 : Below u6.heap.size u6 w11 := H10.out.2.1.grown hgrow11 H10.out.2.1.size (fun k hk => by have := (H10.out.1.lt k hk).1; have := HBH.out; omega)
            have k0 := H10.out.2.2.1
            have k1 := H10.out.2.2.2.1
            have k2 := H10.out.2.2.2.2.1
            have y2 := H10.out.2.2.2.2.2.1
            rw [← hk11.cell (p := ⟨bh, 0, none⟩) hs10 hne11] at k0
            rw [← hk11.cell (p := ⟨bh, 1, none⟩) hs10 hne11] at k1
            rw [← hk11.cell (p := ⟨bh, 2, none⟩) hs10 hne11] at k2
            rw [← hk11.frozen (p := ⟨bh, 2, none⟩) hs10 hne11] at y2
            have hs11 := Nat.lt_of_lt_of_le hs10 hk11.size
            have ho11 : w11.ownsRow (bh + 1) 3 1 (.slice A11 (a.n + b.n) c11) T.length (T.map (Value.int .i64)) := by
              rw [← hTlen, hTe, List.map_append]; exact hown11
            obtain ⟨N, hN⟩ : ∃ N, N = a.n + b.n := ⟨_, rfl⟩
            rw [← hN] at ho11 hTlen
            have hBT : BT bh (min (a.w + b.w) big) ((i : Int) + (t : Int)) A11 N c11 T (w11.setCell ⟨bh, 2, none⟩ (.slice A11 N c11)) :=
              ⟨by rw [cell_set _ _ _ _ _ _ k0]; rfl, by rw [cell_set _ _ _ _ _ _ k1]; rfl, by rw [cell_set _ _ _ _ _ _ k2, if_pos rfl], ownsRow_setCell_below (a := ⟨bh, 2, none⟩) ho11 (Nat.lt_succ_self bh) _, hTlen, by simpa using hs11⟩
            have hB12 := hB11.setCell (p := ⟨bh, 2, none⟩) (Nat.le_of_eq HBH.out.symm) (.slice A11 N c11)
            have hM12 := HM7.out.kept hB12
            have hM12 := hM12.congr (o' := goO o T 0) (fun c _ => by unfold goO; rw [List.take_zero, if_neg (by simp)])
            have hDbh : D < bh := by have := HM7.out.di.hi; have := HBH.out; omega
            have hTT := HT.out
            rw [← hTe] at hTT
            have hN39 : N ≤ 39 := by have := HN.out.2.2.2; have := HN.out.1; have := HN.out.2.1; omega
            rw [← hN]
            have H12 := Lib.hid (And.intro hBT (And.intro hM12 (And.intro hTe hTT)))
            have HTL := Lib.hid hTlen
            have HDB := Lib.hid hDbh
            clear hown11 hgrow11 hTe hk11 hne11 hs10 hB11 hs11 ho11 hN hBT hB12 hM12 hTT hTlen hDbh H10 r2 r3 x2 hs9 k0 k1
            go_wp2
            clear k2 y2
            go_loopw [13] (fun v13 wr => ∃ j : Nat, j ≤ N ∧ v13 = .int .i64 (j : Int) ∧ DM w D i (goO o T j) v6 Z ((S.eraseIdx p).eraseIdx r) wr ∧ BT bh (min (a.w + b.w) big) ((i : Int) + (t : Int)) A11 N c11 T wr) (fun v13 _ => N - (intOf v13).toNat)
            case atStart => exact ⟨0, Nat.zero_le _, rfl, H12.out.2.1, H12.out.1⟩
            case round =>
              obtain ⟨j, hjN, rfl, hM, hB⟩ := hrel
              have d2 := hB.c2
              by_cases hjl : j < N
              · obtain ⟨gb, go, hAe, -, ck⟩ := num_at hB.nums (i := j) (by rw [← HTL.out]; exact hjl)
                have hym := H12.out.2.2.2.2.1 (T.getD j 0) (memI T j (by rw [← HTL.out]; exact hjl))
                obtain ⟨y, hy⟩ : ∃ y : Nat, T.getD j 0 = (y : Int) := ⟨(T.getD j 0).toNat, by omega⟩
                rw [hy] at ck hym
                have hyi : y < i := by omega
                have cD := hM.di.cell y hyi
                have zD := hM.di.frz y hyi
                have hgs := goO_succ o H12.out.2.2.2.1.2 (j := j) (y := y) (by rw [← HTL.out]; exact hjl) hy
                have hge : goO o T j y ≤ 41 ∧ -1 ≤ goO o T j y := by
                  have := H12.out.2.2.2.2.2.2.2 y
                  unfold goO
                  split <;> omega
                obtain ⟨x, hx⟩ : ∃ x, goO o T j y = x := ⟨_, rfl⟩
                rw [hx] at cD hge
                have hset := hM.out hyi (x + 1)
                have hBs := hB.out (i := y) HDB.out (.int .i64 (x + 1))
                have HS3 := Lib.hid (And.intro hset (And.intro hBs (And.intro hgs hx)))
                have HAE := Lib.hid hAe
                have q1 : (j : Int) < (N : Int) := by omega
                have q2 : (0 : Int) ≤ (j : Int) := by omega
                have q3 : (y : Int) < (i : Int) := by omega
                have q4 : (0 : Int) ≤ (y : Int) := by omega
                have q5 : IntKind.i64.wrap (x + 1) = x + 1 := IntWalk.i64_in _ (by omega)
                clear hM hB hy hgs hx hset hBs hym
                subst hAe
                go_wp2
                go_roundw
                case rel => exact ⟨j + 1, by omega, by go_num, HS3.out.1.congr (fun c _ => by rw [HS3.out.2.2.1 c, HS3.out.2.2.2]), HS3.out.2.1⟩
                case measure => simp [intOf]; omega
              · obtain rfl : j = N := by omega
                obtain ⟨ia, hi, hz0, hz1, hz2⟩ := info_parts info69
                have hMf := hM.congr (o' := fun c => if (c : Int) ∈ T then o c + 1 else o c) (fun c _ => by
                  unfold goO
                  rw [List.take_of_length_le (by rw [← HTL.out]; exact Nat.le_refl _)])
                have hZ39 : Z.length ≤ 39 := by have := HZ.out.2; omega
                have b0 := hB.c0
                have b1 := hB.c1
                have HMF := Lib.hid (And.intro hMf hB)
                obtain ⟨wt, hwt⟩ : ∃ wt, min (a.w + b.w) big = wt := ⟨_, rfl⟩
                rw [hwt] at b0 HMF
                have HWT := Lib.hid hwt
                have q1 : ¬ (j : Int) < (j : Int) := by omega
                have hDs := hM.di.hi
                clear hM hB hMf hwt
                go_wp2_with (first
                  | (at_builtin
                     refine wpList_append_own_at _ rfl (.tmp 113) (.tmp 115) 67 rfl (D + 1) 69 ia (.agg #[.int .i64 0, .int .i64 0, .slice none 0 0]) 3 40 Tryz.underlying67 hi hz0 hz1 hz2 rfl (by omega) _ Z.length (Z.flatMap hcd) rfl (HMF.out.1.row.alloc (.cells #[.int .i64 wt, .int .i64 ((i : Int) + (t : Int)), .slice A11 j c11] 69)) ⟨_, 0, none⟩ 1 1 [.int .i64 wt, .int .i64 ((i : Int) + (t : Int)), .slice A11 j c11] rfl rfl ?ee1 (by simp [Value.oneCell']) ?ee2 ?ee3 ?ee4 ?_))
                case ee2 => unfold maxLen; omega
                case ee3 => omega
                case ee4 => first | omega | exact hDs | (rw [World.size_alloc]; omega)
                intro v12 w12 hown12 hgrow12 _ _
                have hsy : SyA D wr ⟨wt, ((i : Int) + (t : Int)), A11, j, c11⟩ T := ⟨own_mono HMF.out.2.row (by have := HDB.out; omega), HMF.out.2.len⟩
                have hA := HMF.out.1.app hsy _ hown12 hgrow12
                obtain ⟨ks', hds⟩ := (HST3.out A11 j c11).1
                rw [← HA.out, ← HY2.out, ← HBE.out, ← HZ.out.1, ← HSS.out.1, ← HSS.out.2, HWT.out, ← H12.out.2.2.1, Int.natCast_add] at hds
                have HFIN := Lib.hid (And.intro hA (And.intro hds H12.out.2.2.2.2.2.2.1))
                have hl1 := HL3.out
                have hl2 := HZ.out.2
                clear hsy hA hds hown12 hgrow12 hi hz0 hz1 hz2 HMF H12
                have HLL := Lib.hid (And.intro hl1 (And.intro hl2 (And.intro hXL (And.intro hX hLi))))
                clear hl1 hl2
                go_wp2
                go_roundw
                case rel =>
                  obtain ⟨f1, f2, f3, f4, f5⟩ := HLL.out
                  exact ⟨t + 1, _, _, ks', _, by go_num, by omega, by rw [List.length_append]; simp; omega, by omega, HFIN.out.1, HFIN.out.2.1, HFIN.out.2.2⟩
                case measure => have := HLL.out; simp [intOf]; omega
        · obtain ⟨A4, cap4, rfl⟩ := own_len hDM.row
          have q3 : ¬ (1 : Int) < (X.length : Int) := by omega
          have hend := HY.out.out_end (t := t) (o := o) (by rw [← HS.out.2.2.1]; exact hO) (by have := HS.out.2.2.2; omega)
          have HF := Lib.hid (And.intro hDM hend)
          clear hDM hend hDS hO
          go_wp2
          go_ret
          refine ⟨D, _, rfl, .inr ⟨D, 0, rfl, HF.out.1.di.hi, fun j hj => ?_⟩, HF.out.2, HF.out.1.di.bel⟩
          rw [List.length_map, List.length_range] at hj
          rw [Nat.zero_add, HF.out.1.di.cell j hj]
          simp [List.getD_eq_getElem?_getD, hj]

end Go.Proofs.YtdidoecigkbffaaGreat
end
