/- What joined holds while heaps are put together. -/
import Derived.Test.YtdidoecigkbffaaGreatJA
set_option maxRecDepth 100000
namespace Go.Proofs.YtdidoecigkbffaaGreat
open Go.RowKit
open S J

def advN (L : Nat) (s : Q) : Nat → Q
  | 0 => s
  | j + 1 => (advN L s j).adv L
def bw (L : Nat) (s : Q) : Nat → Int
  | 0 => 0
  | j + 1 => min (bw L s j + s.W.getD ((advN L s j).pk L) 0) big

theorem adv_W (L : Nat) (s : Q) : (s.adv L).W = s.W := by unfold Q.adv; split <;> rfl
theorem advN_W (L : Nat) (s : Q) (j : Nat) : (advN L s j).W = s.W := by
  induction j with
  | zero => rfl
  | succ j ih => rw [advN, adv_W, ih]

theorem hcl_set (H : List Hp) (k : Nat) (p : Int) (h : k < H.length) : (H.flatMap hcl).set (k * 3 + 2) (.int .i64 p) = (H.set k ⟨(H.getD k default).s, (H.getD k default).w, p⟩).flatMap hcl := by
  induction H generalizing k with
  | nil => simp at h
  | cons x H ih =>
    cases k with
    | zero => simp [hcl]
    | succ k =>
      simp only [List.length_cons] at h
      rw [List.flatMap_cons, List.set_cons_succ, List.flatMap_cons, List.getD_cons_succ, ← ih k (by omega)]
      have e3 : (hcl x).length = 3 := rfl
      rw [List.set_append_right _ _ (by omega), e3, show (k + 1) * 3 + 2 - 3 = k * 3 + 2 by omega]

theorem set_w (H : List Hp) (k : Nat) (p : Int) (_h : k < H.length) : (H.set k ⟨(H.getD k default).s, (H.getD k default).w, p⟩).map Hp.w = H.map Hp.w := by
  apply List.ext_getElem?
  intro i
  rw [List.getElem?_map, List.getElem?_map, List.getElem?_set]
  by_cases e : k = i
  · subst e
    rw [if_pos rfl, if_pos _h]
    simp [List.getD_eq_getElem?_getD, _h]
  · rw [if_neg e]

structure JW (w : World) (lb hb ab nb g cap : Nat) (lv : Value) (L : Nat) (s : Q) (H : List Hp) (u : World) : Prop where
  cl : u.cell? ⟨lb, 0, none⟩ = some lv
  ch : u.cell? ⟨hb, 0, none⟩ = some (.slice (some ⟨g, 0, none⟩) H.length cap)
  ca : u.cell? ⟨ab, 0, none⟩ = some (.int .i64 (s.a : Int))
  cn : u.cell? ⟨nb, 0, none⟩ = some (.int .i64 (s.b : Int))
  zh : u.frozen? ⟨hb, 0, none⟩ = false
  za : u.frozen? ⟨ab, 0, none⟩ = false
  zn : u.frozen? ⟨nb, 0, none⟩ = false
  own : u.ownsRow w.heap.size 81 3 (.slice (some ⟨g, 0, none⟩) H.length cap) H.length (H.flatMap hcl)
  hw : H.map Hp.w = s.W
  hp : ∀ j, j < s.q.length → (H.getD (s.q.getD j 0) default).p = ((L + j / 2 : Nat) : Int)
  gl : g ≠ lb
  gh : g ≠ hb
  ga : g ≠ ab
  gn : g ≠ nb
  lh : lb ≠ hb
  la : lb ≠ ab
  ln : lb ≠ nb
  ha : hb ≠ ab
  hn : hb ≠ nb
  an : ab ≠ nb
  l0 : w.heap.size ≤ lb
  h0 : w.heap.size ≤ hb
  a0 : w.heap.size ≤ ab
  n0 : w.heap.size ≤ nb
  bel : Below w.heap.size w u

variable {w u u' : World} {lb hb ab nb g cap L : Nat} {lv : Value} {s : Q} {H : List Hp}

theorem JW.kept (h : JW w lb hb ab nb g cap lv L s H u) (hb' : Below u.heap.size u u') : JW w lb hb ab nb g cap lv L s H u' := by
  have k1 := World.block_lt_of_cell? u _ h.cl
  have k2 := World.block_lt_of_cell? u _ h.ch
  have k3 := World.block_lt_of_cell? u _ h.ca
  have k4 := World.block_lt_of_cell? u _ h.cn
  exact { h with
    cl := by rw [hb'.cell (p := ⟨lb, 0, none⟩) k1]; exact h.cl
    ch := by rw [hb'.cell (p := ⟨hb, 0, none⟩) k2]; exact h.ch
    ca := by rw [hb'.cell (p := ⟨ab, 0, none⟩) k3]; exact h.ca
    cn := by rw [hb'.cell (p := ⟨nb, 0, none⟩) k4]; exact h.cn
    zh := by rw [hb'.frozen (p := ⟨hb, 0, none⟩) k2]; exact h.zh
    za := by rw [hb'.frozen (p := ⟨ab, 0, none⟩) k3]; exact h.za
    zn := by rw [hb'.frozen (p := ⟨nb, 0, none⟩) k4]; exact h.zn
    own := own_kept h.own hb'
    bel := h.bel.trans (hb'.mono h.bel.size) }

theorem JW.drewN (h : JW w lb hb ab nb g cap lv L s H u) (n : Nat) : JW w lb hb ab nb g cap lv L s H (u.drewN n) := h.kept ⟨rfl, rfl, rfl, Nat.le_refl _, fun _ _ => rfl⟩
theorem JW.drew (h : JW w lb hb ab nb g cap lv L s H u) : JW w lb hb ab nb g cap lv L s H u.drew := h.kept ((Below.refl _ _).drew)

theorem ne_addr {b b' o o' : Nat} (h : b ≠ b') : (⟨b, o, none⟩ : Addr) ≠ ⟨b', o', none⟩ := fun e => h (congrArg Addr.block e)

theorem JW.setA (h : JW w lb hb ab nb g cap lv L s H u) (x : Nat) : JW w lb hb ab nb g cap lv L { s with a := x } H (u.setCell ⟨ab, 0, none⟩ (.int .i64 (x : Int))) :=
  { h with
    cl := by rw [World.cell?_setCell_other _ _ _ _ (ne_addr h.la.symm)]; exact h.cl
    ch := by rw [World.cell?_setCell_other _ _ _ _ (ne_addr h.ha.symm)]; exact h.ch
    ca := World.cell?_setCell_same _ _ _ h.ca
    cn := by rw [World.cell?_setCell_other _ _ _ _ (ne_addr h.an)]; exact h.cn
    zh := by simpa using h.zh
    za := by simpa using h.za
    zn := by simpa using h.zn
    own := h.own.kept (grown_setCell _ ⟨ab, 0, none⟩ _) (.inr (by simp [Value.ownBlock]; exact h.ga))
    bel := h.bel.setCell h.a0 _ }

theorem JW.setN (h : JW w lb hb ab nb g cap lv L s H u) (x : Nat) : JW w lb hb ab nb g cap lv L { s with b := x } H (u.setCell ⟨nb, 0, none⟩ (.int .i64 (x : Int))) :=
  { h with
    cl := by rw [World.cell?_setCell_other _ _ _ _ (ne_addr h.ln.symm)]; exact h.cl
    ch := by rw [World.cell?_setCell_other _ _ _ _ (ne_addr h.hn.symm)]; exact h.ch
    ca := by rw [World.cell?_setCell_other _ _ _ _ (ne_addr h.an.symm)]; exact h.ca
    cn := World.cell?_setCell_same _ _ _ h.cn
    zh := by simpa using h.zh
    za := by simpa using h.za
    zn := by simpa using h.zn
    own := h.own.kept (grown_setCell _ ⟨nb, 0, none⟩ _) (.inr (by simp [Value.ownBlock]; exact h.gn))
    bel := h.bel.setCell h.n0 _ }

/-- A heap is told into which one it is put. -/
theorem JW.into (h : JW w lb hb ab nb g cap lv L s H u) {k : Nat} (hk : k < H.length) (p : Nat) (hq : k ∉ s.q) (hl : p = L + s.q.length / 2) :
    JW w lb hb ab nb g cap lv L { s with q := s.q ++ [k] } (H.set k ⟨(H.getD k default).s, (H.getD k default).w, (p : Int)⟩) (u.setCell ⟨g, k * 3 + 2, none⟩ (.int .i64 (p : Int))) :=
  { h with
    cl := by rw [World.cell?_setCell_other _ _ _ _ (ne_addr h.gl)]; exact h.cl
    ch := by rw [World.cell?_setCell_other _ _ _ _ (ne_addr h.gh), List.length_set]; exact h.ch
    ca := by rw [World.cell?_setCell_other _ _ _ _ (ne_addr h.ga)]; exact h.ca
    cn := by rw [World.cell?_setCell_other _ _ _ _ (ne_addr h.gn)]; exact h.cn
    zh := by simpa using h.zh
    za := by simpa using h.za
    zn := by simpa using h.zn
    own := by
      rw [List.length_set, ← hcl_set H k _ hk]
      exact (World.ownsRow.stored h.own (k * 3 + 2) (.int .i64 (p : Int))).1
    hw := by rw [set_w H k _ hk]; exact h.hw
    hp := by
      intro j hj
      simp only [List.length_append, List.length_cons, List.length_nil] at hj
      rw [getD_snoc]
      by_cases hjq : j < s.q.length
      · rw [if_pos hjq]
        have hne : k ≠ s.q.getD j 0 := fun e => hq (e ▸ getD_mem s.q j hjq)
        rw [List.getD_eq_getElem?_getD, List.getElem?_set, if_neg hne, ← List.getD_eq_getElem?_getD]
        exact h.hp j hjq
      · obtain rfl : j = s.q.length := by omega
        rw [if_neg (by omega), if_pos rfl, List.getD_eq_getElem?_getD, List.getElem?_set, if_pos rfl, if_pos hk]
        simp [hl]
    bel := h.bel.setCell (h.own.lt g rfl).1 _ }

theorem JW.li (h : JW w lb hb ab nb g cap lv L s H u) : LI nb ab lb hb g L s.a s.b H.length cap lv (fun k => s.W.getD k 0) u :=
  ⟨h.cn, h.ca, h.cl, h.ch, h.zn, h.za, fun k hk => by
    rw [h.own.cellAt (k * 3 + 1) (by omega), (hcl_at H k hk).2.1, ← h.hw]
    simp [List.getD_eq_getElem?_getD, hk]⟩

theorem JW.len (h : JW w lb hb ab nb g cap lv L s H u) : s.W.length = H.length := by rw [← h.hw, List.length_map]

theorem light_jw {la : Option Addr} {lcap : Nat} (h : JW w lb hb ab nb g cap (.slice la L lcap) L s H u) (hb' : s.b ≤ H.length) (hLT : L ≤ H.length) (hT : H.length ≤ 1000000) :
    Calls Tryz.prog 76 #[.pointer (some ⟨nb, 0, none⟩), .pointer (some ⟨ab, 0, none⟩), .pointer (some ⟨lb, 0, none⟩), .pointer (some ⟨hb, 0, none⟩)] u fun e u' =>
      e = .returned (.int .i64 (s.pk L : Int)) ∧ JW w lb hb ab nb g cap (.slice la L lcap) L { s.adv L with q := s.q } H u' ∧ Kp (fun k => k = ab ∨ k = nb) u u' := by
  refine (light_any nb ab lb hb g L s.a s.b H.length cap lcap la _ u h.li hb' hLT hT).mono ?_
  rintro e u' ⟨h1, h2⟩
  unfold Q.pk Q.adv Q.pick
  rw [h.len]
  cases hp : pickB L s.a s.b H.length (fun k => s.W.getD k 0) with
  | true =>
    obtain ⟨rfl, n, rfl⟩ := h1 hp
    refine ⟨rfl, ?_, (Kp.setCell (X := fun k => k = ab ∨ k = nb) (Kp.refl _ u) (p := ⟨ab, 0, none⟩) (.inl (.inl rfl)) _).drewN n⟩
    have := (h.drewN n).setA (s.a + 1)
    rw [show ((s.a + 1 : Nat) : Int) = (s.a : Int) + 1 by omega] at this
    exact this
  | false =>
    obtain ⟨rfl, n, rfl⟩ := h2 hp
    refine ⟨rfl, ?_, (Kp.setCell (X := fun k => k = ab ∨ k = nb) (Kp.refl _ u) (p := ⟨nb, 0, none⟩) (.inl (.inr rfl)) _).drewN n⟩
    have := (h.drewN n).setN (s.b + 1)
    rw [show ((s.b + 1 : Nat) : Int) = (s.b : Int) + 1 by omega] at this
    exact this


/-- The start: two counters laid behind a world that has both rows. -/
theorem JW.start {u1 u2 : World} {v : Value} {L cap g x y : Nat} {W : List Int} {ys : List Hp} (h2 : u2 = u1.alloc (.cells #[.slice (some ⟨g, 0, none⟩) L cap] 77)) (hown : u1.ownsRow (w.heap.size + 1) 81 3 (.slice (some ⟨g, 0, none⟩) L cap) L (ys.flatMap hcl))
    (hb1 : Below (w.alloc (.cells #[v] 77)).heap.size (w.alloc (.cells #[v] 77)) u1) (hL : ys.length = L) (hW : W = ys.map Hp.w) (ab nb : Nat) (hxy : (ab = u2.heap.size ∧ nb = u2.heap.size + 1 ∧ x = 0 ∧ y = L) ∨ (nb = u2.heap.size ∧ ab = u2.heap.size + 1 ∧ x = L ∧ y = 0)) :
    JW w w.heap.size u1.heap.size ab nb g cap v L (Q.start W) ys (((u2.alloc (.cells #[.int .i64 (x : Int)] 3)).alloc (.cells #[.int .i64 (y : Int)] 3)).drew) := by
  have hs1 : w.heap.size < u1.heap.size := by have := hb1.size; simp at this; omega
  have hs2 : u2.heap.size = u1.heap.size + 1 := by rw [h2]; simp
  have hg := hown.lt g rfl
  have hWl : W.length = L := by rw [hW, List.length_map, hL]
  have cu : ∀ b o, b < u1.heap.size → (((u2.alloc (.cells #[.int .i64 (x : Int)] 3)).alloc (.cells #[.int .i64 (y : Int)] 3)).drew).cell? ⟨b, o, none⟩ = u1.cell? ⟨b, o, none⟩ := fun b o hb => by
    show ((u2.alloc _).alloc _).cell? _ = _
    rw [cell_old _ _ _ _ (by simp; omega), cell_old _ _ _ _ (by omega), h2, cell_old _ _ _ _ hb]
  have c2 : (((u2.alloc (.cells #[.int .i64 (x : Int)] 3)).alloc (.cells #[.int .i64 (y : Int)] 3)).drew).cell? ⟨u1.heap.size, 0, none⟩ = some (.slice (some ⟨g, 0, none⟩) L cap) := by
    show ((u2.alloc _).alloc _).cell? _ = _
    rw [cell_old _ _ _ _ (by simp; omega), cell_old _ _ _ _ (by omega), h2, cell_new _ _ _ _ _ rfl]; rfl
  have z2 : (((u2.alloc (.cells #[.int .i64 (x : Int)] 3)).alloc (.cells #[.int .i64 (y : Int)] 3)).drew).frozen? ⟨u1.heap.size, 0, none⟩ = false := by
    show ((u2.alloc _).alloc _).frozen? _ = _
    rw [frozen_old _ _ _ _ (by simp; omega), frozen_old _ _ _ _ (by omega), h2, frozen_new _ _ _ _ _ rfl]
  have c3 : (((u2.alloc (.cells #[.int .i64 (x : Int)] 3)).alloc (.cells #[.int .i64 (y : Int)] 3)).drew).cell? ⟨u2.heap.size, 0, none⟩ = some (.int .i64 (x : Int)) := by
    show ((u2.alloc _).alloc _).cell? _ = _
    rw [cell_old _ _ _ _ (by simp), cell_new _ _ _ _ _ rfl]; rfl
  have z3 : (((u2.alloc (.cells #[.int .i64 (x : Int)] 3)).alloc (.cells #[.int .i64 (y : Int)] 3)).drew).frozen? ⟨u2.heap.size, 0, none⟩ = false := by
    show ((u2.alloc _).alloc _).frozen? _ = _
    rw [frozen_old _ _ _ _ (by simp), frozen_new _ _ _ _ _ rfl]
  have c4 : (((u2.alloc (.cells #[.int .i64 (x : Int)] 3)).alloc (.cells #[.int .i64 (y : Int)] 3)).drew).cell? ⟨u2.heap.size + 1, 0, none⟩ = some (.int .i64 (y : Int)) := by
    show ((u2.alloc _).alloc _).cell? _ = _
    rw [cell_new _ _ _ _ _ (by simp)]; rfl
  have z4 : (((u2.alloc (.cells #[.int .i64 (x : Int)] 3)).alloc (.cells #[.int .i64 (y : Int)] 3)).drew).frozen? ⟨u2.heap.size + 1, 0, none⟩ = false := by
    show ((u2.alloc _).alloc _).frozen? _ = _
    rw [frozen_new _ _ _ _ _ (by simp)]
  have hB1 : Below w.heap.size w u1 := ((Below.refl _ _).alloc (Nat.le_refl _) _).trans (hb1.mono (by simp))
  have hB2 : Below w.heap.size w (((u2.alloc (.cells #[.int .i64 (x : Int)] 3)).alloc (.cells #[.int .i64 (y : Int)] 3)).drew) := by
    rw [h2]
    exact (((hB1.alloc (by omega) _).alloc (by simp; omega) _).alloc (by simp; omega) _).drew
  have hlv : u1.cell? ⟨w.heap.size, 0, none⟩ = some v := by rw [hb1.cell (p := ⟨w.heap.size, 0, none⟩) (by simp)]; simp
  have hO : (((u2.alloc (.cells #[.int .i64 (x : Int)] 3)).alloc (.cells #[.int .i64 (y : Int)] 3)).drew).ownsRow w.heap.size 81 3 (.slice (some ⟨g, 0, none⟩) ys.length cap) ys.length (ys.flatMap hcl) := by
    rw [hL, h2]
    exact own_mono (((hown.alloc _).alloc _).alloc _) (by omega)
  exact {
    cl := by rw [cu _ _ hs1]; exact hlv
    ch := by rw [hL]; exact c2
    ca := by
      rcases hxy with ⟨e1, -, e3, -⟩ | ⟨-, e2, -, e4⟩
      · rw [e1, c3, e3]; rfl
      · rw [e2, c4, e4]; rfl
    cn := by
      rcases hxy with ⟨-, e2, -, e4⟩ | ⟨e1, -, e3, -⟩
      · rw [e2, c4, e4, ← hWl]; rfl
      · rw [e1, c3, e3, ← hWl]; rfl
    zh := z2
    za := by
      rcases hxy with ⟨e1, -, e3, -⟩ | ⟨-, e2, -, e4⟩
      · rw [e1]; exact z3
      · rw [e2]; exact z4
    zn := by
      rcases hxy with ⟨-, e2, -, e4⟩ | ⟨e1, -, e3, -⟩
      · rw [e2]; exact z4
      · rw [e1]; exact z3
    own := hO
    hw := hW.symm
    hp := fun j hj => by simp [Q.start] at hj
    gl := by omega
    gh := by omega
    ga := by omega
    gn := by omega
    lh := by omega
    la := by omega
    ln := by omega
    ha := by omega
    hn := by omega
    an := by omega
    l0 := Nat.le_refl _
    h0 := by omega
    a0 := by omega
    n0 := by omega
    bel := hB2 }

/-- The cells of the heap that is being put together. -/
structure Bo (kb : Nat) (x : Int) (u : World) : Prop where
  c0 : u.cell? ⟨kb, 0, none⟩ = some (.int .i64 0)
  c1 : u.cell? ⟨kb, 1, none⟩ = some (.int .i64 x)
  c2 : u.cell? ⟨kb, 2, none⟩ = some (.int .i64 0)
  z1 : u.frozen? ⟨kb, 1, none⟩ = false

theorem Bo.kp {X : Nat → Prop} {kb : Nat} {x : Int} (h : Bo kb x u) (hk : Kp X u u') (hx : ¬ X kb) : Bo kb x u' := by
  have hl := World.block_lt_of_cell? u _ h.c0
  exact ⟨by rw [hk.cell (p := ⟨kb, 0, none⟩) hl hx]; exact h.c0, by rw [hk.cell (p := ⟨kb, 1, none⟩) hl hx]; exact h.c1, by rw [hk.cell (p := ⟨kb, 2, none⟩) hl hx]; exact h.c2, by rw [hk.frozen (p := ⟨kb, 1, none⟩) hl hx]; exact h.z1⟩

theorem Bo.set {kb : Nat} {x : Int} (h : Bo kb x u) (y : Int) : Bo kb y (u.setCell ⟨kb, 1, none⟩ (.int .i64 y)) :=
  ⟨by rw [World.cell?_setCell_other _ _ _ _ (fun e => by have := congrArg Addr.off e; simp at this)]; exact h.c0, World.cell?_setCell_same _ _ _ h.c1, by rw [World.cell?_setCell_other _ _ _ _ (fun e => by have := congrArg Addr.off e; simp at this)]; exact h.c2, by simpa using h.z1⟩

/-- A store into a block that is none of these. -/
theorem JW.other (h : JW w lb hb ab nb g cap lv L s H u) {p : Addr} (v : Value) (h0 : w.heap.size ≤ p.block) (h1 : p.block ≠ lb) (h2 : p.block ≠ hb) (h3 : p.block ≠ ab) (h4 : p.block ≠ nb) (h5 : p.block ≠ g) : JW w lb hb ab nb g cap lv L s H (u.setCell p v) :=
  { h with
    cl := by rw [World.cell?_setCell_other _ _ _ _ (fun e => h1 (congrArg Addr.block e))]; exact h.cl
    ch := by rw [World.cell?_setCell_other _ _ _ _ (fun e => h2 (congrArg Addr.block e))]; exact h.ch
    ca := by rw [World.cell?_setCell_other _ _ _ _ (fun e => h3 (congrArg Addr.block e))]; exact h.ca
    cn := by rw [World.cell?_setCell_other _ _ _ _ (fun e => h4 (congrArg Addr.block e))]; exact h.cn
    zh := by simpa using h.zh
    za := by simpa using h.za
    zn := by simpa using h.zn
    own := h.own.kept (grown_setCell _ p _) (.inr (by simp [Value.ownBlock]; exact fun e => h5 e.symm))
    bel := h.bel.setCell h0 _ }

/-- A heap more. -/
theorem JW.more {cap' g' : Nat} {o : Obj} {x : Int} (h : JW w lb hb ab nb g cap lv L s H u) (hown : u'.ownsRow w.heap.size 81 3 (.slice (some ⟨g', 0, none⟩) (H.length + 1) cap') (H.length + 1) (H.flatMap hcl ++ [.int .i64 0, .int .i64 x, .int .i64 0])) (hgrow : (u.alloc o).grownBy u' (some g)) (hat : g' = g ∨ g' = u.heap.size + 1) (hx : ∀ j, j < s.q.length → s.q.getD j 0 < H.length) :
    JW w lb hb ab nb g' cap' lv L { s with W := s.W ++ [x] } (H ++ [⟨0, x, 0⟩]) (u'.setCell ⟨hb, 0, none⟩ (.slice (some ⟨g', 0, none⟩) (H.length + 1) cap')) ∧ u'.cell? ⟨hb, 0, none⟩ = some (.slice (some ⟨g, 0, none⟩) H.length cap) ∧ u'.frozen? ⟨hb, 0, none⟩ = false := by
  have k1 := World.block_lt_of_cell? u _ h.cl
  have k2 := World.block_lt_of_cell? u _ h.ch
  have k3 := World.block_lt_of_cell? u _ h.ca
  have k4 := World.block_lt_of_cell? u _ h.cn
  simp only at k1 k2 k3 k4
  have far : ∀ b i, b < u.heap.size → b ≠ g → u'.cell? ⟨b, i, none⟩ = u.cell? ⟨b, i, none⟩ ∧ u'.frozen? ⟨b, i, none⟩ = u.frozen? ⟨b, i, none⟩ := by
    intro b i hb hne
    have hbl : u'.heap[b]? = u.heap[b]? := by
      rw [hgrow.block b (by simp; omega) (by simpa using hne)]; exact Below.heap_alloc _ _ _ hb
    exact ⟨World.cell?_of_block (w := u) (a := ⟨b, i, none⟩) hbl, World.frozen?_of_block (w := u) (a := ⟨b, i, none⟩) hbl⟩
  have fl := far lb 0 k1 h.gl.symm
  have fh := far hb 0 k2 h.gh.symm
  have fa := far ab 0 k3 h.ga.symm
  have fn := far nb 0 k4 h.gn.symm
  have gl := h.gl; have gh := h.gh; have ga := h.ga; have gn := h.gn
  have hlw := h.l0; have hhw := h.h0
  have hgw := (h.own.lt g rfl).1
  have hlh := h.lh
  refine ⟨?_, by rw [fh.1]; exact h.ch, by rw [fh.2]; exact h.zh⟩
  exact { h with
    cl := by rw [World.cell?_setCell_other _ _ _ _ (ne_addr hlh.symm), fl.1]; exact h.cl
    ch := by rw [World.cell?_setCell_same _ _ _ (by rw [fh.1]; exact h.ch)]; simp
    ca := by rw [World.cell?_setCell_other _ _ _ _ (ne_addr h.ha), fa.1]; exact h.ca
    cn := by rw [World.cell?_setCell_other _ _ _ _ (ne_addr h.hn), fn.1]; exact h.cn
    zh := by rw [World.frozen?_setCell, fh.2]; exact h.zh
    za := by rw [World.frozen?_setCell, fa.2]; exact h.za
    zn := by rw [World.frozen?_setCell, fn.2]; exact h.zn
    own := by
      have : (H ++ [(⟨0, x, 0⟩ : Hp)]).flatMap hcl = H.flatMap hcl ++ [.int .i64 0, .int .i64 x, .int .i64 0] := by rw [List.flatMap_append]; rfl
      rw [this, List.length_append]
      exact hown.kept (grown_setCell _ ⟨hb, 0, none⟩ _) (.inr (by simp [Value.ownBlock]; omega))
    hw := by rw [List.map_append, h.hw]; rfl
    hp := by
      intro j hj
      have := hx j hj
      rw [List.getD_eq_getElem?_getD, List.getElem?_append_left this, ← List.getD_eq_getElem?_getD]
      exact h.hp j hj
    gl := by omega
    gh := by omega
    ga := by omega
    gn := by omega
    bel := (Below.grown (h.bel.alloc h.bel.size o) hgrow (by have := h.bel.size; simp; omega) (fun k hk => by simp at hk; omega)).setCell h.h0 _ }

end Go.Proofs.YtdidoecigkbffaaGreat
