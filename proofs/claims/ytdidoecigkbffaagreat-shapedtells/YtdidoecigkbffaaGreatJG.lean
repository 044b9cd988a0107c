/- The contract of depthsOf. -/
import Derived.Test.YtdidoecigkbffaaGreatJF
set_option maxRecDepth 100000
namespace Go.Proofs.YtdidoecigkbffaaGreat
open Go.RowKit
open S J

/-- How deep heap k lies. -/
def belF (W : List Int) : Nat → Nat → Nat
  | 0, _ => 0
  | n + 1, k => if k < 2 * (W.length - 1) then belF W n (par W k) + 1 else 0
def bel (W : List Int) (k : Nat) : Nat := belF W (2 * W.length) k

theorem belF_more (W : List Int) (h : 0 < W.length) : ∀ n k, 2 * W.length - k ≤ n → belF W n k = belF W (n + 1) k := by
  intro n
  induction n with
  | zero =>
    intro k hk
    show 0 = if k < 2 * (W.length - 1) then _ else 0
    rw [if_neg (by omega)]
  | succ n ih =>
    intro k hk
    show (if k < 2 * (W.length - 1) then belF W n (par W k) + 1 else 0) = if k < 2 * (W.length - 1) then belF W (n + 1) (par W k) + 1 else 0
    by_cases e : k < 2 * (W.length - 1)
    · rw [if_pos e, if_pos e, ih (par W k) (by have := par_lt h e; omega)]
    · rw [if_neg e, if_neg e]

theorem belF_enough (W : List Int) (h : 0 < W.length) (k : Nat) : ∀ m n, 2 * W.length - k ≤ n → belF W n k = belF W (n + m) k := by
  intro m
  induction m with
  | zero => intro n _; rfl
  | succ m ih => intro n hn; rw [ih n hn, belF_more W h (n + m) k (by omega)]; rfl

theorem bel_ok (W : List Int) (h : 0 < W.length) : Bel W (bel W) := by
  obtain ⟨n, hn⟩ : ∃ n, 2 * W.length = n + 1 := ⟨2 * W.length - 1, by omega⟩
  constructor
  · unfold bel; rw [hn]
    show (if _ < _ then _ else 0) = 0
    rw [if_neg (by omega)]
  · intro k hk
    unfold bel
    rw [hn]
    show (if k < 2 * (W.length - 1) then belF W n (par W k) + 1 else 0) = _
    rw [if_pos hk, belF_more W h n (par W k) (by have := par_lt h hk; omega)]

/-- The depth of symbol c, of the first k heaps. -/
def depN (ys : List Hp) (b : Nat → Nat) : Nat → Nat → Nat
  | 0, _ => 0
  | k + 1, c => if (c : Int) = (ys.getD k default).s then b k else depN ys b k c

/-- A row of numbers of the call's own. -/
structure DI (w : World) (D n : Nat) (d : Nat → Int) (u : World) : Prop where
  cell : ∀ i, i < n → u.cell? ⟨D, i, none⟩ = some (.int .i64 (d i))
  frz : ∀ i, i < n → u.frozen? ⟨D, i, none⟩ = false
  lo : w.heap.size ≤ D
  hi : D < u.heap.size
  bel : Below w.heap.size w u

variable {w u u' : World} {D n : Nat} {d : Nat → Int}

theorem DI.kept (h : DI w D n d u) (hb : Below u.heap.size u u') : DI w D n d u' :=
  ⟨fun i hi => by rw [hb.cell (p := ⟨D, i, none⟩) h.hi]; exact h.cell i hi, fun i hi => by rw [hb.frozen (p := ⟨D, i, none⟩) h.hi]; exact h.frz i hi, h.lo, Nat.lt_of_lt_of_le h.hi hb.size, h.bel.trans (hb.mono h.bel.size)⟩
theorem DI.drew (h : DI w D n d u) : DI w D n d u.drew := h.kept ((Below.refl _ _).drew)
theorem DI.set (h : DI w D n d u) {i : Nat} (_hi : i < n) (x : Int) : DI w D n (fun k => if k = i then x else d k) (u.setCell ⟨D, i, none⟩ (.int .i64 x)) := by
  refine ⟨fun k hk => ?_, fun k hk => by simpa using h.frz k hk, h.lo, by simpa using h.hi, h.bel.setCell h.lo _⟩
  rw [cell_set _ _ _ _ _ _ (h.cell k hk)]
  by_cases e : k = i
  · simp [e]
  · simp [e]
theorem DI.other (h : DI w D n d u) {p : Addr} (hp : w.heap.size ≤ p.block) (hne : p.block ≠ D) (v : Value) : DI w D n d (u.setCell p v) :=
  ⟨fun i hi => by rw [World.cell?_setCell_other _ _ _ _ (fun e => hne (congrArg Addr.block e))]; exact h.cell i hi, fun i hi => by simpa using h.frz i hi, h.lo, by simpa using h.hi, h.bel.setCell hp _⟩

theorem madeInt (n : Nat) : ∀ i, i < n → (madeCells #[Value.int .i64 0] n).toList[i]? = some (.int .i64 0) := by
  intro i hi
  simp [madeCells, hi, Nat.mod_one]

theorem DI.made {w1 : World} (hb : Below w.heap.size w w1) (hown : u.ownsRow w1.heap.size 3 1 (.slice (some ⟨w1.heap.size, 0, none⟩) n n) n (madeCells #[Value.int .i64 0] n).toList) (hgrow : w1.grownBy u none) : DI w w1.heap.size n (fun _ => 0) u := by
  have hg := hown.lt w1.heap.size rfl
  refine ⟨fun i hi => ?_, fun i _ => hown.frozenAt i, hb.size, hg.2, hb.trans ((below_grown hgrow).mono hb.size)⟩
  rw [hown.cellAt i (by omega)]
  exact madeInt n i hi

theorem DI.congr {d' : Nat → Int} (h : DI w D n d u) (hd : ∀ i, i < n → d i = d' i) : DI w D n d' u := { h with cell := fun i hi => by rw [← hd i hi]; exact h.cell i hi }

theorem HRow.other {base : Nat} {u : World} {v : Value} {ys : List Hp} (h : HRow base u v ys) {p : Addr} (hp : p.block < base) (x : Value) : HRow base (u.setCell p x) v ys := by
  rcases h with h | ⟨g, cap, h1, h2, h3, h4, h5, h6⟩
  · exact .inl h
  · refine .inr ⟨g, cap, h1, h2, h3, h4, h5, fun i hi => ?_⟩
    have hne : ∀ o, p ≠ ⟨g, o, none⟩ := fun o e => by rw [e] at hp; simp only at hp; omega
    obtain ⟨a, b, c⟩ := h6 i hi
    exact ⟨by rw [World.cell?_setCell_other _ _ _ _ (hne _)]; exact a, by rw [World.cell?_setCell_other _ _ _ _ (hne _)]; exact b, by rw [World.cell?_setCell_other _ _ _ _ (hne _)]; exact c⟩

theorem HRow.kp {base : Nat} {X : Nat → Prop} {u u' : World} {v : Value} {ys : List Hp} (h : HRow base u v ys) (hk : Kp X u u') (hx : ∀ g, v.ownBlock = some g → ¬ X g) : HRow base u' v ys := by
  rcases h with h | ⟨g, cap, h1, h2, h3, h4, h5, h6⟩
  · exact .inl h
  · refine .inr ⟨g, cap, h1, h2, h3, h4, h5, fun i hi => ?_⟩
    have hng := hx g (by rw [h1]; rfl)
    obtain ⟨a, b, c⟩ := h6 i hi
    have hl := World.block_lt_of_cell? u _ a
    exact ⟨by rw [hk.cell (p := ⟨g, i * 3, none⟩) hl hng]; exact a, by rw [hk.cell (p := ⟨g, i * 3 + 1, none⟩) hl hng]; exact b, by rw [hk.cell (p := ⟨g, i * 3 + 2, none⟩) hl hng]; exact c⟩

def DepEnd (w : World) (xs : List Int) (e : Ending) (u : World) : Prop :=
  ∃ (D : Nat) (ys : List Hp), e = .returned (.slice (some ⟨D, 0, none⟩) xs.length xs.length) ∧ Same Hp.w (loneL xs xs.length) ys ∧ ys.Pairwise (fun a b => a.w ≤ b.w) ∧ DI w D xs.length (fun c => (depN ys (bel (ys.map Hp.w)) ys.length c : Nat)) u

theorem same_perm {α : Type} {κ : α → Int} {xs ys : List α} (h : Same κ xs ys) : xs.Perm ys := by
  classical
  rw [List.perm_iff_count]
  intro a
  rw [← List.count_filter (p := fun x => decide (κ x = κ a)) (by simp), h (κ a), List.count_filter (by simp)]

theorem loneL_sym {xs : List Int} {k : Nat} {x : Hp} (h : x ∈ loneL xs k) : 0 ≤ x.s ∧ x.s < k := by
  unfold loneL at h
  obtain ⟨c, hc, rfl⟩ := List.mem_map.1 h
  have := List.mem_range.1 (List.mem_filter.1 hc).1
  show 0 ≤ (c : Int) ∧ (c : Int) < k
  omega

/-- What of a row of heaps is read: the symbols. -/
structure SY (w : World) (v : Value) (ys : List Hp) (n : Nat) (u : World) : Prop where
  row : HRow w.heap.size u v ys
  sym : ∀ y ∈ ys, 0 ≤ y.s ∧ y.s < n

set_option maxHeartbeats 4000000 in
/-- The second loop: each symbol is told its depth. -/
theorem depths_any (A : Option Addr) (n c : Nat) (xs : List Int) (w : World) (hx : NumsAt .i64 w A xs) (hl : xs.length = n) (hn : n ≤ 39) :
    Calls Tryz.prog 33 #[.slice A n c] w (DepEnd w xs) := by
  have HX := Lib.hid (And.intro hx hl)
  clear hx hl
  obtain ⟨i0, hi, hz0, hz1, hz2⟩ := info_parts info3
  go_enter Tryz.func33, Tryz.ntmps33
  go_wp2_with (first | (at_make; refine wpList_make_full _ rfl _ _ 22 rfl w.heap.size 3 i0 (.int .i64 0) 1 Tryz.underlying22 hi hz0 hz1 _ _ _ _ n rfl rfl rfl rfl ?b2 ?b3 (Nat.le_refl _) ?_))
  case b2 => rw [hz2]; omega
  case b3 => unfold maxLen; omega
  intro w1 hown hgrow
  have hD := DI.made (Below.refl w.heap.size w) hown hgrow
  have HD := Lib.hid hD
  have HW1 := Lib.hid (show w.heap.size < w1.heap.size from HD.out.hi)
  clear hown hgrow hD
  go_wp2_with fail
  refine (lone_any A n c xs _ (HX.out.1.kept HD.out.bel) HX.out.2 hn).mono ?_
  rintro e w2 ⟨lv, ys, rfl, hrow, hsame, hpw, hb2⟩
  have hperm := same_perm hsame
  have hlen : ys.length ≤ n := by have := hperm.length_eq; have := loneL_length xs xs.length; have := HX.out.2; omega
  have hsy : ∀ y ∈ ys, 0 ≤ y.s ∧ y.s < n := fun y hy => by
    have := loneL_sym (hperm.mem_iff.2 hy); have := HX.out.2; omega
  have hwt : ∀ y ∈ ys, 0 < y.w ∧ y.w ≤ big := fun y hy => loneL_mem (hperm.mem_iff.2 hy)
  have HS := Lib.hid (And.intro hsame (And.intro hpw hsy))
  have HD2 := Lib.hid (HD.out.kept hb2)
  have HR := Lib.hid hrow
  clear hrow hsame hpw hb2 hperm hsy HD
  by_cases he : ys = []
  · subst he
    obtain rfl : lv = .slice none 0 0 := by
      rcases HR.out with h | ⟨g, cap, -, -, h, -⟩
      · exact h.1
      · simp at h
    go_wp2_with fail
    refine (joined_nil _).mono ?_
    rintro e w3 ⟨rfl, hb3⟩
    have HD3 := Lib.hid (HD2.out.kept hb3)
    clear hb3
    go_wp2_with (first | (at_make; refine wpList_make_full _ rfl _ _ 22 rfl w3.heap.size 3 i0 (.int .i64 0) 1 Tryz.underlying22 hi hz0 hz1 _ _ _ _ 0 rfl rfl rfl rfl ?d2 ?d3 (Nat.le_refl _) ?_))
    case d2 => omega
    case d3 => omega
    intro w4 hown hgrow
    have HD4 := Lib.hid (HD3.out.kept (below_grown hgrow))
    clear hown hgrow
    go_wp2
    go_loopw [7] (fun v7 wr => v7 = .int .i64 (-2) ∧ wr = w4) (fun _ _ => 0)
    case atStart => exact ⟨rfl, rfl⟩
    case round =>
      obtain ⟨rfl, rfl⟩ := hrel
      go_wp2
      go_loopw [8, 9, 41] (fun _ _ v41 wq => v41 = .int .i64 0 ∧ wq = wr) (fun _ _ _ _ => 0)
      case atStart => exact ⟨rfl, rfl⟩
      case round =>
        obtain ⟨rfl, rfl⟩ := hrel
        go_wp2
        go_ret
        exact ⟨w.heap.size, [], by rw [HX.out.2]; rfl, HS.out.1, HS.out.2.1, by rw [HX.out.2]; exact HD4.out⟩
  · have hpos : 0 < ys.length := List.length_pos_iff.2 he
    go_wp2_with fail
    refine (joined_any _ _ _ ys HR.out hpos (by omega) hwt).mono ?_
    rintro e w3 ⟨g, cap, rfl, hpar, hg, hb3⟩
    obtain ⟨L, hL⟩ : ∃ L, L = ys.length := ⟨_, rfl⟩
    obtain ⟨W, hW⟩ : ∃ W, W = ys.map Hp.w := ⟨_, rfl⟩
    have hWL : W.length = L := by rw [hW, List.length_map, hL]
    obtain ⟨T, hT⟩ : ∃ T, T = 2 * L - 1 := ⟨_, rfl⟩
    rw [← hW, hWL] at hpar
    rw [← hL] at hpos hlen
    rw [← hW, hWL, ← hT]
    have hBel := bel_ok W (by omega)
    have HD3 := Lib.hid (HD2.out.kept hb3)
    have HR3 := Lib.hid (HR.out.kept hb3)
    have HP := Lib.hid (And.intro hpar (And.intro hBel (And.intro hL (And.intro hW (And.intro hWL (And.intro hT hg))))))
    have hlow : w.heap.size < w2.heap.size := HD2.out.hi
    have HT := Lib.hid hT
    have hT2 : T ≤ 100 := by omega
    clear hpar hBel hL hW hWL hg hb3 HD2 HR hwt he hT
    go_wp2_with (first | (at_make; refine wpList_make_full _ rfl _ _ 22 rfl w3.heap.size 3 i0 (.int .i64 0) 1 Tryz.underlying22 hi hz0 hz1 _ _ _ _ T rfl rfl rfl rfl ?e2 ?e3 (Nat.le_refl _) ?_))
    case e2 => rw [hz2]; omega
    case e3 => unfold maxLen; omega
    intro w4 hown hgrow
    have hB := DI.made HD3.out.bel hown hgrow
    have hb34 := below_grown hgrow
    have hDB : w.heap.size ≠ w3.heap.size := by have := HD3.out.hi; omega
    have HB := Lib.hid (And.intro hB (And.intro (HD3.out.kept hb34) (And.intro (HR3.out.kept hb34) hb34)))
    clear hown hgrow hB hb34 hi hz0 hz1 hz2 HD3
    obtain ⟨B, hBe⟩ : ∃ B, B = w3.heap.size := ⟨_, rfl⟩
    rw [← hBe] at HB hDB
    have hpc : ∀ k, k < 2 * (L - 1) → w4.cell? ⟨g, k * 3 + 2, none⟩ = some (.int .i64 (par W k : Nat)) ∧ g ≠ B := fun k hk => by
      have h1 := HP.out.1 k hk
      have h2 := World.block_lt_of_cell? w3 _ h1
      simp only at h2
      exact ⟨by rw [HB.out.2.2.2.cell (p := ⟨g, k * 3 + 2, none⟩) (by rw [hBe]; exact h2)]; exact h1, by omega⟩
    have HPC := Lib.hid hpc
    clear hpc
    have hT1 : 1 ≤ T := by have := HT.out; omega
    rw [← hBe]
    have HBE := Lib.hid hBe
    clear hBe
    go_wp2
    go_loopw [7] (fun v7 wr => ∃ m : Nat, m ≤ T - 1 ∧ v7 = .int .i64 ((m : Int) - 1) ∧ DI w B T (fun i => if m ≤ i then (bel W i : Int) else 0) wr ∧ Kp (fun b => b = B) w4 wr) (fun v7 _ => (intOf v7 + 1).toNat)
    case atStart =>
      refine ⟨T - 1, Nat.le_refl _, by go_num, HB.out.1.congr fun i hi => ?_, Kp.refl _ _⟩
      split
      · have h1 := HP.out.2.1.top
        rw [HP.out.2.2.2.2.1, show 2 * (L - 1) = i by have := HT.out; omega] at h1
        rw [h1]; rfl
      · rfl
    case round =>
      obtain ⟨m, hm, rfl, hB, hK⟩ := hrel
      by_cases hm0 : 0 < m
      · obtain ⟨k, rfl⟩ : ∃ k, m = k + 1 := ⟨m - 1, by omega⟩
        have hTe := HT.out
        have hp := par_lt (W := W) (by rw [HP.out.2.2.2.2.1]; omega) (show k < 2 * (W.length - 1) by rw [HP.out.2.2.2.2.1]; omega)
        rw [HP.out.2.2.2.2.1] at hp
        obtain ⟨c1, hgB⟩ := HPC.out k (by omega)
        have hgl := World.block_lt_of_cell? w4 _ c1
        have c2 : wr.cell? ⟨g, k * 3 + 2, none⟩ = some (.int .i64 (par W k : Nat)) := by rw [hK.cell (p := ⟨g, k * 3 + 2, none⟩) hgl hgB]; exact c1
        have c3 := hB.cell (par W k) (by omega)
        rw [if_pos (by omega)] at c3
        have c4 := hB.cell k (by omega)
        have z4 := hB.frz k (by omega)
        have hup := HP.out.2.1.up k (by rw [HP.out.2.2.2.2.1]; omega)
        have hsm := HP.out.2.1.deep (by rw [HP.out.2.2.2.2.1]; omega) (2 * W.length) (par W k) (by omega) (by rw [HP.out.2.2.2.2.1]; omega)
        rw [HP.out.2.2.2.2.1] at hsm
        have hset := hB.set (show k < T by omega) ((bel W (par W k) : Int) + 1)
        have HS2 := Lib.hid (And.intro hset (And.intro hup (Kp.setCell hK (p := ⟨B, k, none⟩) (.inl rfl) (.int .i64 ((bel W (par W k) : Int) + 1)))))
        have hpT : par W k < T := by omega
        have hkT : k < T := by omega
        clear hB hK hset hup c1 hgl hTe
        generalize par W k = p at *
        generalize bel W p = bb at *
        have q1 : (0 : Int) ≤ ((k + 1 : Nat) : Int) - 1 := by omega
        have q2 : ((k + 1 : Nat) : Int) - 1 = (k : Int) := by omega
        have q3 : (k : Int) < (T : Int) := by omega
        have q4 : (p : Int) < (T : Int) := by omega
        have q5 : (0 : Int) ≤ (p : Int) := by omega
        rw [q2]
        clear q1 q2
        have q7 : (0 : Int) ≤ (k : Int) := by omega
        go_wp2
        go_roundw
        case rel =>
          obtain ⟨h1, h2, h3⟩ := HS2.out
          refine ⟨k, by omega, by go_num, h1.congr fun i hi => ?_, h3⟩
          by_cases e : i = k
          · subst e; rw [if_pos rfl, if_pos (Nat.le_refl _), h2]; omega
          · rw [if_neg e]
            by_cases e2 : k + 1 ≤ i
            · rw [if_pos e2, if_pos (by omega)]
            · rw [if_neg e2, if_neg (by omega)]
        case measure => simp [intOf]
      · obtain rfl : m = 0 := by omega
        have hB2 := hB.congr (d' := fun i => (bel W i : Int)) fun i _ => if_pos (Nat.zero_le _)
        rcases HR3.out with ⟨-, h2⟩ | ⟨gl, lcap, rfl, hgl, hyp, -, -, h6⟩
        · exfalso; have := HP.out.2.2.1; rw [h2] at this; simp at this; omega
        · have hglB : gl ≠ B := by
            have := World.block_lt_of_cell? w3 _ (h6 0 hyp).1
            have := HBE.out
            simp only at *
            omega
          clear h6 hyp
          have hRw : HRow w1.heap.size wr (.slice (some ⟨gl, 0, none⟩) ys.length lcap) ys := HB.out.2.2.1.kp hK (fun g hg => by simp [Value.ownBlock] at hg; omega)
          have hD5 : DI w w.heap.size n (fun _ => 0) wr := by
            have := HB.out.2.1
            exact ⟨fun i hi => by rw [hK.cell (p := ⟨w.heap.size, i, none⟩) this.hi hDB]; exact this.cell i hi, fun i hi => by rw [hK.frozen (p := ⟨w.heap.size, i, none⟩) this.hi hDB]; exact this.frz i hi, this.lo, Nat.lt_of_lt_of_le this.hi hK.size, hB.bel⟩
          have HZ := Lib.hid (And.intro hB2 (And.intro hRw hD5))
          have hLy := HP.out.2.2.1
          rw [← hLy]
          have HLY := Lib.hid hLy
          clear hB hK hB2 hRw hD5 HB HPC HR3 hLy hgl
          go_wp2
          go_loopw [8, 9, 41] (fun _ _ v41 wq => ∃ k : Nat, k ≤ L ∧ v41 = .int .i64 (k : Int) ∧ DI w B T (fun i => (bel W i : Int)) wq ∧ HRow w1.heap.size wq (.slice (some ⟨gl, 0, none⟩) ys.length lcap) ys ∧ DI w w.heap.size n (fun c => (depN ys (bel W) k c : Nat)) wq) (fun _ _ v41 _ => L - (intOf v41).toNat)
          case atStart => exact ⟨0, Nat.zero_le _, rfl, HZ.out.1, HZ.out.2.1, HZ.out.2.2⟩
          case round =>
            obtain ⟨k, hkL, rfl, hB, hR, hD⟩ := hrel
            by_cases hlt : k < L
            · have hTe := HT.out
              have hyl : k < ys.length := by have := HLY.out; omega
              rcases hR with ⟨h1, -⟩ | ⟨gl', lcap', h1, hg2, -, hc1, hc2, h6⟩
              · simp at h1
              · simp only [Value.slice.injEq, Option.some.injEq, Addr.mk.injEq, and_true, true_and] at h1
                obtain ⟨rfl, rfl⟩ := h1
                obtain ⟨x0, x1, x2⟩ := h6 k hyl
                have hym : ys.getD k default ∈ ys := by simp [List.getD_eq_getElem?_getD, hyl]
                have hsb := HS.out.2.2 _ hym
                obtain ⟨sn, hsn⟩ : ∃ sn : Nat, (ys.getD k default).s = (sn : Int) := ⟨(ys.getD k default).s.toNat, by omega⟩
                obtain ⟨y, hy⟩ : ∃ y, y = ys.getD k default := ⟨_, rfl⟩
                have hdep : ∀ c, depN ys (bel W) (k + 1) c = if c = sn then bel W k else depN ys (bel W) k c := fun c => by
                  show (if (c : Int) = (ys.getD k default).s then _ else _) = _
                  rw [hsn]
                  by_cases e : c = sn
                  · rw [if_pos (by omega), if_pos e]
                  · rw [if_neg (by omega), if_neg e]
                rw [← hy] at x0 x1 x2 hsb hsn
                have hal : Below wr.heap.size wr (wr.alloc (.cells #[.int .i64 y.s, .int .i64 y.w, .int .i64 y.p] 81)) := (Below.refl _ _).alloc (Nat.le_refl _) _
                have hsnn : sn < n := by omega
                have hRk := HRow.kept (base := w1.heap.size) (.inr ⟨gl, lcap, rfl, hg2, by omega, hc1, hc2, h6⟩) hal
                have hset := (hD.kept hal).set hsnn (bel W k : Int)
                have hw1 := HW1.out
                have HN := Lib.hid (And.intro (hB.kept hal) (And.intro hRk (And.intro hset (And.intro hdep hw1))))
                have d1 := (hB.kept hal).cell k (by omega)
                have d2 := (hD.kept hal).cell sn hsnn
                have d3 := (hD.kept hal).frz sn hsnn
                have d4 : (wr.alloc (.cells #[.int .i64 y.s, .int .i64 y.w, .int .i64 y.p] 81)).cell? ⟨wr.heap.size, 0, none⟩ = some (.int .i64 (sn : Int)) := by rw [cell_new _ _ _ _ _ rfl, ← hsn]; rfl
                have hLl : L ≤ T := by omega
                have HSN := Lib.hid hsn
                clear hB hD hal hRk hset hdep hTe hym hsb hy h6 hsn hw1
                generalize depN ys (bel W) k sn = dd at *
                generalize bel W k = bk at *
                have q1 : (k : Int) < (L : Int) := by omega
                have q2 : (k : Int) < (T : Int) := by omega
                have q3 : (0 : Int) ≤ (k : Int) := by omega
                have q4 : (sn : Int) < (n : Int) := by omega
                have q5 : (0 : Int) ≤ (sn : Int) := by omega
                go_wp2
                obtain ⟨wx, hwx⟩ : ∃ wx, wx = wr.alloc (.cells #[.int .i64 y.s, .int .i64 y.w, .int .i64 y.p] 81) := ⟨_, rfl⟩
                rw [← hwx] at HN d1 d2 d3 d4
                rw [← hwx]
                clear hwx x0 x1 x2
                go_big_region
                all_goals go_wp2
                go_roundw
                case rel =>
                  obtain ⟨h1, h2, h3, h4, h5⟩ := HN.out
                  refine ⟨k + 1, by omega, by go_num, (h1.other (Nat.le_refl _) hDB _).drew, (h2.other h5 _).kept ((Below.refl _ _).drew), (h3.congr fun i _ => ?_).drew⟩
                  rw [h4]
                  by_cases e : i = sn
                  · rw [if_pos e, if_pos e]
                  · rw [if_neg e, if_neg e]
                case measure => simp [intOf]; omega
            · obtain rfl : k = L := by omega
              have HF := Lib.hid hD
              clear hB hR hD
              go_wp2
              go_ret
              refine ⟨w.heap.size, ys, by rw [HX.out.2]; rfl, HS.out.1, HS.out.2.1, ?_⟩
              rw [HX.out.2, ← HP.out.2.2.2.1, ← HLY.out]
              exact HF.out

end Go.Proofs.YtdidoecigkbffaaGreat
