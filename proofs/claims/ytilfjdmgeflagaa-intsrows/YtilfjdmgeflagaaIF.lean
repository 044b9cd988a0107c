/- The contracts of List, and of the document's own answers: Same, Find, May, Row. -/
import Derived.Test.YtilfjdmgeflagaaIE
namespace Go.Proofs.Ytilfjdmgeflagaa
open Go.RowKit
open M

theorem info3 : (Try.prog.info? 3).map (fun i => (i.zero, i.size, i.bytes)) = some (some (.int .i64 0), 1, 8) := by kernel_rfl

/-- The first i numbers are written, those behind are 0. -/
def liCells (xs : List Int) (n i : Nat) : List Value := (List.range n).map fun k => Value.int .i64 (if k < i then xs.getD k 0 else 0)

theorem liCells_set (xs : List Int) (n i : Nat) : (liCells xs n i).set i (.int .i64 (xs.getD i 0)) = liCells xs n (i + 1) := by
  apply List.ext_getElem
  · simp [liCells]
  · intro j h1 h2
    simp only [liCells, List.getElem_set, List.getElem_map, List.getElem_range]
    by_cases e : i = j
    · subst e; simp
    · simp only [e, if_false]
      by_cases h : j < i
      · simp [h, show j < i + 1 by omega]
      · simp [h, show ¬ j < i + 1 by omega]

theorem liCells_all (xs : List Int) : liCells xs xs.length xs.length = xs.map (Value.int .i64) := by
  apply List.ext_getElem
  · simp [liCells]
  · intro j h1 h2
    simp only [List.length_map] at h2
    simp [liCells, h2, List.getD_eq_getElem?_getD]

theorem nums_of_own {k : IntKind} {w : World} {base : Nat} {e : TypeId} {v : Value} {n : Nat} {xs : List Int} (h : w.ownsRow base e 1 v n (xs.map (Value.int k))) : ∃ a cap, v = .slice a n cap ∧ NumsAt k w a xs ∧ xs.length = n ∧ n ≤ cap ∧ cap ≤ maxLen ∧ (a = none → cap = 0) := by
  have h' := h
  obtain ⟨h1, h2⟩ := h
  have hl : xs.length = n := by simpa using h1
  rcases h2 with ⟨rfl, hn⟩ | ⟨g, cap, cur, rfl, hg, hh, hc1, hc2, hc3, hc4⟩
  · subst hn
    exact ⟨none, 0, rfl, .inl (List.eq_nil_of_length_eq_zero hl), hl, Nat.le_refl _, by unfold maxLen; omega, fun _ => rfl⟩
  · refine ⟨_, cap, rfl, .inr ⟨g, 0, rfl, (World.ownsRow.lt h' g rfl).2, fun j hj => ?_⟩, hl, hc1, hc2, fun e => by simp at e⟩
    rw [Nat.zero_add, World.ownsRow.cellAt h' j (by omega)]
    simp [List.getD_eq_getElem?_getD, hj]

theorem IRow.kp {X : Nat → Prop} {w w' : World} {n W L : Nat} {a : Option Addr} {m c : Nat} {xs : List Int} (h : IRow w n W L a m c xs) (hb : Kp X w w') (hx : ∀ k, (Value.slice a m c).ownBlock = some k → ¬ X k) : IRow w' n W L a m c xs :=
  { h with row := row_kp h.row hb hx }

set_option maxHeartbeats 1000000 in
theorem ilist_any (n W L : Nat) (a : Option Addr) (m c : Nat) (xs : List Int) (w : World) (h : IRow w n W L a m c xs) :
    Calls Try.prog 17 #[intsV n W L (.slice a m c)] w fun e w' => ∃ g, e = .returned (.slice (some ⟨g, 0, none⟩) n n) ∧ w.heap.size ≤ g ∧ w'.ownsRow w.heap.size 3 1 (.slice (some ⟨g, 0, none⟩) n n) n (xs.map (Value.int .i64)) ∧ Below w.heap.size w w' := by
  obtain ⟨i0, hi, hz0, hz1, hz2⟩ := info_parts info3
  have hal := ((Below.refl w.heap.size w).alloc (Nat.le_refl _) (.cells #[.int .i64 (n : Int), .int .i64 (W : Int), .int .i64 (L : Int), .slice a m c] 31))
  have hn := h.hn
  have hlt0 := Lib.hid (row_lt h.row)
  have hbx := IBx.new w n W L (.slice a m c)
  have HH := Lib.hid (And.intro (h.kept hal) (And.intro hbx hal))
  clear h hal hbx
  unfold intsV at *
  go_enter Try.func17, Try.ntmps17
  go_wp2_with (first | (at_make; refine wpList_make_full _ rfl _ _ 22 rfl (w.heap.size + 1) 3 i0 (.int .i64 0) 1 Try.underlying22 hi hz0 hz1 _ _ _ _ n rfl rfl rfl rfl ?b2 ?b3 ?b4 ?_))
  case b2 => rw [hz2]; omega
  case b3 => unfold maxLen; omega
  case b4 => simp
  intro w1 hown hgrow
  obtain ⟨hrow, hbx, hal⟩ := HH.out
  have hg1 := below_grown hgrow
  have hbx1 := hbx.kept hg1
  have hrow1 := hrow.kept hg1
  have hbel1 := hal.trans (hg1.mono (by simp))
  rw [toList_madeCells_one] at hown
  have hown0 : w1.ownsRow (w.heap.size + 1) 3 1 (Value.slice (some ⟨w.heap.size + 1, 0, none⟩) n n) n (liCells xs n 0) := by
    rw [show liCells xs n 0 = List.replicate n (Value.int .i64 0) from ?_]
    · exact hown
    · apply List.ext_getElem <;> simp [liCells]
  have H1 := Lib.hid (And.intro hown0 (And.intro hbx1 (And.intro hrow1 hbel1)))
  clear hown hgrow hrow hbx hal hg1 hbx1 hrow1 hbel1 hown0 HH
  go_wp2
  go_loopw [10] (fun v wr => ∃ i : Nat, i ≤ n ∧ v = .int .i64 (i : Int) ∧ wr.ownsRow (w.heap.size + 1) 3 1 (Value.slice (some ⟨w.heap.size + 1, 0, none⟩) n n) n (liCells xs n i) ∧ IBx wr w.heap.size n W L (.slice a m c) ∧ IRow wr n W L a m c xs ∧ Below w.heap.size w wr) (fun v _ => n - (intOf v).toNat)
  case atStart => exact ⟨0, Nat.zero_le _, rfl, H1.out⟩
  case round =>
    obtain ⟨i, hik, rfl, r1, r2, r3, r4⟩ := hrel
    by_cases hlt : i < n
    · have hln := r3.len
      have hat := iat_any n W L a m c xs (i : Int) wr r3
      rw [atI_in xs i (by omega)] at hat
      obtain ⟨c0, c1, c2, c3⟩ := r2
      have hbx2 : IBx wr w.heap.size n W L (.slice a m c) := ⟨c0, c1, c2, c3⟩
      have HA := Lib.hid (And.intro hat (And.intro r1 (And.intro hbx2 (And.intro r3 r4))))
      clear hat r1 r3 r4 hbx2
      have q1 : (i : Int) < (n : Int) := by omega
      have q2 : (0 : Int) ≤ (i : Int) := by omega
      unfold intsV at HA
      go_wp2_with fail
      refine HA.out.1.mono ?_
      rintro e w5 ⟨rfl, hb⟩
      clear c0 c1 c2 c3
      obtain ⟨-, r1, r2, r3, r4⟩ := HA.out
      have r1 := own_kept r1 hb
      have hfz := r1.frozenAt i
      have hcw : w5.cell? ⟨w.heap.size + 1, i, none⟩ = some (.int .i64 0) := by
        rw [r1.cellAt i (by omega)]; simp [liCells, hlt]
      have hst := (r1.stored i (.int .i64 (xs.getD i 0))).1
      rw [liCells_set xs n i] at hst
      have r2 := r2.kept hb
      have r3 := r3.kept hb
      have r4 := r4.trans (hb.mono r4.size)
      have hk : Kp (fun k => k = w.heap.size + 1) w5 (w5.setCell ⟨w.heap.size + 1, i, none⟩ (.int .i64 (xs.getD i 0))) := Kp.setCell (p := ⟨w.heap.size + 1, i, none⟩) (Kp.refl (fun k => k = w.heap.size + 1) w5) (.inl rfl) _
      have s2 := r2.kp hk (by omega)
      have s3 := r3.kp hk (fun k e ek => by have := hlt0.out k e; omega)
      have s4 := r4.trans (hk.toBelow r4.size (fun k hk e => by omega))
      have HX := Lib.hid (And.intro hst (And.intro s2 (And.intro s3 s4)))
      clear r1 r2 r3 r4 hst s2 s3 s4 hk hb HA
      generalize xs.getD i 0 = x at *
      go_wp2
      go_roundw
      case rel => exact ⟨i + 1, by omega, by go_num, HX.out⟩
      case measure => simp [intOf]; omega
    · obtain rfl : i = n := by omega
      have hln := r3.len
      rw [← hln, liCells_all, hln] at r1
      have HX := Lib.hid (And.intro (own_mono r1 (Nat.le_succ _)) r4)
      clear r1 r2 r3 r4 H1
      go_wp2
      go_ret
      exact ⟨_, rfl, by omega, HX.out⟩

set_option maxHeartbeats 1000000 in
theorem rsame_any (a1 a2 : Option Addr) (n1 n2 c1 c2 : Nat) (l1 l2 : List Int) (w : World) (h1 : NumsAt .i64 w a1 l1) (h2 : NumsAt .i64 w a2 l2) (e1 : l1.length = n1) (e2 : l2.length = n2) (hl : n1 ≤ 1000000000) :
    Calls Try.prog 16 #[.slice a1 n1 c1, .slice a2 n2 c2] w fun e w' => e = .returned (.bool (decide (l1 = l2))) ∧ Below w.heap.size w w' := by
  by_cases hne : n1 = n2
  · subst hne
    have H1 := Lib.hid (And.intro h1 e1)
    have H2 := Lib.hid (And.intro h2 e2)
    clear h1 h2 e1 e2
    go_enter Try.func16, Try.ntmps16
    go_wp2
    go_loopw [5] (fun v wr => ∃ i : Nat, i ≤ n1 ∧ v = .int .i64 (i : Int) ∧ l1.take i = l2.take i ∧ Below w.heap.size w wr) (fun v _ => n1 - (intOf v).toNat)
    case atStart => exact ⟨0, Nat.zero_le _, rfl, rfl, Below.refl _ _⟩
    case round =>
      obtain ⟨i, hi, rfl, htk, hbel⟩ := hrel
      by_cases hlt : i < n1
      · have hl1 := H1.out.2
        have hl2 := H2.out.2
        rcases H1.out.1.kept hbel with hnil | ⟨b1, o1, rfl, hb1, hc1⟩
        · subst hnil; simp at hl1; omega
        rcases H2.out.1.kept hbel with hnil | ⟨b2, o2, rfl, hb2, hc2⟩
        · subst hnil; simp at hl2; omega
        have d1 := hc1 i (by omega)
        have d2 := hc2 i (by omega)
        have q1 : (i : Int) < (n1 : Int) := by omega
        have q3 : (0 : Int) ≤ (i : Int) := by omega
        have ht1 := takeI_snoc l1 i (by omega)
        have ht2 := takeI_snoc l2 i (by omega)
        by_cases he : l1.getD i 0 = l2.getD i 0
        · have htk2 : l1.take (i + 1) = l2.take (i + 1) := by rw [ht1, ht2, htk, he]
          have HT := Lib.hid (And.intro htk2 hbel)
          rw [← he] at d2
          clear htk2 ht1 ht2 htk he hc1 hc2 hl1 hl2 hbel
          generalize l1.getD i 0 = bv at *
          have hbn : (bv != bv) = false := by simp
          go_wp2
          go_quiet (fail)
          go_wp2
          go_roundw
          case rel => exact ⟨i + 1, by omega, by go_num, HT.out.1, below_drewN HT.out.2 _⟩
          case measure => simp [intOf]; omega
        · have hneq : l1 ≠ l2 := fun e => he (by rw [e])
          have hbn : (l1.getD i 0 != l2.getD i 0) = true := by simpa using he
          have HT := Lib.hid (And.intro hneq hbel)
          clear ht1 ht2 htk hc1 hc2 hl1 hl2 hbel hneq he
          generalize l1.getD i 0 = bv at *
          generalize l2.getD i 0 = cv at *
          go_wp2
          go_quiet (fail)
          go_wp2
          go_ret
          exact ⟨ret_bool (by rw [decide_eq_false HT.out.1]), below_drewN HT.out.2 _⟩
      · obtain rfl : i = n1 := by omega
        have heq : l1 = l2 := by
          have := htk
          rw [List.take_of_length_le (by rw [H1.out.2]; omega), List.take_of_length_le (by rw [H2.out.2]; omega)] at this
          exact this
        have HT := Lib.hid (And.intro heq hbel)
        clear heq hbel htk
        go_wp2
        go_ret
        exact ⟨ret_bool (by rw [decide_eq_true HT.out.1]), HT.out.2⟩
  · have hneq : l1 ≠ l2 := fun e => hne (by rw [← e1, ← e2, e])
    have HT := Lib.hid hneq
    clear h1 h2 e1 e2 hneq
    have hb1 : ((n1 : Int) != (n2 : Int)) = true := by simp; omega
    have hb2 : (n1 != n2) = true := by simp; omega
    go_enter Try.func16, Try.ntmps16
    go_wp2
    go_ret
    exact ⟨ret_bool (by rw [decide_eq_false HT.out]), Below.refl _ _⟩

set_option maxHeartbeats 400000 in
theorem rfind_any (a0 : Option Addr) (n cap : Nat) (xs : List Int) (x : Int) (w : World) (h : NumsAt .i64 w a0 xs) (hn : xs.length = n) (hl : n ≤ 1000000000) :
    Calls Try.prog 28 #[.slice a0 n cap, .int .i64 x] w fun e w' => e = .returned (.int .i64 (findN xs x : Nat)) ∧ w = w' := by
  have HB := Lib.hid (And.intro h hn)
  clear h hn
  go_enter Try.func28, Try.ntmps28
  go_wp2
  go_loop [5] (fun v => ∃ i : Nat, i ≤ n ∧ v = .int .i64 (i : Int) ∧ ∀ j, j < i → xs.getD j 0 < x) (fun v => n - (intOf v).toNat)
  case atStart => exact ⟨0, Nat.zero_le _, rfl, fun j hj => absurd hj (by omega)⟩
  case round =>
    obtain ⟨i, hi, rfl, hall⟩ := hrel
    obtain ⟨h, hn⟩ := HB.out
    by_cases hlt : i < n
    · rcases h with hnil | ⟨b, off, rfl, hbs, hcs⟩
      · subst hnil; simp at hn; omega
      have hcb := hcs i (by omega)
      have q1 : (i : Int) < (n : Int) := by omega
      have q2 : (0 : Int) ≤ (i : Int) := by omega
      by_cases hx : x ≤ xs.getD i 0
      · have hf := findN_eq xs x i (by omega) hall (fun _ => hx)
        have HF := Lib.hid hf
        clear hf hall hcs hn
        generalize xs.getD i 0 = y at *
        go_wp2
        go_ret
        exact ⟨ret_int (by rw [HF.out]), rfl⟩
      · have hall2 : ∀ j, j < i + 1 → xs.getD j 0 < x := fun j hj => by
          by_cases e : j = i
          · subst e; omega
          · exact hall j (by omega)
        have HF := Lib.hid hall2
        clear hall2 hall hcs hn
        generalize xs.getD i 0 = y at *
        go_wp2
        go_round
        case rel => exact ⟨i + 1, by omega, by go_num, HF.out⟩
        case measure => simp [intOf]; omega
    · obtain rfl : i = n := by omega
      have hf := findN_eq xs x i (by omega) hall (fun h => absurd h (by omega))
      have HF := Lib.hid hf
      clear hf hall hn h
      go_wp2
      go_ret
      exact ⟨ret_int (by rw [HF.out]), rfl⟩

end Go.Proofs.Ytilfjdmgeflagaa
