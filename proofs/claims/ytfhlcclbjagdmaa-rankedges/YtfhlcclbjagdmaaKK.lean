/- The contract of list: some list of at most 1500 bits. -/
import Derived.Test.YtfhlcclbjagdmaaKJ
namespace Go.Proofs.Ytfhlcclbjagdmaa
open Go.RowKit
open M
attribute [local go_sem ↓] Go.wp_at_zero Go.wp_at_succ

/-- What list tells: a slice of bits of its own. -/
def ListEnd (w : World) (e : Ending) (w' : World) : Prop := ∃ (a : Option Addr) (cap : Nat) (l : List Bool), e = .returned (.slice a l.length cap) ∧ SliceOf w' a l.length cap l ∧ l.length ≤ 1500 ∧ Below w.heap.size w w'

/-- What list holds: the boxed row, and the bits l at v, of its own. -/
structure LI (w : World) (A : Option Addr) (n c : Nat) (B : Option Addr) (m d : Nat) (v : Value) (l : List Bool) (u : World) : Prop where
  c0 : u.cell? ⟨w.heap.size, 0, none⟩ = some (.slice A n c)
  c1 : u.cell? ⟨w.heap.size, 1, none⟩ = some (.slice B m d)
  own : u.ownsRow (w.heap.size + 1) 4 1 v l.length (l.map Value.bool)
  bel : Below w.heap.size w u

theorem LI.app {w u u' : World} {A B : Option Addr} {n c m d : Nat} {v v' : Value} {l l' : List Bool} (h : LI w A n c B m d v l u) (o : Obj) (ho : u'.ownsRow (w.heap.size + 1) 4 1 v' l'.length (l'.map Value.bool)) (hg : (u.alloc o).grownBy u' v.ownBlock) : LI w A n c B m d v' l' u' := by
  have l0 : w.heap.size < u.heap.size := World.block_lt_of_cell? u _ h.c0
  have hk : Kp (fun k => v.ownBlock = some k) u u' := ((Kp.refl _ u).alloc o).grown hg (fun k hk _ => hk)
  have hx : ∀ k, k ≤ w.heap.size → ¬ v.ownBlock = some k := fun k hk e => by have := (h.own.lt k e).1; omega
  exact ⟨by rw [hk.cell (p := ⟨w.heap.size, 0, none⟩) l0 (hx _ (Nat.le_refl _))]; exact h.c0, by rw [hk.cell (p := ⟨w.heap.size, 1, none⟩) l0 (hx _ (Nat.le_refl _))]; exact h.c1, ho, h.bel.trans (hk.toBelow h.bel.size (fun k hk => hx k (by omega)))⟩

theorem slice_one (w : World) (y : Bool) : SliceOf (w.alloc (.cells #[.bool y] 4)) (some ⟨w.heap.size, 0, none⟩) 1 1 [y] :=
  ⟨rfl, Nat.le_refl _, by unfold maxLen; omega, .inr ⟨w.heap.size, 0, rfl, by simp, fun j hj => by
    obtain rfl : j = 0 := by simpa using hj
    simp⟩, fun e => by cases e⟩

theorem list_end {w u : World} {A B : Option Addr} {n c m d L cap : Nat} {a : Option Addr} {l : List Bool} (hl : l.length = L) (h : LI w A n c B m d (.slice a L cap) l u) (hL : L ≤ 1500) : ListEnd w (.returned (.slice a L cap)) u := by
  subst hl
  obtain ⟨a', cap', e, hs⟩ := slice_of_own h.own
  simp only [Value.slice.injEq, true_and] at e
  obtain ⟨rfl, rfl⟩ := e
  exact ⟨a, cap, l, rfl, hs, hL, h.bel⟩

set_option maxRecDepth 100000 in
set_option maxHeartbeats 4000000 in
theorem list_any (A : Option Addr) (n c : Nat) (B : Option Addr) (m d : Nat) (bs : List Bool) (ts : List Int) (w : World) (hA : BoolsAt w A bs) (hbs : bs.length = n) (hB : NumsAt .i64 w B ts) (hts : ts.length = m) :
    Calls Try.prog 10 #[.agg #[.slice A n c, .slice B m d]] w (ListEnd w) := by
  have hI0 : LI w A n c B m d (.slice none 0 0) [] (w.alloc (.cells #[.slice A n c, .slice B m d] 25)) := ⟨by simp, by simp, World.ownsRow_nil _ _ _ _, (Below.refl _ _).alloc (Nat.le_refl _) _⟩
  have HI0 := Lib.hid hI0
  have hA := Lib.hid (And.intro hA hbs)
  have hB := Lib.hid (And.intro hB hts)
  clear hI0 hbs hts
  go_enter Try.func10, Try.ntmps10
  go_wp2
  go_loopw [3, 4] (fun v3 v4 wr => ∃ (i L cap : Nat) (a : Option Addr) (l : List Bool), i ≤ 40 ∧ v4 = .int .i64 (i : Int) ∧ v3 = .slice a L cap ∧ L ≤ 1500 ∧ l.length = L ∧ LI w A n c B m d v3 l wr) (fun _ v4 _ => 40 - (intOf v4).toNat)
  case atStart => exact ⟨0, 0, 0, none, [], by omega, rfl, rfl, by omega, rfl, HI0.out⟩
  case round =>
    obtain ⟨i, L, cap, a, l, hi, rfl, rfl, hL, hll, hI⟩ := hrel
    clear HI0
    have hI := And.intro hll hI
    clear hll
    by_cases hex : i < n ∧ i < 40
    · obtain ⟨h1, h2⟩ := hex
      have hd40 : decide ((i : Int) < 40) = true := by simp; omega
      obtain ⟨c0, c1, -, hbelw⟩ := hI.2
      by_cases h3 : i < m
      · have hnm := hB.out.1.kept hbelw
        rcases hnm with hnil | ⟨bb, off, rfl, hbl, hcs⟩
        · have := hB.out.2; rw [hnil] at this; simp at this; omega
        have hcb := hcs i (by rw [hB.out.2]; omega)
        clear hcs hbelw
        generalize ts.getD i 0 = x at *
        obtain ⟨y, hy⟩ : ∃ y, x.tmod 100 = y := ⟨_, rfl⟩
        have t1 := Int.tmod_lt_of_pos x (b := 100) (by omega)
        have t2 := Int.lt_tmod_of_pos x (b := 100) (by omega)
        rw [hy] at t1 t2
        have q1 : (i : Int) < (m : Int) := by omega
        have q2 : (0 : Int) ≤ (i : Int) := by omega
        have HI := Lib.hid hI
        clear hI
        by_cases hneg : y < 0
        · go_wp2
          generalize hKK : -y + 1 = KK at *
          have hK9 : KK ≤ 100 := by omega
          clear hKK
          go_loopw [3, 6] (fun v3 v6 wr => ∃ (j L cap : Nat) (a : Option Addr) (l : List Bool), j ≤ 1000 ∧ v6 = .int .i64 (j : Int) ∧ v3 = .slice a L cap ∧ L ≤ 1500 ∧ l.length = L ∧ LI w A n c (some ⟨bb, off, none⟩) m d v3 l wr) (fun _ v6 _ => (KK - intOf v6).toNat)
          case atStart => exact ⟨0, L, cap, a, l, by omega, rfl, rfl, hL, HI.out.1, HI.out.2⟩
          case round =>
            obtain ⟨j, L2, cap2, a2, l2, hj1, rfl, rfl, hL2, hll2, hI2⟩ := hrel
            by_cases hj : (j : Int) < KK
            · by_cases hl3 : L2 < 1500
              · obtain ⟨c0, c1, hown, hbel⟩ := hI2
                have hbs2 := hA.out.1.kept hbel
                rcases hbs2 with hnil | ⟨b2, o2, rfl, hbl, hcs⟩
                · have := hA.out.2; rw [hnil] at this; simp at this; omega
                have hcb := hcs i (by rw [hA.out.2]; omega)
                generalize bs.getD i false = y at *
                have hsz := hbel.size
                have hbz : b2 < wr.heap.size := hbl
                have q1 : (i : Int) < (n : Int) := by omega
                have q2 : (0 : Int) ≤ (i : Int) := by omega
                have hlt0 := World.block_lt_of_cell? wr _ c0
                simp only at hlt0
                have HO := Lib.hid (And.intro hown (And.intro hbel (And.intro hll2 (And.intro c0 c1))))
                clear hown hbel hll2 hcs
                go_wp2_with (first
                  | (at_builtin
                     refine wpList_append_bools rfl (.tmp 45) (.tmp 51) rfl (w.heap.size + 1) (.slice a2 L2 cap2) L2 (l2.map Value.bool) rfl ?own (some ⟨wr.heap.size, 0, none⟩) 1 1 [y] rfl ?slo ?b63 ?bas ?_))
                case own => have := (HO.out.1.alloc (.cells #[.bool y] 4)); rw [HO.out.2.2.1] at this; exact this
                case slo => exact slice_one wr y
                case b63 => omega
                case bas => simp; omega
                intro v' w3 hown hgrow hat
                have hI3 : LI w (some ⟨b2, o2, none⟩) n c (some ⟨bb, off, none⟩) m d v' (l2 ++ [y]) w3 := LI.app ⟨HO.out.2.2.2.1, HO.out.2.2.2.2, HO.out.1, HO.out.2.1⟩ (.cells #[.bool y] 4) (by rw [List.length_append, HO.out.2.2.1, List.map_append]; exact hown) hgrow
                obtain ⟨a3, cap3, rfl, -⟩ := slice_of_own hI3.own
                have hl4 : (l2 ++ [y]).length = L2 + 1 := by rw [List.length_append, HO.out.2.2.1]; rfl
                rw [hl4] at hI3 ⊢
                have HI3 := Lib.hid (And.intro hl4 hI3)
                clear hown hgrow hat hI3 HO hl4 c0 c1
                go_wp2
                go_roundw
                case rel => first | exact ⟨j + 1, L2 + 1, cap3, a3, l2 ++ [y], by omega, by go_num, rfl, by omega, HI3.out.1, HI3.out.2⟩ | ((repeat apply Exists.intro); exact ⟨⟨j + 1, L2 + 1, cap3, a3, l2 ++ [y], by omega, by go_num, rfl, by omega, HI3.out.1, HI3.out.2⟩, rfl⟩)
                case measure => simp [intOf]; omega
              · have HI2 := Lib.hid (And.intro hll2 hI2)
                clear hll2 hI2
                go_wp2
                go_roundw
                case rel => exact ⟨i + 1, L2, cap2, a2, l2, by omega, by go_num, rfl, hL2, HI2.out.1, HI2.out.2⟩
                case measure => simp [intOf]; omega
            · have HI2 := Lib.hid (And.intro hll2 hI2)
              clear hll2 hI2
              go_wp2
              go_roundw
              case rel => exact ⟨i + 1, L2, cap2, a2, l2, by omega, by go_num, rfl, hL2, HI2.out.1, HI2.out.2⟩
              case measure => simp [intOf]; omega
        · go_wp2
          generalize hKK : y + 1 = KK at *
          have hK9 : KK ≤ 100 := by omega
          clear hKK
          go_loopw [3, 6] (fun v3 v6 wr => ∃ (j L cap : Nat) (a : Option Addr) (l : List Bool), j ≤ 1000 ∧ v6 = .int .i64 (j : Int) ∧ v3 = .slice a L cap ∧ L ≤ 1500 ∧ l.length = L ∧ LI w A n c (some ⟨bb, off, none⟩) m d v3 l wr) (fun _ v6 _ => (KK - intOf v6).toNat)
          case atStart => exact ⟨0, L, cap, a, l, by omega, rfl, rfl, hL, HI.out.1, HI.out.2⟩
          case round =>
            obtain ⟨j, L2, cap2, a2, l2, hj1, rfl, rfl, hL2, hll2, hI2⟩ := hrel
            by_cases hj : (j : Int) < KK
            · by_cases hl3 : L2 < 1500
              · obtain ⟨c0, c1, hown, hbel⟩ := hI2
                have hbs2 := hA.out.1.kept hbel
                rcases hbs2 with hnil | ⟨b2, o2, rfl, hbl, hcs⟩
                · have := hA.out.2; rw [hnil] at this; simp at this; omega
                have hcb := hcs i (by rw [hA.out.2]; omega)
                generalize bs.getD i false = y at *
                have hsz := hbel.size
                have hbz : b2 < wr.heap.size := hbl
                have q1 : (i : Int) < (n : Int) := by omega
                have q2 : (0 : Int) ≤ (i : Int) := by omega
                have hlt0 := World.block_lt_of_cell? wr _ c0
                simp only at hlt0
                have HO := Lib.hid (And.intro hown (And.intro hbel (And.intro hll2 (And.intro c0 c1))))
                clear hown hbel hll2 hcs
                go_wp2_with (first
                  | (at_builtin
                     refine wpList_append_bools rfl (.tmp 45) (.tmp 51) rfl (w.heap.size + 1) (.slice a2 L2 cap2) L2 (l2.map Value.bool) rfl ?own (some ⟨wr.heap.size, 0, none⟩) 1 1 [y] rfl ?slo ?b63 ?bas ?_))
                case own => have := (HO.out.1.alloc (.cells #[.bool y] 4)); rw [HO.out.2.2.1] at this; exact this
                case slo => exact slice_one wr y
                case b63 => omega
                case bas => simp; omega
                intro v' w3 hown hgrow hat
                have hI3 : LI w (some ⟨b2, o2, none⟩) n c (some ⟨bb, off, none⟩) m d v' (l2 ++ [y]) w3 := LI.app ⟨HO.out.2.2.2.1, HO.out.2.2.2.2, HO.out.1, HO.out.2.1⟩ (.cells #[.bool y] 4) (by rw [List.length_append, HO.out.2.2.1, List.map_append]; exact hown) hgrow
                obtain ⟨a3, cap3, rfl, -⟩ := slice_of_own hI3.own
                have hl4 : (l2 ++ [y]).length = L2 + 1 := by rw [List.length_append, HO.out.2.2.1]; rfl
                rw [hl4] at hI3 ⊢
                have HI3 := Lib.hid (And.intro hl4 hI3)
                clear hown hgrow hat hI3 HO hl4 c0 c1
                go_wp2
                go_roundw
                case rel => first | exact ⟨j + 1, L2 + 1, cap3, a3, l2 ++ [y], by omega, by go_num, rfl, by omega, HI3.out.1, HI3.out.2⟩ | ((repeat apply Exists.intro); exact ⟨⟨j + 1, L2 + 1, cap3, a3, l2 ++ [y], by omega, by go_num, rfl, by omega, HI3.out.1, HI3.out.2⟩, rfl⟩)
                case measure => simp [intOf]; omega
              · have HI2 := Lib.hid (And.intro hll2 hI2)
                clear hll2 hI2
                go_wp2
                go_roundw
                case rel => exact ⟨i + 1, L2, cap2, a2, l2, by omega, by go_num, rfl, hL2, HI2.out.1, HI2.out.2⟩
                case measure => simp [intOf]; omega
            · have HI2 := Lib.hid (And.intro hll2 hI2)
              clear hll2 hI2
              go_wp2
              go_roundw
              case rel => exact ⟨i + 1, L2, cap2, a2, l2, by omega, by go_num, rfl, hL2, HI2.out.1, HI2.out.2⟩
              case measure => simp [intOf]; omega
      · have HI := Lib.hid hI
        clear hI hbelw
        go_wp2
        go_loopw [3, 6] (fun v3 v6 wr => ∃ (j L cap : Nat) (a : Option Addr) (l : List Bool), j ≤ 1000 ∧ v6 = .int .i64 (j : Int) ∧ v3 = .slice a L cap ∧ L ≤ 1500 ∧ l.length = L ∧ LI w A n c B m d v3 l wr) (fun _ v6 _ => ((1 : Int) - intOf v6).toNat)
        case atStart => exact ⟨0, L, cap, a, l, by omega, rfl, rfl, hL, HI.out.1, HI.out.2⟩
        case round =>
          obtain ⟨j, L2, cap2, a2, l2, hj1, rfl, rfl, hL2, hll2, hI2⟩ := hrel
          by_cases hj : (j : Int) < (1 : Int)
          · by_cases hl3 : L2 < 1500
            · obtain ⟨c0, c1, hown, hbel⟩ := hI2
              have hbs2 := hA.out.1.kept hbel
              rcases hbs2 with hnil | ⟨b2, o2, rfl, hbl, hcs⟩
              · have := hA.out.2; rw [hnil] at this; simp at this; omega
              have hcb := hcs i (by rw [hA.out.2]; omega)
              generalize bs.getD i false = y at *
              have hsz := hbel.size
              have hbz : b2 < wr.heap.size := hbl
              have q1 : (i : Int) < (n : Int) := by omega
              have q2 : (0 : Int) ≤ (i : Int) := by omega
              have hlt0 := World.block_lt_of_cell? wr _ c0
              simp only at hlt0
              have HO := Lib.hid (And.intro hown (And.intro hbel (And.intro hll2 (And.intro c0 c1))))
              clear hown hbel hll2 hcs
              go_wp2_with (first
                | (at_builtin
                   refine wpList_append_bools rfl (.tmp 45) (.tmp 51) rfl (w.heap.size + 1) (.slice a2 L2 cap2) L2 (l2.map Value.bool) rfl ?own (some ⟨wr.heap.size, 0, none⟩) 1 1 [y] rfl ?slo ?b63 ?bas ?_))
              case own => have := (HO.out.1.alloc (.cells #[.bool y] 4)); rw [HO.out.2.2.1] at this; exact this
              case slo => exact slice_one wr y
              case b63 => omega
              case bas => simp; omega
              intro v' w3 hown hgrow hat
              have hI3 : LI w (some ⟨b2, o2, none⟩) n c B m d v' (l2 ++ [y]) w3 := LI.app ⟨HO.out.2.2.2.1, HO.out.2.2.2.2, HO.out.1, HO.out.2.1⟩ (.cells #[.bool y] 4) (by rw [List.length_append, HO.out.2.2.1, List.map_append]; exact hown) hgrow
              obtain ⟨a3, cap3, rfl, -⟩ := slice_of_own hI3.own
              have hl4 : (l2 ++ [y]).length = L2 + 1 := by rw [List.length_append, HO.out.2.2.1]; rfl
              rw [hl4] at hI3 ⊢
              have HI3 := Lib.hid (And.intro hl4 hI3)
              clear hown hgrow hat hI3 HO hl4 c0 c1
              go_wp2
              go_roundw
              case rel => first | exact ⟨j + 1, L2 + 1, cap3, a3, l2 ++ [y], by omega, by go_num, rfl, by omega, HI3.out.1, HI3.out.2⟩ | ((repeat apply Exists.intro); exact ⟨⟨j + 1, L2 + 1, cap3, a3, l2 ++ [y], by omega, by go_num, rfl, by omega, HI3.out.1, HI3.out.2⟩, rfl⟩)
              case measure => simp [intOf]; omega
            · have HI2 := Lib.hid (And.intro hll2 hI2)
              clear hll2 hI2
              go_wp2
              go_roundw
              case rel => exact ⟨i + 1, L2, cap2, a2, l2, by omega, by go_num, rfl, hL2, HI2.out.1, HI2.out.2⟩
              case measure => simp [intOf]; omega
          · have HI2 := Lib.hid (And.intro hll2 hI2)
            clear hll2 hI2
            go_wp2
            go_roundw
            case rel => exact ⟨i + 1, L2, cap2, a2, l2, by omega, by go_num, rfl, hL2, HI2.out.1, HI2.out.2⟩
            case measure => simp [intOf]; omega
    · by_cases h1 : i < n
      · have h2 : ¬ i < 40 := by omega
        have HI := Lib.hid hI
        obtain ⟨c0, c1, -, -⟩ := hI.2
        clear hI hex
        go_wp2
        go_ret
        exact list_end HI.out.1 HI.out.2 hL
      · have HI := Lib.hid hI
        obtain ⟨c0, c1, -, -⟩ := hI.2
        clear hI hex
        go_wp2
        go_ret
        exact list_end HI.out.1 HI.out.2 hL

end Go.Proofs.Ytfhlcclbjagdmaa
