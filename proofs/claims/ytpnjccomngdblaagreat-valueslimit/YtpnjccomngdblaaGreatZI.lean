/- The contracts of isSize, areSymbols, moved, begins. -/
import Derived.Test.YtpnjccomngdblaaGreatZF
set_option maxRecDepth 100000
namespace Go.Proofs.YtpnjccomngdblaaGreat
open Go.RowKit
open M
attribute [local go_sem ↓] Go.wp_at_zero Go.wp_at_succ

theorem fsz_any (x : Int) (w : World) : Calls Tryz.prog 51 #[.int .i64 x] w fun e w' => e = .returned (.bool (decide (1 ≤ x ∧ x ≤ 65535))) ∧ w = w' := by
  by_cases h1 : 1 ≤ x
  · by_cases h2 : x ≤ 65535
    · rw [decide_eq_true ⟨h1, h2⟩]
      go_enter Tryz.func51, Tryz.ntmps51
      go_wp2
      go_ret
      exact ⟨rfl, rfl⟩
    · rw [decide_eq_false (by omega)]
      go_enter Tryz.func51, Tryz.ntmps51
      go_wp2
      go_ret
      exact ⟨rfl, rfl⟩
  · rw [decide_eq_false (by omega)]
    go_enter Tryz.func51, Tryz.ntmps51
    go_wp2
    go_ret
    exact ⟨rfl, rfl⟩

/-- Are all of them symbols? -/
def symB (l : List Int) (size : Int) : Bool := l.all fun x => decide (0 ≤ x ∧ x < size)
theorem symB_iff (l : List Int) (size : Int) : symB l size = true ↔ ∀ x ∈ l, 0 ≤ x ∧ x < size := by
  unfold symB
  rw [List.all_eq_true]
  simp only [decide_eq_true_eq]
theorem symB_no {l : List Int} {size : Int} {i : Nat} (hi : i < l.length) (h : ¬ (0 ≤ l.getD i 0 ∧ l.getD i 0 < size)) : symB l size = false := by
  rw [Bool.eq_false_iff]
  intro hh
  exact h ((symB_iff l size).1 hh _ (getD_mem hi))
theorem symB_yes {l : List Int} {size : Int} (h : ∀ j, j < l.length → 0 ≤ l.getD j 0 ∧ l.getD j 0 < size) : symB l size = true := by
  rw [symB_iff]
  intro x hx
  obtain ⟨i, hi, e⟩ := List.getElem_of_mem hx
  have := h i hi
  rw [List.getD_eq_getElem?_getD, List.getElem?_eq_getElem hi, Option.getD_some, e] at this
  exact this

theorem syms_any (A : Option Addr) (n c : Nat) (l : List Int) (size : Int) (w : World) (hA : NumsAt .i64 w A l) (hl : l.length = n) (hn : n ≤ 1000000) :
    Calls Tryz.prog 52 #[.slice A n c, .int .i64 size] w fun e w' => e = .returned (.bool (symB l size)) ∧ w' = w := by
  obtain ⟨r, hr⟩ : ∃ r, symB l size = r := ⟨_, rfl⟩
  rw [hr]
  have HX := Lib.hid (And.intro hA hl)
  have HR := Lib.hid hr
  clear hA hl hr
  go_enter Tryz.func52, Tryz.ntmps52
  go_wp2
  go_loopw [6, 9] (fun _ v9 wr => ∃ i : Nat, i ≤ n ∧ v9 = .int .i64 (i : Int) ∧ wr = w ∧ ∀ j, j < i → 0 ≤ l.getD j 0 ∧ l.getD j 0 < size) (fun _ v9 _ => n - (intOf v9).toNat)
  case atStart => exact ⟨0, Nat.zero_le _, rfl, rfl, fun j hj => by omega⟩
  case round =>
    obtain ⟨i, hin, rfl, rfl, hge⟩ := hrel
    by_cases hlt : i < n
    · obtain ⟨bb, off, hAe, -, ck⟩ := num_at HX.out.1 (i := i) (by rw [HX.out.2]; exact hlt)
      obtain ⟨x, hx⟩ : ∃ x, l.getD i 0 = x := ⟨_, rfl⟩
      rw [hx] at ck
      have HG := Lib.hid (And.intro hge hx)
      subst hAe
      clear hge hx
      have q1 : (i : Int) < (n : Int) := by omega
      have q2 : (0 : Int) ≤ (i : Int) := by omega
      by_cases h1 : x < 0
      · have hr := symB_no (l := l) (size := size) (i := i) (by rw [HX.out.2]; exact hlt) (by rw [HG.out.2]; omega)
        rw [HR.out] at hr
        subst hr
        go_wp2
        go_ret
        first | exact ⟨rfl, rfl⟩ | exact ⟨rfl, trivial⟩
      · by_cases h2 : size ≤ x
        · have hr := symB_no (l := l) (size := size) (i := i) (by rw [HX.out.2]; exact hlt) (by rw [HG.out.2]; omega)
          rw [HR.out] at hr
          subst hr
          go_wp2
          go_ret
          first | exact ⟨rfl, rfl⟩ | exact ⟨rfl, trivial⟩
        · go_wp2
          go_roundw
          case rel =>
            refine ⟨i + 1, by omega, by go_num, by first | rfl | trivial, fun j hj => ?_⟩
            by_cases e : j = i
            · rw [e, HG.out.2]; omega
            · exact HG.out.1 j (by omega)
          case measure => simp [intOf]; omega
    · obtain rfl : i = n := by omega
      have hr := symB_yes (l := l) (size := size) (fun j hj => hge j (by rw [HX.out.2] at hj; exact hj))
      rw [HR.out] at hr
      subst hr
      clear hge
      have q1 : ¬ (i : Int) < (i : Int) := by omega
      go_wp2
      go_ret
      first | exact ⟨rfl, rfl⟩ | exact ⟨rfl, trivial⟩

set_option maxHeartbeats 2000000 in
theorem moved_any (A : Option Addr) (n c : Nat) (l : List Int) (by_ : Int) (w : World) (hA : NumsAt .i64 w A l) (hl : l.length = n) (hn : n ≤ 1000000) (hlo : ∀ x ∈ l, -1000000 ≤ x ∧ x ≤ 1000000) (hb : -10 ≤ by_ ∧ by_ ≤ 10) :
    Calls Tryz.prog 55 #[.slice A n c, .int .i64 by_] w fun e u => ∃ D, e = .returned (.slice (some ⟨D, 0, none⟩) n n) ∧ NumsAt .i64 u (some ⟨D, 0, none⟩) (l.map (· + by_)) ∧ w.heap.size ≤ D ∧ Below w.heap.size w u := by
  have HX := Lib.hid (And.intro hA (And.intro hl hlo))
  clear hA hl hlo
  obtain ⟨i0, hi, hz0, hz1, hz2⟩ := info_parts info3
  go_enter Tryz.func55, Tryz.ntmps55
  go_wp2_with (first | (at_make; refine wpList_make_full _ rfl _ _ 38 rfl w.heap.size 3 i0 (.int .i64 0) 1 Tryz.underlying38 hi hz0 hz1 _ _ _ _ n rfl rfl rfl rfl ?b2 ?b3 (Nat.le_refl _) ?_))
  case b2 => rw [hz2]; omega
  case b3 => unfold maxLen; omega
  intro w1 hown hgrow
  have hD := DI.made (Below.refl _ _) hown hgrow
  have HD := Lib.hid hD
  clear hown hgrow hD hi hz0 hz1 hz2
  obtain ⟨D, hDe⟩ : ∃ D, D = w.heap.size := ⟨_, rfl⟩
  rw [← hDe] at HD
  rw [← hDe]
  have HDE := Lib.hid hDe
  clear hDe
  go_wp2
  go_loopw [6, 7, 13] (fun _ _ v13 wr => ∃ i : Nat, i ≤ n ∧ v13 = .int .i64 (i : Int) ∧ DI w D n (fun k => if k < i then l.getD k 0 + by_ else 0) wr) (fun _ _ v13 _ => n - (intOf v13).toNat)
  case atStart => exact ⟨0, Nat.zero_le _, rfl, HD.out.congr fun i _ => by simp⟩
  case round =>
    obtain ⟨i, hin, rfl, hDr⟩ := hrel
    by_cases hlt : i < n
    · obtain ⟨bb, off, hAe, -, ck⟩ := num_at (HX.out.1.kept hDr.bel) (i := i) (by rw [HX.out.2.1]; exact hlt)
      have hx := HX.out.2.2 _ (getD_mem (b := 0) (show i < l.length by rw [HX.out.2.1]; exact hlt))
      have c1 := hDr.cell i hlt
      have z1 := hDr.frz i hlt
      have hset := hDr.set hlt (l.getD i 0 + by_)
      obtain ⟨x, hxe⟩ : ∃ x, l.getD i 0 = x := ⟨_, rfl⟩
      rw [hxe] at ck hx hset
      have HS := Lib.hid (And.intro hset hxe)
      clear hset hDr hxe
      subst hAe
      have q1 : (i : Int) < (n : Int) := by omega
      have q2 : (0 : Int) ≤ (i : Int) := by omega
      have q3 : IntKind.i64.wrap (x + by_) = x + by_ := IntWalk.i64_in _ (by omega)
      go_wp2
      go_roundw
      case rel =>
        refine ⟨i + 1, by omega, by go_num, HS.out.1.congr fun k _ => ?_⟩
        by_cases e : k = i
        · rw [if_pos e, if_pos (by omega), e, HS.out.2]
        · rw [if_neg e]
          by_cases e2 : k < i
          · rw [if_pos e2, if_pos (by omega)]
          · rw [if_neg e2, if_neg (by omega)]
      case measure => simp [intOf]; omega
    · obtain rfl : i = n := by omega
      have HF := Lib.hid hDr
      clear hDr
      have q1 : ¬ (i : Int) < (i : Int) := by omega
      go_wp2
      go_ret
      refine ⟨D, rfl, HF.out.nums (by rw [List.length_map, HX.out.2.1]) fun k hk => ?_, by rw [HDE.out]; exact Nat.le_refl _, HF.out.bel⟩
      rw [if_pos hk]
      have : k < l.length := by rw [HX.out.2.1]; exact hk
      simp [List.getD_eq_getElem?_getD, this]

/-- Where the suffixes begin, place by place. -/
def begL (l : List Int) : List Int := (List.range (l.length + 1)).map fun j => (plA l j : Int)
theorem begL_len (l : List Int) : (begL l).length = l.length + 1 := by simp [begL]
theorem begL_at (l : List Int) {j : Nat} (hj : j ≤ l.length) : (begL l).getD j 0 = (plA l j : Int) := by
  have : j < l.length + 1 := by omega
  simp [begL, List.getD_eq_getElem?_getD, this]

set_option maxHeartbeats 2000000 in
theorem begins_any (A : Option Addr) (n c : Nat) (l : List Int) (w : World) (hA : NumsAt .i64 w A (nextL l)) (hl : l.length + 1 = n) (hn : n ≤ 100000) (h64 : I64s l) (hnn : Nn l) :
    Calls Tryz.prog 78 #[.slice A n c] w fun e u => ∃ D, e = .returned (.slice (some ⟨D, 0, none⟩) n n) ∧ NumsAt .i64 u (some ⟨D, 0, none⟩) (begL l) ∧ w.heap.size ≤ D ∧ Below w.heap.size w u := by
  have HX := Lib.hid (And.intro hA (And.intro hl (And.intro h64 hnn)))
  have hlast : itS (sgL (nextL l)) 0 = 0 := rfl
  clear hA hl h64 hnn
  obtain ⟨i0, hi, hz0, hz1, hz2⟩ := info_parts info3
  go_enter Tryz.func78, Tryz.ntmps78
  go_wp2_with (first | (at_make; refine wpList_make_full _ rfl _ _ 38 rfl w.heap.size 3 i0 (.int .i64 0) 1 Tryz.underlying38 hi hz0 hz1 _ _ _ _ n rfl rfl rfl rfl ?b2 ?b3 (Nat.le_refl _) ?_))
  case b2 => rw [hz2]; omega
  case b3 => unfold maxLen; omega
  intro w1 hown hgrow
  have hD := DI.made (Below.refl _ _) hown hgrow
  have HD := Lib.hid hD
  clear hown hgrow hD hi hz0 hz1 hz2
  obtain ⟨D, hDe⟩ : ∃ D, D = w.heap.size := ⟨_, rfl⟩
  rw [← hDe] at HD
  rw [← hDe]
  have HDE := Lib.hid hDe
  have HL := Lib.hid hlast
  clear hDe hlast
  go_wp2
  go_loopw [4, 5, 11] (fun v4 _ v11 wr => ∃ i p : Nat, i ≤ n ∧ v11 = .int .i64 (i : Int) ∧ v4 = .int .i64 (p : Int) ∧ p = (if i = 0 then 0 else plR l (i - 1)) ∧ DI w D n (fun k => if plA l k < i then (plA l k : Int) else 0) wr) (fun _ _ v11 _ => n - (intOf v11).toNat)
  case atStart => exact ⟨0, 0, Nat.zero_le _, rfl, rfl, rfl, HD.out.congr fun i _ => by simp⟩
  case round =>
    obtain ⟨i, p, hin, rfl, rfl, hp, hDr⟩ := hrel
    by_cases hlt : i < n
    · have hll := HX.out.2.1
      have hi := plR_ok HX.out.2.2.1 HX.out.2.2.2 (p := i) (by omega)
      have hp2 : p < n ∧ nxF l p = plR l i := by
        by_cases e : i = 0
        · rw [if_pos e] at hp
          rw [hp, e]
          exact ⟨by omega, nxF_zero l⟩
        · rw [if_neg e] at hp
          have h3 := plR_ok HX.out.2.2.1 HX.out.2.2.2 (p := i - 1) (by omega)
          rw [hp]
          refine ⟨by omega, ?_⟩
          rw [nxF_R HX.out.2.2.1 HX.out.2.2.2 (by omega), show i - 1 + 1 = i by omega]
      obtain ⟨bb, off, hAe, -, ck⟩ := num_at (HX.out.1.kept hDr.bel) (i := p) (by rw [nextL_len]; omega)
      rw [nextL_at l (by omega), hp2.2] at ck
      obtain ⟨r, hr⟩ : ∃ r, plR l i = r := ⟨_, rfl⟩
      rw [hr] at ck hi
      have hrn : r < n := by omega
      have c1 := hDr.cell r hrn
      have z1 := hDr.frz r hrn
      have hset := hDr.set hrn (i : Int)
      have HS := Lib.hid (And.intro hset (And.intro hi hr))
      have hpn := hp2.1
      clear hset hDr hp hp2 hi hr hll
      subst hAe
      have q1 : (i : Int) < (n : Int) := by omega
      have q2 : (p : Int) < (n : Int) := by omega
      have q3 : (r : Int) < (n : Int) := by omega
      have q4 : (0 : Int) ≤ (p : Int) := by omega
      have q5 : (0 : Int) ≤ (r : Int) := by omega
      go_wp2
      go_roundw
      case rel =>
        have hll := HX.out.2.1
        refine ⟨i + 1, r, by omega, by go_num, rfl, by rw [if_neg (by omega), Nat.add_sub_cancel, HS.out.2.2], HS.out.1.congr fun k hk => ?_⟩
        by_cases e : k = r
        · rw [if_pos e, e, HS.out.2.1.2, if_pos (by omega)]
        · have : plA l k ≠ i := fun e2 => e (plA_inj HX.out.2.2.1 HX.out.2.2.2 (by omega) (by omega) (by rw [e2, HS.out.2.1.2]))
          rw [if_neg e]
          by_cases e2 : plA l k < i
          · rw [if_pos e2, if_pos (by omega)]
          · rw [if_neg e2, if_neg (by omega)]
      case measure => simp [intOf]; omega
    · obtain rfl : i = n := by omega
      have HF := Lib.hid hDr
      clear hDr hp
      have q1 : ¬ (i : Int) < (i : Int) := by omega
      go_wp2
      go_ret
      have hll := HX.out.2.1
      refine ⟨D, rfl, HF.out.nums (by rw [begL_len]; exact hll) fun k hk => ?_, by rw [HDE.out]; exact Nat.le_refl _, HF.out.bel⟩
      have := (allA_at HX.out.2.2.1 HX.out.2.2.2 (j := k) (by omega)).2
      rw [if_pos (by omega), begL_at l (by omega)]

end Go.Proofs.YtpnjccomngdblaaGreat
