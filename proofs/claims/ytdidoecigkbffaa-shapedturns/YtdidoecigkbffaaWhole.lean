/- The walk of ShapedWhole. -/
import Derived.Test.YtdidoecigkbffaaPA
set_option maxRecDepth 100000
namespace Go.Proofs.Ytdidoecigkbffaa
open Go.RowKit
open S J M
attribute [local go_sem ↓] Go.wp_at_zero Go.wp_at_succ

theorem and1023 (x : Int) : bits .and .i64 x 1023 = x % 1024 := and_mask x 10 (by omega)
/-- Numbers cut to 1023. -/
def mskL (xs : List Int) (k : Nat) : List Int := (xs.take k).map fun x => x % 1024
theorem mskL_succ (xs : List Int) (k : Nat) (h : k < xs.length) : mskL xs (k + 1) = mskL xs k ++ [xs.getD k 0 % 1024] := by
  unfold mskL
  rw [takeI_snoc xs k h, List.map_append]; rfl
theorem mskL_len (xs : List Int) (k : Nat) (h : k ≤ xs.length) : (mskL xs k).length = k := by simp [mskL]; omega
theorem mskL_in (xs : List Int) (k : Nat) : ∀ x ∈ mskL xs k, 0 ≤ x ∧ x < 1024 := by
  intro x hx
  unfold mskL at hx
  obtain ⟨y, -, rfl⟩ := List.mem_map.1 hx
  omega
theorem nums_one (w : World) (y : Int) : NumsAt .i64 (w.alloc (.cells #[.int .i64 y] 3)) (some ⟨w.heap.size, 0, none⟩) [y] := nums_block w [y]
theorem str_ne {l : List Bool} (h : l ≠ []) : (str l).toList.isEmpty = false := by
  rw [ByteArray.toList_eq]
  cases l with
  | nil => exact absurd rfl h
  | cons b t => rfl
theorem sum_wrap (sm e : Nat) (h : sm + e ≤ 1073741824) : wrap64 ((sm : Int) + wrap64 (e : Int)) = ((sm + e : Nat) : Int) := by
  rw [show wrap64 (e : Int) = (e : Int) by unfold wrap64; omega]
  unfold wrap64
  omega
theorem many_le (xs : List Int) (k : Nat) : many xs k ≤ k := loneL_length xs k

set_option maxHeartbeats 8000000 in
theorem whole_walk (A : Option Addr) (n0 c0 : Nat) (xs : List Int) (w : World) (hA : NumsAt .i64 w A xs) (hx : xs.length = n0) :
    Calls Try.prog 4 #[.slice A n0 c0] w fun e w' => e = .returned (.bool true) ∧ Below w.heap.size w w' := by
  have HX := Lib.hid (And.intro hA hx)
  clear hA hx
  go_enter Try.func4, Try.ntmps4
  go_wp2_with fail
  refine (awake_any _).mono ?_
  rintro e w1 ⟨rfl, hb1⟩
  have HB := Lib.hid hb1
  clear hb1
  go_wp2
  go_loopw [4, 5, 6, 7] (fun v4 v5 v6 _ wr => ∃ i : Nat, i ≤ n0 ∧ i ≤ 20 ∧ v6 = .int .i64 (i : Int) ∧ v5 = .int .i64 (many (mskL xs i) i : Nat) ∧ OwnI w1 v4 (mskL xs i) wr) (fun _ _ v6 _ _ => 20 - (intOf v6).toNat)
  case atStart => exact ⟨0, Nat.zero_le _, Nat.zero_le _, rfl, rfl, World.ownsRow_nil _ _ _ _, Below.refl _ _⟩
  case round =>
    obtain ⟨i, hin, hi20, rfl, rfl, hI⟩ := hrel
    by_cases hlt : i < n0 ∧ i < 20
    · obtain ⟨hl1, hl2⟩ := hlt
      obtain ⟨bb, off, hAe, hbl, hcb⟩ := num_at (HX.out.1.kept (HB.out.trans (hI.2.mono HB.out.size))) (i := i) (by rw [HX.out.2]; exact hl1)
      have hand := and1023 (xs.getD i 0)
      have hsu := mskL_succ xs i (by rw [HX.out.2]; exact hl1)
      have hml := mskL_len xs i (by rw [HX.out.2]; exact hin)
      have hma := many_app (mskL xs i) (xs.getD i 0 % 1024)
      have hmle := many_le (mskL xs i) i
      rw [hml] at hma
      have hy0 : 0 ≤ xs.getD i 0 % 1024 := by omega
      have hsz := hI.2.size
      have HM := Lib.hid (And.intro hI (And.intro hsu (And.intro hml hma)))
      subst hAe
      clear hI hsu hml hma
      generalize xs.getD i 0 % 1024 = y at *
      generalize xs.getD i 0 = x at *
      generalize many (mskL xs i) i = mn at *
      have q1 : (i : Int) < (n0 : Int) := by omega
      have q2 : (0 : Int) ≤ (i : Int) := by omega
      have q3 : (i : Int) < 20 := by omega
      go_wp2_with (first
        | (at_builtin
           refine wpList_append_nums rfl (.tmp 27) (.tmp 29) rfl w1.heap.size _ _ _ rfl (HM.out.1.alloc _).1 (some ⟨_, 0, none⟩) 1 1 [y] rfl rfl ?c1 (by simp) ?c2 ?c3 ?_))
      case c1 => exact nums_one _ _
      case c2 => rw [HM.out.2.2.1]; omega
      case c3 => first | omega | (simp; omega)
      intro v' w5 hown hgrow _
      have hI5 := (HM.out.1.alloc _).app (l' := mskL xs i ++ [y]) (by simpa using hown) hgrow
      have HX5 := Lib.hid hI5
      clear hown hgrow hI5
      by_cases hpos : 0 < y
      · go_wp2
        go_roundw
        case rel => exact ⟨i + 1, by omega, by omega, by go_num, by rw [HM.out.2.1, HM.out.2.2.2, if_pos hpos]; go_num, by rw [HM.out.2.1]; exact HX5.out⟩
        case measure => simp [intOf]; omega
      · go_wp2
        go_roundw
        case rel => exact ⟨i + 1, by omega, by omega, by go_num, by rw [HM.out.2.1, HM.out.2.2.2, if_neg hpos]; rfl, by rw [HM.out.2.1]; exact HX5.out⟩
        case measure => simp [intOf]; omega
    · have hml := mskL_len xs i (by rw [HX.out.2]; exact hin)
      obtain ⟨m, hm⟩ : ∃ m, m = mskL xs i := ⟨_, rfl⟩
      rw [← hm] at hml hI ⊢
      clear hm
      obtain ⟨ma, mc, rfl, hmn, -, hmc, -⟩ := nums_of_own hI.1
      have hb2 := HB.out.trans (hI.2.mono HB.out.size)
      have hco := codes_any ma i mc m wr hmn hml (by omega)
      have HCO := Lib.hid hco
      have HM := Lib.hid (And.intro hml hb2)
      rw [hml]
      clear hco hb2 hI hmn hmc hml
      obtain ⟨mn, hmn⟩ : ∃ mn, mn = many m i := ⟨_, rfl⟩
      rw [← hmn]
      have HMN := Lib.hid hmn
      clear hmn
      obtain ⟨w2, rfl⟩ : ∃ w2, w2 = wr := ⟨_, rfl⟩
      rcases (show (¬ (i : Int) < (n0 : Int)) ∨ ((i : Int) < (n0 : Int) ∧ ¬ (i : Int) < 20) by omega) with q1 | ⟨q1, q2⟩
      all_goals
        by_cases hfew : mn < 2
        · have q3 : (mn : Int) < 2 := by omega
          go_wp2
          go_ret
          exact ⟨rfl, HM.out.2⟩
        · have q3 : ¬ (mn : Int) < 2 := by omega
          go_wp2_with fail
          (with_reducible refine HCO.out.mono ?_)
          rintro e u2 ⟨C, ys, zs, rfl, hcod, hSR⟩
          rw [HM.out.1] at hcod hSR ⊢
          have hl2 : 2 ≤ ys.length := by have := hcod.many; have := HMN.out; omega
          have hall := hcod.wei_all hl2 (by omega)
          have hlen := fun c => hcod.len c
          have HC := Lib.hid (And.intro hSR (And.intro hall hlen))
          have hmono := fun k (hk : k ≤ i) => wei_mono (codF ys zs) hk
          rw [hall] at hmono
          have hsu : ∀ k, wei (codF ys zs) (k + 1) = wei (codF ys zs) k + if codF ys zs k = [] then 0 else 2 ^ (30 - (codF ys zs k).length) := fun _ => rfl
          have HSU := Lib.hid (And.intro hsu hmono)
          clear hcod hSR hall hlen hmono hsu HCO
          generalize codF ys zs = f at *
          go_wp2
          go_loopw [9, 10] (fun v9 v10 wr => ∃ k : Nat, k ≤ i ∧ v10 = .int .i64 (k : Int) ∧ v9 = .int .i64 (wei f k : Nat) ∧ wr = u2) (fun _ v10 _ => i - (intOf v10).toNat)
          case atStart => exact ⟨0, Nat.zero_le _, rfl, rfl, rfl⟩
          case round =>
            obtain ⟨k, hki, rfl, rfl, rfl⟩ := hrel
            by_cases hlt2 : k < i
            · have c1 := HC.out.1.cell k hlt2
              have hle := HC.out.2.2 k
              have hmo := HSU.out.2 (k + 1) hlt2
              have hs1 := HSU.out.1 k
              have HS1 := Lib.hid hs1
              rw [hs1] at hmo
              have hmo := Nat.le_trans hmo (show 2 ^ 30 ≤ 1073741824 by decide)
              have hsz := str_size (f k)
              clear hs1
              have q4 : (k : Int) < (i : Int) := by omega
              have q5 : (0 : Int) ≤ (k : Int) := by omega
              by_cases hnil : f k = []
              · rw [hnil] at c1
                rw [if_pos hnil] at HS1 hmo
                generalize wei f k = sm at *
                clear hsz
                have e0 : str [] = ⟨#[]⟩ := rfl
                rw [e0] at c1
                go_wp2
                go_roundw
                case rel => exact ⟨k + 1, by omega, by go_num, by rw [HS1.out]; rfl, trivial⟩
                case measure => simp [intOf]; omega
              · rw [if_neg hnil] at HS1 hmo
                have hne := str_ne hnil
                generalize wei f k = sm at *
                generalize (f k).length = ln at *
                generalize str (f k) = s at *
                have hp : (2 : Int) ^ (30 - ln) = ((2 ^ (30 - ln) : Nat) : Int) := by simp
                have HP := Lib.hid hp
                clear hp
                have q6 : ¬ (30 : Int) < (ln : Int) := by omega
                go_wp2
                go_roundw
                case rel =>
                  refine ⟨k + 1, by omega, by go_num, ?_, trivial⟩
                  rw [HS1.out, HP.out]
                  generalize (2 : Nat) ^ (30 - ln) = ee at *
                  exact congrArg (Value.int .i64) (sum_wrap sm ee hmo)
                case measure => simp [intOf]; omega
            · obtain rfl : k = i := by omega
              have q4 : ¬ (k : Int) < (k : Int) := by omega
              rw [HC.out.2.1]
              have HF := Lib.hid (HM.out.2.trans (HC.out.1.bel.mono HM.out.2.size))
              go_wp2
              go_ret
              exact ⟨rfl, HF.out⟩

end Go.Proofs.Ytdidoecigkbffaa
