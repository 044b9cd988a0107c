/- The walk of OrderSorts. -/
import Derived.Test.YtjijkiafjlfeiaaOM
import Derived.Test.YtjijkiafjlfeiaaLess
set_option maxRecDepth 100000
namespace Go.Proofs.Ytjijkiafjlfeiaa
open Go.RowKit
open M
attribute [local go_sem ↓] Go.wp_at_zero Go.wp_at_succ

/-- Numbers made keys of a size by their rests. -/
def cutI (s x : Int) : Int := (x.tmod s + s).tmod s
theorem cutI_in (s x : Int) (hs : 1 ≤ s) : 0 ≤ cutI s x ∧ cutI s x < s := by
  unfold cutI
  have t2 := Int.lt_tmod_of_pos x (b := s) (by omega)
  rw [Int.tmod_eq_emod_of_nonneg (by omega)]
  exact ⟨Int.emod_nonneg _ (by omega), Int.emod_lt_of_pos _ (by omega)⟩
def cutL (s : Int) (xs : List Int) (k : Nat) : List Int := (xs.take k).map (cutI s)
theorem cutL_succ (s : Int) (xs : List Int) (k : Nat) (h : k < xs.length) : cutL s xs (k + 1) = cutL s xs k ++ [cutI s (xs.getD k 0)] := by
  unfold cutL
  rw [takeI_snoc xs k h, List.map_append]; rfl
theorem cutL_len (s : Int) (xs : List Int) (k : Nat) (h : k ≤ xs.length) : (cutL s xs k).length = k := by simp [cutL]; omega
theorem cutL_in (s : Int) (xs : List Int) (k : Nat) (hs : 1 ≤ s) : ∀ x ∈ cutL s xs k, 0 ≤ x ∧ x < s := by
  intro x hx
  unfold cutL at hx
  obtain ⟨y, -, rfl⟩ := List.mem_map.1 hx
  exact cutI_in s y hs

set_option maxHeartbeats 8000000 in
theorem sorts_walk (A : Option Addr) (n0 c0 : Nat) (xs : List Int) (size0 : Int) (cut : Bool) (w : World) (hA : NumsAt .i64 w A xs) (hx : xs.length = n0) (hc : n0 ≤ c0) (h64 : I64s xs) :
    Calls Try.prog 3 #[.slice A n0 c0, .int .i64 size0, .bool cut] w fun e w' => e = .returned (.bool true) ∧ Below w.heap.size w w' := by
  obtain ⟨n, hn⟩ : ∃ n, n = min n0 40 := ⟨_, rfl⟩
  have hn40 : n ≤ 40 := by omega
  have hmn := hA.take n
  have hml : (xs.take n).length = n := by rw [List.length_take]; omega
  have hm64 := h64.take n
  have hfw := fun u => few_any A n0 c0 u hc
  rw [← hn] at hfw
  clear hn hA hx hc h64
  generalize xs.take n = m at *
  have HX := Lib.hid (And.intro hmn (And.intro hml hm64))
  have HFW := Lib.hid hfw
  clear hmn hml hfw hm64
  go_enter Try.func3, Try.ntmps3
  go_wp2_with fail
  refine (awake_any _).mono ?_
  rintro e w1 ⟨rfl, hb1⟩
  have HB := Lib.hid hb1
  clear hb1
  go_wp2_with fail
  (with_reducible refine (HFW.out _).mono ?_)
  rintro e w2 ⟨rfl, rfl⟩
  rcases cut with _ | _
  · obtain ⟨pa, hpa⟩ : ∃ pa, pa = A := ⟨_, rfl⟩
    obtain ⟨pc, hpc⟩ : ∃ pc, pc = c0 := ⟨_, rfl⟩
    have HP := Lib.hid (And.intro (HX.out.1.kept HB.out) (And.intro HX.out.2.1 (And.intro HB.out HX.out.2.2)))
    rw [← hpa] at HP
    rw [← hpa, ← hpc]
    obtain ⟨P, hP⟩ : ∃ P, P = m := ⟨_, rfl⟩
    rw [← hP] at HP
    obtain ⟨u, hu⟩ : ∃ u, u = w2 := ⟨_, rfl⟩
    rw [← hu] at HP
    rw [← hu]
    obtain ⟨sz, hsz⟩ : ∃ sz, sz = size0 := ⟨_, rfl⟩
    rw [← hsz]
    clear hpa hpc hP HX HFW HB hu hsz
    by_cases z1 : sz < 1
    · have z2 : ¬ (100000 : Int) < sz := by omega
      have z3 : ¬ (1 : Int) ≤ sz := by omega
      have HMAY := Lib.hid (show ¬ MayS P sz from fun h => by have := h.1; omega)
      have hst := stable_any pa n pc P sz u HP.out.1 HP.out.2.1 (by omega) HP.out.2.2.2
      have HST := Lib.hid hst
      clear hst
      go_wp2_with fail
      (with_reducible refine HST.out.mono ?_)
      rintro e u2 ⟨hb2, ⟨hyes, -⟩ | ⟨-, rfl⟩⟩
      · exact absurd hyes HMAY.out
      have hPk := HP.out.1.kept hb2
      have H2 := Lib.hid (And.intro hPk (HP.out.2.2.1.trans (hb2.mono HP.out.2.2.1.size)))
      clear hb2 hPk HST
      go_wp2
      go_loopw [13, 14] (fun v13 v14 wr => ∃ (i : Nat) (b : Bool), i ≤ n ∧ v14 = .int .i64 (i : Int) ∧ v13 = .bool b ∧ wr = u2 ∧ (b = true → 1 ≤ sz ∧ sz ≤ 1048576 ∧ ∀ j, j < i → 0 ≤ P.getD j 0 ∧ P.getD j 0 < sz)) (fun _ v14 _ => n - (intOf v14).toNat)
      case atStart => exact ⟨0, false, Nat.zero_le _, rfl, by first | rfl | simp [*], rfl, fun h => by cases h⟩
      case round =>
        obtain ⟨i, b, hin, rfl, rfl, rfl, hb⟩ := hrel
        by_cases hlt : i < n
        · obtain ⟨bb, off, hAe, -, ci⟩ := num_at H2.out.1 (i := i) (by rw [HP.out.2.1]; exact hlt)
          obtain ⟨x, hx⟩ : ∃ x, x = P.getD i 0 := ⟨_, rfl⟩
          rw [← hx] at ci
          have HXX := Lib.hid hx
          subst hAe
          clear hx
          have HBB := Lib.hid hb
          clear hb
          have q6 : (i : Int) < (n : Int) := by omega
          have q7 : (0 : Int) ≤ (i : Int) := by omega
          rcases b with _ | _
          · go_wp2
            go_roundw
            case rel => exact ⟨i + 1, false, by omega, by go_num, rfl, trivial, fun h => by cases h⟩
            case measure => simp [intOf]; omega
          · by_cases hx0 : (0 : Int) ≤ x
            · by_cases hx1 : x < sz
              · go_wp2
                go_roundw
                case rel =>
                  refine ⟨i + 1, true, by omega, by go_num, by first | rfl | simp [*], trivial, fun h => ?_⟩
                  obtain ⟨g1, g2, g3⟩ := HBB.out rfl
                  refine ⟨g1, g2, fun j hj => ?_⟩
                  by_cases e : j = i
                  · rw [e, ← HXX.out]; exact ⟨hx0, hx1⟩
                  · exact g3 j (by omega)
                case measure => simp [intOf]; omega
              · go_wp2
                go_roundw
                case rel => exact ⟨i + 1, false, by omega, by go_num, by first | rfl | (simp; omega), trivial, fun h => by cases h⟩
                case measure => simp [intOf]; omega
            · go_wp2
              go_roundw
              case rel => exact ⟨i + 1, false, by omega, by go_num, by first | rfl | (simp; omega), trivial, fun h => by cases h⟩
              case measure => simp [intOf]; omega
        · obtain rfl : i = n := by omega
          have q6 : ¬ (i : Int) < (i : Int) := by omega
          obtain rfl : b = false := by
            cases b with
            | false => rfl
            | true =>
              obtain ⟨g1, g2, g3⟩ := hb rfl
              refine absurd ⟨g1, g2, fun x hx => ?_⟩ HMAY.out
              obtain ⟨j, hj, e⟩ := List.getElem_of_mem hx
              have := g3 j (by have := HP.out.2.1; omega)
              rw [List.getD_eq_getElem?_getD, List.getElem?_eq_getElem hj, Option.getD_some, e] at this
              exact this
          clear hb
          go_wp2
          go_ret
          exact ⟨rfl, H2.out.2⟩
    · by_cases z2 : sz ≤ 100000
      · have z3 : ¬ (100000 : Int) < sz := by omega
        have z4 : (1 : Int) ≤ sz := by omega
        have z5 : sz ≤ 1048576 := by omega
        by_cases hmay : MayS P sz
        · have HMAY := Lib.hid hmay
          clear hmay
          have hst := stable_any pa n pc P sz u HP.out.1 HP.out.2.1 (by omega) HP.out.2.2.2
          have HST := Lib.hid hst
          clear hst
          go_wp2_with fail
          (with_reducible refine HST.out.mono ?_)
          rintro e u2 ⟨hb2, ⟨-, A2, c2, hc2, rfl, hn2⟩ | ⟨hno, -⟩⟩
          rotate_left
          · exact absurd HMAY.out hno
          have hPk := HP.out.1.kept hb2
          have H2 := Lib.hid (And.intro hn2 (And.intro hPk (HP.out.2.2.1.trans (hb2.mono HP.out.2.2.1.size))))
          clear hn2 hb2 hPk HST
          go_wp2
          go_loopw [13, 14] (fun v13 v14 wr => ∃ i : Nat, i ≤ n ∧ v14 = .int .i64 (i : Int) ∧ v13 = .bool true ∧ wr = u2) (fun _ v14 _ => n - (intOf v14).toNat)
          case atStart => exact ⟨0, Nat.zero_le _, rfl, by first | rfl | simp [*], rfl⟩
          case round =>
            obtain ⟨i, hin, rfl, rfl, rfl⟩ := hrel
            by_cases hlt : i < n
            · obtain ⟨bb, off, hAe, -, ci⟩ := num_at H2.out.2.1 (i := i) (by rw [HP.out.2.1]; exact hlt)
              have hok := HMAY.out.2.2 _ (memI P i (by rw [HP.out.2.1]; exact hlt))
              generalize P.getD i 0 = x at *
              subst hAe
              obtain ⟨hok1, hok2⟩ := hok
              have q6 : (i : Int) < (n : Int) := by omega
              have q7 : (0 : Int) ≤ (i : Int) := by omega
              go_wp2
              go_roundw
              case rel => exact ⟨i + 1, by omega, by go_num, by first | rfl | simp [*], trivial⟩
              case measure => simp [intOf]; omega
            · obtain rfl : i = n := by omega
              have q6 : ¬ (i : Int) < (i : Int) := by omega
              have hrs := rstable_any pa i pc P wr H2.out.2.1 HP.out.2.1 (by omega)
              have HRS := Lib.hid hrs
              clear hrs
              go_wp2_with fail
              (with_reducible refine HRS.out.mono ?_)
              rintro e u3 ⟨v, rfl, hI⟩
              obtain ⟨ra, rc, rfl, hrn, -, -, -⟩ := nums_of_own hI.1
              have hsa := rsame_any A2 ra i i c2 rc _ _ u3 (H2.out.1.kept hI.2) hrn (ordP_length _ _) (ordP_length _ _) (by omega)
              rw [decide_eq_true rfl] at hsa
              have HSA := Lib.hid hsa
              have H3 := Lib.hid (H2.out.2.2.trans (hI.2.mono H2.out.2.2.size))
              rw [ordP_length]
              clear hsa hrn hI HRS
              go_wp2_with fail
              (with_reducible refine HSA.out.mono ?_)
              rintro e u4 ⟨rfl, hb4⟩
              have HF := Lib.hid (H3.out.trans (hb4.mono H3.out.size))
              clear hb4
              go_wp2
              go_ret
              exact ⟨rfl, HF.out⟩
        · have HMAY := Lib.hid hmay
          clear hmay
          have hst := stable_any pa n pc P sz u HP.out.1 HP.out.2.1 (by omega) HP.out.2.2.2
          have HST := Lib.hid hst
          clear hst
          go_wp2_with fail
          (with_reducible refine HST.out.mono ?_)
          rintro e u2 ⟨hb2, ⟨hyes, -⟩ | ⟨-, rfl⟩⟩
          · exact absurd hyes HMAY.out
          have hPk := HP.out.1.kept hb2
          have H2 := Lib.hid (And.intro hPk (HP.out.2.2.1.trans (hb2.mono HP.out.2.2.1.size)))
          clear hb2 hPk HST
          go_wp2
          go_loopw [13, 14] (fun v13 v14 wr => ∃ (i : Nat) (b : Bool), i ≤ n ∧ v14 = .int .i64 (i : Int) ∧ v13 = .bool b ∧ wr = u2 ∧ (b = true → 1 ≤ sz ∧ sz ≤ 1048576 ∧ ∀ j, j < i → 0 ≤ P.getD j 0 ∧ P.getD j 0 < sz)) (fun _ v14 _ => n - (intOf v14).toNat)
          case atStart => exact ⟨0, true, Nat.zero_le _, rfl, by first | rfl | simp [*], rfl, fun _ => ⟨z4, z5, fun j hj => by omega⟩⟩
          case round =>
            obtain ⟨i, b, hin, rfl, rfl, rfl, hb⟩ := hrel
            by_cases hlt : i < n
            · obtain ⟨bb, off, hAe, -, ci⟩ := num_at H2.out.1 (i := i) (by rw [HP.out.2.1]; exact hlt)
              obtain ⟨x, hx⟩ : ∃ x, x = P.getD i 0 := ⟨_, rfl⟩
              rw [← hx] at ci
              have HXX := Lib.hid hx
              subst hAe
              clear hx
              have HBB := Lib.hid hb
              clear hb
              have q6 : (i : Int) < (n : Int) := by omega
              have q7 : (0 : Int) ≤ (i : Int) := by omega
              rcases b with _ | _
              · go_wp2
                go_roundw
                case rel => exact ⟨i + 1, false, by omega, by go_num, rfl, trivial, fun h => by cases h⟩
                case measure => simp [intOf]; omega
              · by_cases hx0 : (0 : Int) ≤ x
                · by_cases hx1 : x < sz
                  · go_wp2
                    go_roundw
                    case rel =>
                      refine ⟨i + 1, true, by omega, by go_num, by first | rfl | simp [*], trivial, fun h => ?_⟩
                      obtain ⟨g1, g2, g3⟩ := HBB.out rfl
                      refine ⟨g1, g2, fun j hj => ?_⟩
                      by_cases e : j = i
                      · rw [e, ← HXX.out]; exact ⟨hx0, hx1⟩
                      · exact g3 j (by omega)
                    case measure => simp [intOf]; omega
                  · go_wp2
                    go_roundw
                    case rel => exact ⟨i + 1, false, by omega, by go_num, by first | rfl | (simp; omega), trivial, fun h => by cases h⟩
                    case measure => simp [intOf]; omega
                · go_wp2
                  go_roundw
                  case rel => exact ⟨i + 1, false, by omega, by go_num, by first | rfl | (simp; omega), trivial, fun h => by cases h⟩
                  case measure => simp [intOf]; omega
            · obtain rfl : i = n := by omega
              have q6 : ¬ (i : Int) < (i : Int) := by omega
              obtain rfl : b = false := by
                cases b with
                | false => rfl
                | true =>
                  obtain ⟨g1, g2, g3⟩ := hb rfl
                  refine absurd ⟨g1, g2, fun x hx => ?_⟩ HMAY.out
                  obtain ⟨j, hj, e⟩ := List.getElem_of_mem hx
                  have := g3 j (by have := HP.out.2.1; omega)
                  rw [List.getD_eq_getElem?_getD, List.getElem?_eq_getElem hj, Option.getD_some, e] at this
                  exact this
              clear hb
              go_wp2
              go_ret
              exact ⟨rfl, H2.out.2⟩
      · have z3 : (100000 : Int) < sz := by omega
        by_cases z4 : sz ≤ 1048576
        · by_cases hmay : MayS P (100000 : Int)
          · have HMAY := Lib.hid hmay
            clear hmay
            have hst := stable_any pa n pc P (100000 : Int) u HP.out.1 HP.out.2.1 (by omega) HP.out.2.2.2
            have HST := Lib.hid hst
            clear hst
            go_wp2_with fail
            (with_reducible refine HST.out.mono ?_)
            rintro e u2 ⟨hb2, ⟨-, A2, c2, hc2, rfl, hn2⟩ | ⟨hno, -⟩⟩
            rotate_left
            · exact absurd HMAY.out hno
            have hPk := HP.out.1.kept hb2
            have H2 := Lib.hid (And.intro hn2 (And.intro hPk (HP.out.2.2.1.trans (hb2.mono HP.out.2.2.1.size))))
            clear hn2 hb2 hPk HST
            go_wp2
            go_loopw [13, 14] (fun v13 v14 wr => ∃ i : Nat, i ≤ n ∧ v14 = .int .i64 (i : Int) ∧ v13 = .bool true ∧ wr = u2) (fun _ v14 _ => n - (intOf v14).toNat)
            case atStart => exact ⟨0, Nat.zero_le _, rfl, by first | rfl | simp [*], rfl⟩
            case round =>
              obtain ⟨i, hin, rfl, rfl, rfl⟩ := hrel
              by_cases hlt : i < n
              · obtain ⟨bb, off, hAe, -, ci⟩ := num_at H2.out.2.1 (i := i) (by rw [HP.out.2.1]; exact hlt)
                have hok := HMAY.out.2.2 _ (memI P i (by rw [HP.out.2.1]; exact hlt))
                generalize P.getD i 0 = x at *
                subst hAe
                obtain ⟨hok1, hok2⟩ := hok
                have q6 : (i : Int) < (n : Int) := by omega
                have q7 : (0 : Int) ≤ (i : Int) := by omega
                go_wp2
                go_roundw
                case rel => exact ⟨i + 1, by omega, by go_num, by first | rfl | simp [*], trivial⟩
                case measure => simp [intOf]; omega
              · obtain rfl : i = n := by omega
                have q6 : ¬ (i : Int) < (i : Int) := by omega
                have hrs := rstable_any pa i pc P wr H2.out.2.1 HP.out.2.1 (by omega)
                have HRS := Lib.hid hrs
                clear hrs
                go_wp2_with fail
                (with_reducible refine HRS.out.mono ?_)
                rintro e u3 ⟨v, rfl, hI⟩
                obtain ⟨ra, rc, rfl, hrn, -, -, -⟩ := nums_of_own hI.1
                have hsa := rsame_any A2 ra i i c2 rc _ _ u3 (H2.out.1.kept hI.2) hrn (ordP_length _ _) (ordP_length _ _) (by omega)
                rw [decide_eq_true rfl] at hsa
                have HSA := Lib.hid hsa
                have H3 := Lib.hid (H2.out.2.2.trans (hI.2.mono H2.out.2.2.size))
                rw [ordP_length]
                clear hsa hrn hI HRS
                go_wp2_with fail
                (with_reducible refine HSA.out.mono ?_)
                rintro e u4 ⟨rfl, hb4⟩
                have HF := Lib.hid (H3.out.trans (hb4.mono H3.out.size))
                clear hb4
                go_wp2
                go_ret
                exact ⟨rfl, HF.out⟩
          · have HMAY := Lib.hid hmay
            clear hmay
            have hst := stable_any pa n pc P (100000 : Int) u HP.out.1 HP.out.2.1 (by omega) HP.out.2.2.2
            have HST := Lib.hid hst
            clear hst
            go_wp2_with fail
            (with_reducible refine HST.out.mono ?_)
            rintro e u2 ⟨hb2, ⟨hyes, -⟩ | ⟨-, rfl⟩⟩
            · exact absurd hyes HMAY.out
            have hPk := HP.out.1.kept hb2
            have H2 := Lib.hid (And.intro hPk (HP.out.2.2.1.trans (hb2.mono HP.out.2.2.1.size)))
            clear hb2 hPk HST
            go_wp2
            go_loopw [13, 14] (fun v13 v14 wr => ∃ (i : Nat) (b : Bool), i ≤ n ∧ v14 = .int .i64 (i : Int) ∧ v13 = .bool b ∧ wr = u2 ∧ (b = true → 1 ≤ (100000 : Int) ∧ (100000 : Int) ≤ 1048576 ∧ ∀ j, j < i → 0 ≤ P.getD j 0 ∧ P.getD j 0 < (100000 : Int))) (fun _ v14 _ => n - (intOf v14).toNat)
            case atStart => exact ⟨0, true, Nat.zero_le _, rfl, by first | rfl | simp [*], rfl, fun _ => ⟨by omega, by omega, fun j hj => by omega⟩⟩
            case round =>
              obtain ⟨i, b, hin, rfl, rfl, rfl, hb⟩ := hrel
              by_cases hlt : i < n
              · obtain ⟨bb, off, hAe, -, ci⟩ := num_at H2.out.1 (i := i) (by rw [HP.out.2.1]; exact hlt)
                obtain ⟨x, hx⟩ : ∃ x, x = P.getD i 0 := ⟨_, rfl⟩
                rw [← hx] at ci
                have HXX := Lib.hid hx
                subst hAe
                clear hx
                have HBB := Lib.hid hb
                clear hb
                have q6 : (i : Int) < (n : Int) := by omega
                have q7 : (0 : Int) ≤ (i : Int) := by omega
                rcases b with _ | _
                · go_wp2
                  go_roundw
                  case rel => exact ⟨i + 1, false, by omega, by go_num, rfl, trivial, fun h => by cases h⟩
                  case measure => simp [intOf]; omega
                · by_cases hx0 : (0 : Int) ≤ x
                  · by_cases hx1 : x < (100000 : Int)
                    · go_wp2
                      go_roundw
                      case rel =>
                        refine ⟨i + 1, true, by omega, by go_num, by first | rfl | simp [*], trivial, fun h => ?_⟩
                        obtain ⟨g1, g2, g3⟩ := HBB.out rfl
                        refine ⟨g1, g2, fun j hj => ?_⟩
                        by_cases e : j = i
                        · rw [e, ← HXX.out]; exact ⟨hx0, hx1⟩
                        · exact g3 j (by omega)
                      case measure => simp [intOf]; omega
                    · go_wp2
                      go_roundw
                      case rel => exact ⟨i + 1, false, by omega, by go_num, by first | rfl | (simp; omega), trivial, fun h => by cases h⟩
                      case measure => simp [intOf]; omega
                  · go_wp2
                    go_roundw
                    case rel => exact ⟨i + 1, false, by omega, by go_num, by first | rfl | (simp; omega), trivial, fun h => by cases h⟩
                    case measure => simp [intOf]; omega
              · obtain rfl : i = n := by omega
                have q6 : ¬ (i : Int) < (i : Int) := by omega
                obtain rfl : b = false := by
                  cases b with
                  | false => rfl
                  | true =>
                    obtain ⟨g1, g2, g3⟩ := hb rfl
                    refine absurd ⟨g1, g2, fun x hx => ?_⟩ HMAY.out
                    obtain ⟨j, hj, e⟩ := List.getElem_of_mem hx
                    have := g3 j (by have := HP.out.2.1; omega)
                    rw [List.getD_eq_getElem?_getD, List.getElem?_eq_getElem hj, Option.getD_some, e] at this
                    exact this
                clear hb
                go_wp2
                go_ret
                exact ⟨rfl, H2.out.2⟩
        · have z5 : (1 : Int) ≤ sz := by omega
          have HMAY := Lib.hid (show ¬ MayS P sz from fun h => by have := h.2.1; omega)
          have hst := stable_any pa n pc P sz u HP.out.1 HP.out.2.1 (by omega) HP.out.2.2.2
          have HST := Lib.hid hst
          clear hst
          go_wp2_with fail
          (with_reducible refine HST.out.mono ?_)
          rintro e u2 ⟨hb2, ⟨hyes, -⟩ | ⟨-, rfl⟩⟩
          · exact absurd hyes HMAY.out
          have hPk := HP.out.1.kept hb2
          have H2 := Lib.hid (And.intro hPk (HP.out.2.2.1.trans (hb2.mono HP.out.2.2.1.size)))
          clear hb2 hPk HST
          go_wp2
          go_loopw [13, 14] (fun v13 v14 wr => ∃ (i : Nat) (b : Bool), i ≤ n ∧ v14 = .int .i64 (i : Int) ∧ v13 = .bool b ∧ wr = u2 ∧ (b = true → 1 ≤ sz ∧ sz ≤ 1048576 ∧ ∀ j, j < i → 0 ≤ P.getD j 0 ∧ P.getD j 0 < sz)) (fun _ v14 _ => n - (intOf v14).toNat)
          case atStart => exact ⟨0, false, Nat.zero_le _, rfl, by first | rfl | simp [*], rfl, fun h => by cases h⟩
          case round =>
            obtain ⟨i, b, hin, rfl, rfl, rfl, hb⟩ := hrel
            by_cases hlt : i < n
            · obtain ⟨bb, off, hAe, -, ci⟩ := num_at H2.out.1 (i := i) (by rw [HP.out.2.1]; exact hlt)
              obtain ⟨x, hx⟩ : ∃ x, x = P.getD i 0 := ⟨_, rfl⟩
              rw [← hx] at ci
              have HXX := Lib.hid hx
              subst hAe
              clear hx
              have HBB := Lib.hid hb
              clear hb
              have q6 : (i : Int) < (n : Int) := by omega
              have q7 : (0 : Int) ≤ (i : Int) := by omega
              rcases b with _ | _
              · go_wp2
                go_roundw
                case rel => exact ⟨i + 1, false, by omega, by go_num, rfl, trivial, fun h => by cases h⟩
                case measure => simp [intOf]; omega
              · by_cases hx0 : (0 : Int) ≤ x
                · by_cases hx1 : x < sz
                  · go_wp2
                    go_roundw
                    case rel =>
                      refine ⟨i + 1, true, by omega, by go_num, by first | rfl | simp [*], trivial, fun h => ?_⟩
                      obtain ⟨g1, g2, g3⟩ := HBB.out rfl
                      refine ⟨g1, g2, fun j hj => ?_⟩
                      by_cases e : j = i
                      · rw [e, ← HXX.out]; exact ⟨hx0, hx1⟩
                      · exact g3 j (by omega)
                    case measure => simp [intOf]; omega
                  · go_wp2
                    go_roundw
                    case rel => exact ⟨i + 1, false, by omega, by go_num, by first | rfl | (simp; omega), trivial, fun h => by cases h⟩
                    case measure => simp [intOf]; omega
                · go_wp2
                  go_roundw
                  case rel => exact ⟨i + 1, false, by omega, by go_num, by first | rfl | (simp; omega), trivial, fun h => by cases h⟩
                  case measure => simp [intOf]; omega
            · obtain rfl : i = n := by omega
              have q6 : ¬ (i : Int) < (i : Int) := by omega
              obtain rfl : b = false := by
                cases b with
                | false => rfl
                | true =>
                  obtain ⟨g1, g2, g3⟩ := hb rfl
                  refine absurd ⟨g1, g2, fun x hx => ?_⟩ HMAY.out
                  obtain ⟨j, hj, e⟩ := List.getElem_of_mem hx
                  have := g3 j (by have := HP.out.2.1; omega)
                  rw [List.getD_eq_getElem?_getD, List.getElem?_eq_getElem hj, Option.getD_some, e] at this
                  exact this
              clear hb
              go_wp2
              go_ret
              exact ⟨rfl, H2.out.2⟩
  · have hand : bits .and .i64 size0 31 = size0 % 32 := and_mask size0 5 (by omega)
    obtain ⟨s, hs, hs1, hs2⟩ : ∃ s : Nat, 1 + size0 % 32 = (s : Int) ∧ 1 ≤ s ∧ s ≤ 32 := ⟨(1 + size0 % 32).toNat, by omega, by omega, by omega⟩
    obtain ⟨t, ht⟩ : ∃ t, size0 % 32 = t := ⟨_, rfl⟩
    rw [ht] at hand hs
    clear ht
    have hw : IntKind.i64.wrap (1 + t) = 1 + t := IntWalk.i64_in _ (by omega)
    go_wp2
    have h0 : ((s : Int) == 0) = false := by simp; omega
    have h0' : (s : Int) ≠ 0 := by omega
    clear hs hw hand
    go_loopw [9, 10] (fun v9 v10 wr => ∃ i : Nat, i ≤ n ∧ v10 = .int .i64 (i : Int) ∧ OwnI w2 v9 (cutL s m i) wr) (fun _ v10 _ => n - (intOf v10).toNat)
    case atStart => exact ⟨0, Nat.zero_le _, rfl, World.ownsRow_nil _ _ _ _, Below.refl _ _⟩
    case round =>
      obtain ⟨i, hin, rfl, hI⟩ := hrel
      by_cases hlt : i < n
      · obtain ⟨bb, off, hAe, hbl, hcb⟩ := num_at ((HX.out.1.kept HB.out).kept hI.2) (i := i) (by rw [HX.out.2.1]; exact hlt)
        have hsu := cutL_succ s m i (by rw [HX.out.2.1]; exact hlt)
        have hml := cutL_len s m i (by rw [HX.out.2.1]; exact hin)
        generalize m.getD i 0 = x at *
        have hsz := hI.2.size
        have HM := Lib.hid (And.intro hI (And.intro hsu hml))
        subst hAe
        clear hI hsu hml
        obtain ⟨y, hy⟩ : ∃ y, x.tmod s = y := ⟨_, rfl⟩
        have t1 := Int.tmod_lt_of_pos x (b := (s : Int)) (by omega)
        have t2 := Int.lt_tmod_of_pos x (b := (s : Int)) (by omega)
        rw [hy] at t1 t2
        obtain ⟨z, hz⟩ : ∃ z, z = cutI s x := ⟨_, rfl⟩
        rw [← hz] at HM
        have hyz : (y + (s : Int)).tmod s = z := by rw [hz]; unfold cutI; rw [hy]
        clear hz
        have qw : IntKind.i64.wrap (y + (s : Int)) = y + (s : Int) := IntWalk.i64_in _ (by omega)
        have q1 : (i : Int) < (n : Int) := by omega
        have q2 : (0 : Int) ≤ (i : Int) := by omega
        go_wp2_with (first
          | (at_builtin
             refine wpList_append_nums rfl (.tmp 29) (.tmp 40) rfl w2.heap.size _ _ _ rfl (HM.out.1.alloc _).1 (some ⟨_, 0, none⟩) 1 1 [z] rfl rfl ?c1 (by simp) ?c2 ?c3 ?_))
        case c1 => exact nums_one _ _
        case c2 => rw [HM.out.2.2]; omega
        case c3 => first | omega | (simp; omega)
        intro v' w5 hown hgrow _
        have hI5 := (HM.out.1.alloc _).app (l' := cutL s m i ++ [z]) (by simpa using hown) hgrow
        have HX5 := Lib.hid hI5
        clear hown hgrow hI5
        go_wp2
        go_roundw
        case rel => exact ⟨i + 1, by omega, by go_num, by rw [HM.out.2.1]; exact HX5.out⟩
        case measure => simp [intOf]; omega
      · obtain rfl : i = n := by omega
        have q1 : ¬ (i : Int) < (i : Int) := by omega
        have hcl := cutL_len s m i (by rw [HX.out.2.1]; exact Nat.le_refl _)
        have hci := cutL_in s m i (by omega)
        obtain ⟨P, hP⟩ : ∃ P, P = cutL s m i := ⟨_, rfl⟩
        rw [← hP] at hcl hci hI
        clear hP
        obtain ⟨pa, pc, rfl, hpn, -, -, -⟩ := nums_of_own hI.1
        have HP := Lib.hid (And.intro hpn (And.intro hcl (And.intro (HB.out.trans (hI.2.mono HB.out.size)) (show I64s P from fun x hx => by have := hci x hx; omega))))
        have HMAY := Lib.hid (show MayS P (s : Int) from ⟨by omega, by omega, hci⟩)
        rw [hcl]
        obtain ⟨u, rfl⟩ : ∃ u, u = wr := ⟨_, rfl⟩
        obtain ⟨n, rfl⟩ : ∃ n, n = i := ⟨_, rfl⟩
        clear hcl hci hI hpn HX HFW HB
        have z3 : ¬ (100000 : Int) < (s : Int) := by omega
        have z4 : (1 : Int) ≤ (s : Int) := by omega
        have z5 : (s : Int) ≤ 1048576 := by omega
        have hst := stable_any pa n pc P (s : Int) u HP.out.1 HP.out.2.1 (by omega) HP.out.2.2.2
        have HST := Lib.hid hst
        clear hst
        go_wp2_with fail
        (with_reducible refine HST.out.mono ?_)
        rintro e u2 ⟨hb2, ⟨-, A2, c2, hc2, rfl, hn2⟩ | ⟨hno, -⟩⟩
        rotate_left
        · exact absurd HMAY.out hno
        have hPk := HP.out.1.kept hb2
        have H2 := Lib.hid (And.intro hn2 (And.intro hPk (HP.out.2.2.1.trans (hb2.mono HP.out.2.2.1.size))))
        clear hn2 hb2 hPk HST
        go_wp2
        go_loopw [13, 14] (fun v13 v14 wr => ∃ i : Nat, i ≤ n ∧ v14 = .int .i64 (i : Int) ∧ v13 = .bool true ∧ wr = u2) (fun _ v14 _ => n - (intOf v14).toNat)
        case atStart => exact ⟨0, Nat.zero_le _, rfl, by first | rfl | simp [*], rfl⟩
        case round =>
          obtain ⟨i, hin, rfl, rfl, rfl⟩ := hrel
          by_cases hlt : i < n
          · obtain ⟨bb, off, hAe, -, ci⟩ := num_at H2.out.2.1 (i := i) (by rw [HP.out.2.1]; exact hlt)
            have hok := HMAY.out.2.2 _ (memI P i (by rw [HP.out.2.1]; exact hlt))
            generalize P.getD i 0 = x at *
            subst hAe
            obtain ⟨hok1, hok2⟩ := hok
            have q6 : (i : Int) < (n : Int) := by omega
            have q7 : (0 : Int) ≤ (i : Int) := by omega
            go_wp2
            go_roundw
            case rel => exact ⟨i + 1, by omega, by go_num, by first | rfl | simp [*], trivial⟩
            case measure => simp [intOf]; omega
          · obtain rfl : i = n := by omega
            have q6 : ¬ (i : Int) < (i : Int) := by omega
            have hrs := rstable_any pa i pc P wr H2.out.2.1 HP.out.2.1 (by omega)
            have HRS := Lib.hid hrs
            clear hrs
            go_wp2_with fail
            (with_reducible refine HRS.out.mono ?_)
            rintro e u3 ⟨v, rfl, hI⟩
            obtain ⟨ra, rc, rfl, hrn, -, -, -⟩ := nums_of_own hI.1
            have hsa := rsame_any A2 ra i i c2 rc _ _ u3 (H2.out.1.kept hI.2) hrn (ordP_length _ _) (ordP_length _ _) (by omega)
            rw [decide_eq_true rfl] at hsa
            have HSA := Lib.hid hsa
            have H3 := Lib.hid (H2.out.2.2.trans (hI.2.mono H2.out.2.2.size))
            rw [ordP_length]
            clear hsa hrn hI HRS
            go_wp2_with fail
            (with_reducible refine HSA.out.mono ?_)
            rintro e u4 ⟨rfl, hb4⟩
            have HF := Lib.hid (H3.out.trans (hb4.mono H3.out.size))
            clear hb4
            go_wp2
            go_ret
            exact ⟨rfl, HF.out⟩

end Go.Proofs.Ytjijkiafjlfeiaa
