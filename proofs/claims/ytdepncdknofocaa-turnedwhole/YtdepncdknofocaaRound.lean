/- The walk of TurnedRound. -/
import Derived.Test.YtdepncdknofocaaYJ
set_option maxRecDepth 100000
namespace Go.Proofs.Ytdepncdknofocaa
open Go.RowKit
open M
attribute [local go_sem ↓] Go.wp_at_zero Go.wp_at_succ

theorem turn_64 {l : List Int} (h : I64s l) : I64s (turnL l) := by
  intro x hx
  unfold turnL at hx
  obtain ⟨p, -, rfl⟩ := List.mem_map.1 hx
  unfold ahdI
  split
  · omega
  · by_cases e : p.toNat - 1 < l.length
    · exact h _ (getD_mem e)
    · rw [getD_out (by omega)]; omega
theorem round_facts {l : List Int} {n : Nat} (h : I64s l) (hn : Nn l) (hl : l.length = n) : (∀ i, itS (sgL (nextL l)) i ≤ n) ∧ (∀ i, 0 < i → i ≤ n → itS (sgL (nextL l)) i ≠ 0) ∧ (∀ p, p ≤ n → (nextL l).getD p 0 = (sgL (nextL l) p : Int)) ∧ itS (sgL (nextL l)) (n + 1) = 0 := by
  have hc := turn_cyc h hn
  have hR := ord_ring (kyI (turnL l)) (l.length + 1)
  rw [turn_ord h hn] at hR
  rw [hl] at hc hR
  refine ⟨fun i => ?_, fun i h0 hi => hc.no i h0 (by omega), fun p hp => ?_, hc.zero⟩
  · have := hR.itlt (by omega) i
    omega
  · unfold sgL
    rw [nextL_at l (by omega), Int.toNat_natCast]

set_option maxHeartbeats 8000000 in
theorem round_walk (A : Option Addr) (n0 c0 : Nat) (xs : List Int) (q0 : Int) (w : World) (hA : NumsAt .i64 w A xs) (hx : xs.length = n0) :
    Calls Try.prog 6 #[.slice A n0 c0, .int .i64 q0] w fun e w' => e = .returned (.bool true) ∧ Below w.heap.size w w' := by
  obtain ⟨h1, h2, h3⟩ := kind8_in q0
  have hand := and7 q0
  obtain ⟨s, hs⟩ : ∃ s, kind8 q0 = s := ⟨_, rfl⟩
  rw [hs] at h1 h2 h3
  obtain ⟨t, ht⟩ : ∃ t, q0 % 8 = t := ⟨_, rfl⟩
  rw [ht] at hand h3
  have hw : IntKind.i64.wrap (1 + t) = (s : Int) := by rw [← h3]; exact IntWalk.i64_in _ (by omega)
  have HX := Lib.hid (And.intro hA hx)
  obtain ⟨m, hm⟩ : ∃ m, min n0 100 = m := ⟨_, rfl⟩
  have hm1 : m ≤ n0 := by omega
  have hm2 : m ≤ 100 := by omega
  have hm3 : m < n0 → m = 100 := by omega
  have h0 : ((s : Int) == 0) = false := by simp; omega
  have h0' : (s : Int) ≠ 0 := by omega
  clear hA hx hs ht hm h3
  go_enter Try.func6, Try.ntmps6
  go_wp2_with fail
  (with_reducible refine (awake_any _).mono ?_)
  rintro e w1 ⟨rfl, hb1⟩
  have HB := Lib.hid hb1
  clear hb1
  go_wp2
  clear hw hand
  go_loopw [7, 8] (fun v7 v8 wr => ∃ i : Nat, i ≤ m ∧ v8 = .int .i64 (i : Int) ∧ OwnI w1 v7 (cutL s xs i) wr) (fun _ v8 _ => m - (intOf v8).toNat)
  case atStart => exact ⟨0, Nat.zero_le _, rfl, World.ownsRow_nil _ _ _ _, Below.refl _ _⟩
  case round =>
    obtain ⟨i, hin, rfl, hI⟩ := hrel
    by_cases hlt : i < m
    · obtain ⟨bb, off, hAe, hbl, hcb⟩ := num_at (HX.out.1.kept (HB.out.trans (hI.2.mono HB.out.size))) (i := i) (by rw [HX.out.2]; omega)
      have hsu := cutL_succ s xs i (by rw [HX.out.2]; omega)
      have hml := cutL_len s xs i (by rw [HX.out.2]; omega)
      generalize xs.getD i 0 = x at *
      have hsz := hI.2.size
      have HM := Lib.hid (And.intro hI (And.intro hsu hml))
      subst hAe
      clear hI hsu hml
      obtain ⟨y, hy⟩ : ∃ y, x.tmod s = y := ⟨_, rfl⟩
      have t1 := Int.tmod_lt_of_pos x (b := (s : Int)) (by omega)
      have t2 := Int.lt_tmod_of_pos x (b := (s : Int)) (by omega)
      rw [hy] at t1 t2
      obtain ⟨z, hz⟩ : ∃ z, z = cutI s x := ⟨_, rfl⟩
      rw [← hz] at HM
      have hyz : (y + (s : Int)).tmod s = z := by rw [hz]; unfold cutI; rw [hy]
      clear hz
      have qw : IntKind.i64.wrap (y + (s : Int)) = y + (s : Int) := IntWalk.i64_in _ (by omega)
      have q1 : (i : Int) < (n0 : Int) := by omega
      have q2 : (0 : Int) ≤ (i : Int) := by omega
      have q3 : (i : Int) < 100 := by omega
      go_wp2_with (first
        | (at_builtin
           refine wpList_append_nums rfl (.tmp 29) (.tmp 40) rfl w1.heap.size _ _ _ rfl (HM.out.1.alloc _).1 (some ⟨_, 0, none⟩) 1 1 [z] rfl rfl ?c1 (by simp) ?c2 ?c3 ?_))
      case c1 => exact nums_one _ _
      case c2 => rw [HM.out.2.2]; omega
      case c3 => first | omega | (simp; omega)
      intro v' w5 hown hgrow _
      have hI5 := (HM.out.1.alloc _).app (l' := cutL s xs i ++ [z]) (by simpa using hown) hgrow
      have HX5 := Lib.hid hI5
      clear hown hgrow hI5
      go_wp2
      go_roundw
      case rel => exact ⟨i + 1, by omega, by go_num, by rw [HM.out.2.1]; exact HX5.out⟩
      case measure => simp [intOf]; omega
    · obtain rfl : i = m := by omega
      obtain ⟨P, pc, rfl, hPn, -, hpc, -, -⟩ := nums_of_own hI.1
      have hMl := cutL_len s xs i (by rw [HX.out.2]; omega)
      have hMi := cutL_in s xs i (by omega)
      obtain ⟨M, hM⟩ : ∃ M, M = cutL s xs i := ⟨_, rfl⟩
      rw [← hM] at hMl hMi hPn hpc ⊢
      rw [hMl] at hpc ⊢
      have h64 : I64s M := fun x hx => by have := hMi x hx; omega
      have hnn : Nn M := fun x hx => (hMi x hx).1
      have hwb := HB.out.trans (hI.2.mono HB.out.size)
      have htn := turn_any P i pc M wr hPn hMl (by omega) h64 hnn
      obtain ⟨n, rfl⟩ : ∃ n, n = i := ⟨_, rfl⟩
      have HP := Lib.hid (And.intro hPn (And.intro hMl (And.intro hMi (And.intro h64 (And.intro hnn (And.intro hwb htn))))))
      have hcase : ((n : Int) < (n0 : Int) ∧ n = 100) ∨ ¬ (n : Int) < (n0 : Int) := by omega
      obtain ⟨w3, rfl⟩ : ∃ w3, w3 = wr := ⟨_, rfl⟩
      have hTl : (turnL M).length = n + 1 := by rw [turnL_len, hMl]
      clear hI hPn hpc hMl hMi h64 hnn hwb htn hM hlt hm3
      rcases hcase with ⟨z1, z2⟩ | z1
      · have z3 : ¬ (n : Int) < 100 := by omega
        clear z2
        go_wp2_with fail
        (with_reducible refine HP.out.2.2.2.2.2.2.mono ?_)
        rintro e x1 ⟨v, rfl, hI⟩
        obtain ⟨R, rc, rfl, hR, -, -, -, -⟩ := nums_of_own hI.1
        rw [hTl]
        have hwx := HP.out.2.2.2.2.2.1.trans (hI.2.mono HP.out.2.2.2.2.2.1.size)
        have hnx := next_ok R (n + 1) rc M x1 hR (by rw [HP.out.2.1]) (by omega) HP.out.2.2.2.1 HP.out.2.2.2.2.1 (turn_64 HP.out.2.2.2.1)
        have hrd := round_facts HP.out.2.2.2.1 HP.out.2.2.2.2.1 HP.out.2.1
        have HR := Lib.hid (And.intro hnx (And.intro hwx hrd))
        clear hI hR hwx hnx hrd hTl
        go_wp2_with fail
        (with_reducible refine HR.out.1.mono ?_)
        rintro e x2 ⟨D, rfl, hD, hb2⟩
        have HD := Lib.hid (And.intro hD (HR.out.2.1.trans (hb2.mono HR.out.2.1.size)))
        obtain ⟨f, hf⟩ : ∃ f, sgL (nextL M) = f := ⟨_, rfl⟩
        rw [hf] at HR
        have HF := Lib.hid HR.out.2.2
        clear hD hb2 hf HR
        have q4 : IntKind.i64.wrap ((n : Int) + 1) = (n : Int) + 1 := IntWalk.i64_in _ (by omega)
        go_wp2
        clear q4
        go_loopw [13, 14] (fun v13 v14 wr => ∃ i : Nat, i ≤ n + 1 ∧ v14 = .int .i64 (i : Int) ∧ v13 = .int .i64 (itS f i : Int) ∧ wr = x2) (fun _ v14 _ => n + 1 - (intOf v14).toNat)
        case atStart => exact ⟨0, Nat.zero_le _, rfl, rfl, rfl⟩
        case round =>
          obtain ⟨i, hin, rfl, rfl, rfl⟩ := hrel
          by_cases hlt : i ≤ n
          · have hp := HF.out.1 i
            have hne := HF.out.2.1 i
            have hnx := HF.out.2.2.1 (itS f i) hp
            obtain ⟨bb, off, hDe, -, ck⟩ := num_at HD.out.1 (i := itS f i) (by rw [nextL_len, HP.out.2.1]; omega)
            simp only [Option.some.injEq, Addr.mk.injEq, and_true] at hDe
            obtain ⟨rfl, rfl⟩ := hDe
            rw [hnx, Nat.zero_add] at ck
            have hsuc : itS f (i + 1) = f (itS f i) := rfl
            obtain ⟨p, hpe⟩ : ∃ p, itS f i = p := ⟨_, rfl⟩
            rw [hpe] at hp hne ck hsuc
            rw [hpe]
            have HS := Lib.hid hsuc
            have q1 : (i : Int) ≤ (n : Int) := by omega
            have q2 : (0 : Int) ≤ (p : Int) := by omega
            have q3 : (p : Int) < (n : Int) + 1 := by omega
            have q4 : ¬ (p : Int) < 0 := by omega
            have q5 : ¬ (n : Int) + 1 ≤ (p : Int) := by omega
            have q5' : ¬ (p : Int) ≥ (n : Int) + 1 := by omega
            clear hnx hsuc hpe hp
            by_cases hi0 : i = 0
            · have q6 : ¬ (0 : Int) < (i : Int) := by omega
              have q6' : ¬ (i : Int) > 0 := by omega
              clear hne hi0
              go_wp2
              go_roundw
              case rel => exact ⟨i + 1, by omega, by go_num, by rw [HS.out], by first | rfl | trivial⟩
              case measure => simp [intOf]; omega
            · have hpn := hne (by omega) hlt
              have q6 : (0 : Int) < (i : Int) := by omega
              have q6' : (i : Int) > 0 := by omega
              have q7 : ((p : Int) == 0) = false := by simp; omega
              clear hne hi0 hpn
              go_wp2
              go_roundw
              case rel => exact ⟨i + 1, by omega, by go_num, by rw [HS.out], by first | rfl | trivial⟩
              case measure => simp [intOf]; omega
          · obtain rfl : i = n + 1 := by omega
            have hz := HF.out.2.2.2
            rw [hz]
            have q1 : ¬ ((n + 1 : Nat) : Int) ≤ (n : Int) := by omega
            have q1' : ¬ (n : Int) + 1 ≤ (n : Int) := by omega
            clear hz
            go_wp2
            go_ret
            exact ⟨rfl, HD.out.2⟩
      · skip
        go_wp2_with fail
        (with_reducible refine HP.out.2.2.2.2.2.2.mono ?_)
        rintro e x1 ⟨v, rfl, hI⟩
        obtain ⟨R, rc, rfl, hR, -, -, -, -⟩ := nums_of_own hI.1
        rw [hTl]
        have hwx := HP.out.2.2.2.2.2.1.trans (hI.2.mono HP.out.2.2.2.2.2.1.size)
        have hnx := next_ok R (n + 1) rc M x1 hR (by rw [HP.out.2.1]) (by omega) HP.out.2.2.2.1 HP.out.2.2.2.2.1 (turn_64 HP.out.2.2.2.1)
        have hrd := round_facts HP.out.2.2.2.1 HP.out.2.2.2.2.1 HP.out.2.1
        have HR := Lib.hid (And.intro hnx (And.intro hwx hrd))
        clear hI hR hwx hnx hrd hTl
        go_wp2_with fail
        (with_reducible refine HR.out.1.mono ?_)
        rintro e x2 ⟨D, rfl, hD, hb2⟩
        have HD := Lib.hid (And.intro hD (HR.out.2.1.trans (hb2.mono HR.out.2.1.size)))
        obtain ⟨f, hf⟩ : ∃ f, sgL (nextL M) = f := ⟨_, rfl⟩
        rw [hf] at HR
        have HF := Lib.hid HR.out.2.2
        clear hD hb2 hf HR
        have q4 : IntKind.i64.wrap ((n : Int) + 1) = (n : Int) + 1 := IntWalk.i64_in _ (by omega)
        go_wp2
        clear q4
        go_loopw [13, 14] (fun v13 v14 wr => ∃ i : Nat, i ≤ n + 1 ∧ v14 = .int .i64 (i : Int) ∧ v13 = .int .i64 (itS f i : Int) ∧ wr = x2) (fun _ v14 _ => n + 1 - (intOf v14).toNat)
        case atStart => exact ⟨0, Nat.zero_le _, rfl, rfl, rfl⟩
        case round =>
          obtain ⟨i, hin, rfl, rfl, rfl⟩ := hrel
          by_cases hlt : i ≤ n
          · have hp := HF.out.1 i
            have hne := HF.out.2.1 i
            have hnx := HF.out.2.2.1 (itS f i) hp
            obtain ⟨bb, off, hDe, -, ck⟩ := num_at HD.out.1 (i := itS f i) (by rw [nextL_len, HP.out.2.1]; omega)
            simp only [Option.some.injEq, Addr.mk.injEq, and_true] at hDe
            obtain ⟨rfl, rfl⟩ := hDe
            rw [hnx, Nat.zero_add] at ck
            have hsuc : itS f (i + 1) = f (itS f i) := rfl
            obtain ⟨p, hpe⟩ : ∃ p, itS f i = p := ⟨_, rfl⟩
            rw [hpe] at hp hne ck hsuc
            rw [hpe]
            have HS := Lib.hid hsuc
            have q1 : (i : Int) ≤ (n : Int) := by omega
            have q2 : (0 : Int) ≤ (p : Int) := by omega
            have q3 : (p : Int) < (n : Int) + 1 := by omega
            have q4 : ¬ (p : Int) < 0 := by omega
            have q5 : ¬ (n : Int) + 1 ≤ (p : Int) := by omega
            have q5' : ¬ (p : Int) ≥ (n : Int) + 1 := by omega
            clear hnx hsuc hpe hp
            by_cases hi0 : i = 0
            · have q6 : ¬ (0 : Int) < (i : Int) := by omega
              have q6' : ¬ (i : Int) > 0 := by omega
              clear hne hi0
              go_wp2
              go_roundw
              case rel => exact ⟨i + 1, by omega, by go_num, by rw [HS.out], by first | rfl | trivial⟩
              case measure => simp [intOf]; omega
            · have hpn := hne (by omega) hlt
              have q6 : (0 : Int) < (i : Int) := by omega
              have q6' : (i : Int) > 0 := by omega
              have q7 : ((p : Int) == 0) = false := by simp; omega
              clear hne hi0 hpn
              go_wp2
              go_roundw
              case rel => exact ⟨i + 1, by omega, by go_num, by rw [HS.out], by first | rfl | trivial⟩
              case measure => simp [intOf]; omega
          · obtain rfl : i = n + 1 := by omega
            have hz := HF.out.2.2.2
            rw [hz]
            have q1 : ¬ ((n + 1 : Nat) : Int) ≤ (n : Int) := by omega
            have q1' : ¬ (n : Int) + 1 ≤ (n : Int) := by omega
            clear hz
            go_wp2
            go_ret
            exact ⟨rfl, HD.out.2⟩

end Go.Proofs.Ytdepncdknofocaa
