/- The walk of SuffixUnlike. -/
import Derived.Test.YtjepgdfcjbgahaaOrders
import Derived.Test.YtjepgdfcjbgahaaOT
set_option maxRecDepth 100000
namespace Go.Proofs.Ytjepgdfcjbgahaa
open Go.RowKit
open M
attribute [local go_sem ↓] Go.wp_at_zero Go.wp_at_succ

theorem info4b : (Try.prog.info? 4).map (fun i => (i.zero, i.size, i.bytes)) = some (some (.bool false), 1, 1) := by kernel_rfl
theorem madeBool (n : Nat) : ∀ i, i < n → (madeCells #[Value.bool false] n).toList[i]? = some (.bool false) := by
  intro i hi
  simp [madeCells, hi, Nat.mod_one]

set_option maxHeartbeats 8000000 in
theorem unlike_walk (A : Option Addr) (n0 c0 : Nat) (xs : List Int) (q0 : Int) (w : World) (hA : NumsAt .i64 w A xs) (hx : xs.length = n0) :
    Calls Try.prog 6 #[.slice A n0 c0, .int .i64 q0] w fun e w' => e = .returned (.bool true) ∧ Below w.heap.size w w' := by
  obtain ⟨h1, h2, h3⟩ := kindN_in q0
  have hand := and3 q0
  obtain ⟨s, hs⟩ : ∃ s, kindN q0 = s := ⟨_, rfl⟩
  rw [hs] at h1 h2 h3
  obtain ⟨t, ht⟩ : ∃ t, q0 % 4 = t := ⟨_, rfl⟩
  rw [ht] at hand h3
  have hw : IntKind.i64.wrap (1 + t) = (s : Int) := by rw [← h3]; exact IntWalk.i64_in _ (by omega)
  have HX := Lib.hid (And.intro hA hx)
  obtain ⟨m, hm⟩ : ∃ m, min n0 200 = m := ⟨_, rfl⟩
  have hm1 : m ≤ n0 := by omega
  have hm2 : m ≤ 200 := by omega
  have hm3 : m < n0 → m = 200 := by omega
  have h0 : ((s : Int) == 0) = false := by simp; omega
  have h0' : (s : Int) ≠ 0 := by omega
  clear hA hx hs ht hm h3
  go_enter Try.func6, Try.ntmps6
  go_wp2_with fail
  (with_reducible refine (awake_any _).mono ?_)
  rintro e w1 ⟨rfl, hb1⟩
  have HB := Lib.hid hb1
  clear hb1
  go_wp2
  clear hw hand
  go_loopw [7, 8] (fun v7 v8 wr => ∃ i : Nat, i ≤ m ∧ v8 = .int .i64 (i : Int) ∧ OwnI w1 v7 (cutL s xs i) wr) (fun _ v8 _ => m - (intOf v8).toNat)
  case atStart => exact ⟨0, Nat.zero_le _, rfl, World.ownsRow_nil _ _ _ _, Below.refl _ _⟩
  case round =>
    obtain ⟨i, hin, rfl, hI⟩ := hrel
    have hwb := HB.out.trans (hI.2.mono HB.out.size)
    by_cases hlt : i < m
    · obtain ⟨bb, off, hAe, hbl, hcb⟩ := num_at (HX.out.1.kept hwb) (i := i) (by rw [HX.out.2]; omega)
      have hsu := cutL_succ s xs i (by rw [HX.out.2]; omega)
      have hml := cutL_len s xs i (by rw [HX.out.2]; omega)
      generalize xs.getD i 0 = x at *
      have hsz := hI.2.size
      have HM := Lib.hid (And.intro hI (And.intro hsu hml))
      subst hAe
      clear hI hsu hml hwb
      obtain ⟨y, hy⟩ : ∃ y, x.tmod s = y := ⟨_, rfl⟩
      have t1 := Int.tmod_lt_of_pos x (b := (s : Int)) (by omega)
      have t2 := Int.lt_tmod_of_pos x (b := (s : Int)) (by omega)
      rw [hy] at t1 t2
      obtain ⟨z, hz⟩ : ∃ z, z = cutI s x := ⟨_, rfl⟩
      rw [← hz] at HM
      have hyz : (y + (s : Int)).tmod s = z := by rw [hz]; unfold cutI; rw [hy]
      clear hz
      have qw : IntKind.i64.wrap (y + (s : Int)) = y + (s : Int) := IntWalk.i64_in _ (by omega)
      have q1 : (i : Int) < (n0 : Int) := by omega
      have q2 : (0 : Int) ≤ (i : Int) := by omega
      have q3 : (i : Int) < 200 := by omega
      go_wp2_with (first
        | (at_builtin
           refine wpList_append_nums rfl (.tmp 26) (.tmp 37) rfl w1.heap.size _ _ _ rfl (HM.out.1.alloc _).1 (some ⟨_, 0, none⟩) 1 1 [z] rfl rfl ?c1 (by simp) ?c2 ?c3 ?_))
      case c1 => exact nums_one _ _
      case c2 => rw [HM.out.2.2]; omega
      case c3 => first | omega | (simp; omega)
      intro v' w5 hown hgrow _
      have hI5 := (HM.out.1.alloc _).app (l' := cutL s xs i ++ [z]) (by simpa using hown) hgrow
      have HX5 := Lib.hid hI5
      clear hown hgrow hI5
      go_wp2
      go_roundw
      case rel => exact ⟨i + 1, by omega, by go_num, by rw [HM.out.2.1]; exact HX5.out⟩
      case measure => simp [intOf]; omega
    · obtain rfl : i = m := by omega
      obtain ⟨P, pc, rfl, hPn, -, hpc, -, -⟩ := nums_of_own hI.1
      have hMl := cutL_len s xs i (by rw [HX.out.2]; omega)
      have hMi := cutL_in s xs i (by omega)
      obtain ⟨M, hM⟩ : ∃ M, M = cutL s xs i := ⟨_, rfl⟩
      rw [← hM] at hMl hMi hPn hpc ⊢
      rw [hMl] at hpc ⊢
      have h64 : I64s M := fun x hx => by have := hMi x hx; omega
      have har := array_any P i pc M wr hPn hMl (by omega) h64
      have HP := Lib.hid (And.intro hPn (And.intro hMl (And.intro h64 (And.intro hwb har))))
      obtain ⟨n, rfl⟩ : ∃ n, n = i := ⟨_, rfl⟩
      have hpc0 := hpc
      have hcase : ((n : Int) < (n0 : Int) ∧ n = 200) ∨ ¬ (n : Int) < (n0 : Int) := by omega
      obtain ⟨w3, rfl⟩ : ∃ w3, w3 = wr := ⟨_, rfl⟩
      clear hI hPn hMl hMi h64 hwb har hM hlt hm3
      have qn : ((n : Int) != (n : Int)) = false := by simp
      rcases hcase with ⟨z1, z2⟩ | z1
      · have z3 : ¬ (n : Int) < 200 := by omega
        clear z2
        go_wp2_with fail
        (with_reducible refine HP.out.2.2.2.2.mono ?_)
        rintro e u1 ⟨A1, c1, rfl, h1, -, hb1⟩
        have H1 := Lib.hid (And.intro h1 (And.intro (HP.out.1.kept hb1) (HP.out.2.2.2.1.trans (hb1.mono HP.out.2.2.2.1.size))))
        clear h1 hb1
        obtain ⟨i0, hi, hz0, hz1, hz2⟩ := info_parts info4b
        go_wp2_with (first | (at_make; refine wpList_make_full _ rfl _ _ 39 rfl u1.heap.size 4 i0 (.bool false) 1 Try.underlying39 hi hz0 hz1 _ _ _ _ n rfl rfl rfl rfl ?b2 ?b3 (Nat.le_refl _) ?_))
        case b2 => first | omega | (rw [hz2]; omega)
        case b3 => unfold maxLen; omega
        intro w4 hown hgrow
        have hD : DB u1 u1.heap.size n (fun _ => false) w4 := by
          have hg := hown.lt u1.heap.size rfl
          refine ⟨fun i hi => ?_, fun i _ => hown.frozenAt i, Nat.le_refl _, hg.2, below_grown hgrow⟩
          rw [hown.cellAt i (by omega)]
          exact madeBool n i hi
        have HD := Lib.hid hD
        clear hown hgrow hD hi hz0 hz1 hz2
        obtain ⟨D, hDe⟩ : ∃ D, D = u1.heap.size := ⟨_, rfl⟩
        rw [← hDe] at HD
        rw [← hDe]
        clear hDe
        go_wp2
        go_loopw [11] (fun v11 wr => ∃ (i : Nat) (d : Nat → Bool), i ≤ n ∧ v11 = .int .i64 (i : Int) ∧ DB u1 D n d wr ∧ ∀ q, q < n → d q = true → ∃ j, j < i ∧ (sufA M).getD j 0 = (q : Int)) (fun v11 _ => n - (intOf v11).toNat)
        case atStart => exact ⟨0, _, Nat.zero_le _, rfl, HD.out, fun q _ h => by cases h⟩
        case round =>
          obtain ⟨i, d, hin, rfl, hDr, hd⟩ := hrel
          clear HD
          by_cases hlt : i < n
          · have hS := sufA_ok HP.out.2.2.1
            obtain ⟨p, hp, hpn⟩ := hS.pl (i := i) (by rw [HP.out.2.1]; exact hlt)
            rw [HP.out.2.1] at hpn
            have hsl : (sufA M).length = n := by rw [sufA_len, HP.out.2.1]
            obtain ⟨ab, ao, hAe, hal, ca⟩ := num_at H1.out.1 (i := i) (by rw [hsl]; exact hlt)
            rw [hp] at ca
            have ca1 := ca
            rw [← hDr.bel.cell (p := ⟨ab, ao + i, none⟩) hal] at ca1
            have hfree : d p = false := by
              cases hdp : d p with
              | false => rfl
              | true =>
                obtain ⟨j, hj, e⟩ := hd p hpn hdp
                have := hS.inj (by rw [HP.out.2.1]; omega) (by rw [HP.out.2.1]; exact hlt) (e.trans hp.symm)
                omega
            have cd := hDr.cell p hpn
            have zd := hDr.frz p hpn
            rw [hfree] at cd
            have hset := hDr.set hpn true
            obtain ⟨W1, hW1⟩ : ∃ W1, W1 = wr.setCell ⟨D, p, none⟩ (.bool true) := ⟨_, rfl⟩
            rw [← hW1] at hset
            have ca2 := ca
            rw [← hset.bel.cell (p := ⟨ab, ao + i, none⟩) hal] at ca2
            have hPW := H1.out.2.1.kept hset.bel
            obtain ⟨pb, po, hPe, -, -⟩ := num_at hPW (i := 0) (by rw [HP.out.2.1]; omega)
            subst hPe
            have hprev : i = 0 ∨ ∃ r q : Nat, i = r + 1 ∧ q < n ∧ W1.cell? ⟨ab, ao + r, none⟩ = some (.int .i64 (q : Int)) ∧ ∀ m, Calls Try.prog 20 #[.slice (some ⟨pb, po + q, none⟩) (n - q) (pc - q), .slice (some ⟨pb, po + p, none⟩) (n - p) (pc - p)] (W1.drewN m) fun e u' => e = .returned (.bool true) ∧ ∃ m', u' = (W1.drewN m).drewN m' := by
              rcases Nat.eq_zero_or_pos i with h0 | h0
              · exact .inl h0
              · obtain ⟨r, rfl⟩ : ∃ r, i = r + 1 := ⟨i - 1, by omega⟩
                obtain ⟨q, hq, hqn⟩ := hS.pl (i := r) (by rw [HP.out.2.1]; omega)
                rw [HP.out.2.1] at hqn
                obtain ⟨ab2, ao2, hAe2, hal2, ca3⟩ := num_at H1.out.1 (i := r) (by rw [hsl]; omega)
                rw [hAe] at hAe2
                simp only [Option.some.injEq, Addr.mk.injEq, and_true] at hAe2
                obtain ⟨rfl, rfl⟩ := hAe2
                rw [hq, ← hset.bel.cell (p := ⟨ab, ao + r, none⟩) hal2] at ca3
                refine .inr ⟨r, q, rfl, hqn, ca3, fun m => ?_⟩
                have hl1 := dless_any (some ⟨pb, po + q, none⟩) (some ⟨pb, po + p, none⟩) (n - q) (n - p) (pc - q) (pc - p) (M.drop q) (M.drop p) (W1.drewN m) ((hPW.kept (below_drewN _ _)).drop q) ((hPW.kept (below_drewN _ _)).drop p) (by rw [List.length_drop, HP.out.2.1]) (by rw [List.length_drop, HP.out.2.1]) (by omega) (by omega)
                rw [(ltB_sl HP.out.2.2.1 q p).2 ((hS.iff (i := r) (j := r + 1) (by rw [HP.out.2.1]; omega) (by rw [HP.out.2.1]; exact hlt) hq hp).1 (by omega))] at hl1
                exact hl1
            have HS := Lib.hid (And.intro hset (And.intro hd hp))
            subst hAe
            clear hset hd hp hS hsl hDr hPW hfree ca hal
            have q1 : (i : Int) < (n : Int) := by omega
            have q2 : (0 : Int) ≤ (i : Int) := by omega
            have q3 : (p : Int) < (n : Int) := by omega
            have q4 : (0 : Int) ≤ (p : Int) := by omega
            have q5 : ¬ (p : Int) < 0 := by omega
            have q6 : ¬ (n : Int) ≤ (p : Int) := by omega
            go_upto_region 18 with fail
            rw [← hW1]
            clear hW1 cd zd ca1
            rcases hprev with rfl | ⟨r, q, rfl, hqn, cq, hless⟩
            · go_wp2
              go_quiet (fail)
              go_wp2
              go_roundw
              case rel =>
                obtain ⟨hset, hd, hp⟩ := HS.out
                refine ⟨1, _, by omega, by go_num, hset.kept (below_drewN _ _), fun q' hq' h => ?_⟩
                by_cases e : q' = p
                · exact ⟨0, by omega, by rw [e]; exact hp⟩
                · rw [if_neg e] at h
                  obtain ⟨j, hj, he⟩ := hd q' hq' h
                  omega
              case measure => simp [intOf]; omega
            · have HL := Lib.hid hless
              clear hless
              have g1 : IntKind.i64.wrap ((r : Int) + 1 - 1) = (r : Int) := by rw [Int.add_sub_cancel]; exact IntWalk.i64_in _ (by omega)
              have g1b : IntKind.i64.wrap (r : Int) = (r : Int) := IntWalk.i64_in _ (by omega)
              have g2 : (r : Int) < (n : Int) := by omega
              have g3 : (0 : Int) ≤ (r : Int) := by omega
              have g4 : (q : Int) < (n : Int) := by omega
              have g5 : (0 : Int) ≤ (q : Int) := by omega
              have g6 : (q : Int) < (pc : Int) := by omega
              have g7 : (p : Int) < (pc : Int) := by omega
              have g8 : (q : Int) ≤ (n : Int) := by omega
              have g9 : (p : Int) ≤ (n : Int) := by omega
              have g10 : (0 : Int) < (r : Int) + 1 := by omega
              have g11 : ¬ pc = q := by omega
              have g12 : ¬ pc = p := by omega
              have g13 : (r : Int) + 1 < (n : Int) := by omega
              have g14 : ((r : Int) + 1).toNat = r + 1 := by omega
              go_wp2
              go_quiet (refine Calls.quiet_of (HL.out _))
              go_wp2
              go_roundw
              case rel =>
                obtain ⟨hset, hd, hp⟩ := HS.out
                refine ⟨r + 1 + 1, _, by omega, by go_num, hset.kept (below_drewN _ _), fun q' hq' h => ?_⟩
                by_cases e : q' = p
                · exact ⟨r + 1, by omega, by rw [e]; exact hp⟩
                · rw [if_neg e] at h
                  obtain ⟨j, hj, he⟩ := hd q' hq' h
                  exact ⟨j, by omega, he⟩
              case measure => simp [intOf]; omega
          · obtain rfl : i = n := by omega
            have HF := Lib.hid (H1.out.2.2.trans (hDr.bel.mono H1.out.2.2.size))
            have q1 : ¬ (i : Int) < (i : Int) := by omega
            clear hDr hd
            go_wp2
            go_ret
            exact ⟨rfl, HF.out⟩
      · clear hpc0
        go_wp2_with fail
        (with_reducible refine HP.out.2.2.2.2.mono ?_)
        rintro e u1 ⟨A1, c1, rfl, h1, -, hb1⟩
        have H1 := Lib.hid (And.intro h1 (And.intro (HP.out.1.kept hb1) (HP.out.2.2.2.1.trans (hb1.mono HP.out.2.2.2.1.size))))
        clear h1 hb1
        obtain ⟨i0, hi, hz0, hz1, hz2⟩ := info_parts info4b
        go_wp2_with (first | (at_make; refine wpList_make_full _ rfl _ _ 39 rfl u1.heap.size 4 i0 (.bool false) 1 Try.underlying39 hi hz0 hz1 _ _ _ _ n rfl rfl rfl rfl ?b2 ?b3 (Nat.le_refl _) ?_))
        case b2 => first | omega | (rw [hz2]; omega)
        case b3 => unfold maxLen; omega
        intro w4 hown hgrow
        have hD : DB u1 u1.heap.size n (fun _ => false) w4 := by
          have hg := hown.lt u1.heap.size rfl
          refine ⟨fun i hi => ?_, fun i _ => hown.frozenAt i, Nat.le_refl _, hg.2, below_grown hgrow⟩
          rw [hown.cellAt i (by omega)]
          exact madeBool n i hi
        have HD := Lib.hid hD
        clear hown hgrow hD hi hz0 hz1 hz2
        obtain ⟨D, hDe⟩ : ∃ D, D = u1.heap.size := ⟨_, rfl⟩
        rw [← hDe] at HD
        rw [← hDe]
        clear hDe
        go_wp2
        go_loopw [11] (fun v11 wr => ∃ (i : Nat) (d : Nat → Bool), i ≤ n ∧ v11 = .int .i64 (i : Int) ∧ DB u1 D n d wr ∧ ∀ q, q < n → d q = true → ∃ j, j < i ∧ (sufA M).getD j 0 = (q : Int)) (fun v11 _ => n - (intOf v11).toNat)
        case atStart => exact ⟨0, _, Nat.zero_le _, rfl, HD.out, fun q _ h => by cases h⟩
        case round =>
          obtain ⟨i, d, hin, rfl, hDr, hd⟩ := hrel
          clear HD
          by_cases hlt : i < n
          · have hS := sufA_ok HP.out.2.2.1
            obtain ⟨p, hp, hpn⟩ := hS.pl (i := i) (by rw [HP.out.2.1]; exact hlt)
            rw [HP.out.2.1] at hpn
            have hsl : (sufA M).length = n := by rw [sufA_len, HP.out.2.1]
            obtain ⟨ab, ao, hAe, hal, ca⟩ := num_at H1.out.1 (i := i) (by rw [hsl]; exact hlt)
            rw [hp] at ca
            have ca1 := ca
            rw [← hDr.bel.cell (p := ⟨ab, ao + i, none⟩) hal] at ca1
            have hfree : d p = false := by
              cases hdp : d p with
              | false => rfl
              | true =>
                obtain ⟨j, hj, e⟩ := hd p hpn hdp
                have := hS.inj (by rw [HP.out.2.1]; omega) (by rw [HP.out.2.1]; exact hlt) (e.trans hp.symm)
                omega
            have cd := hDr.cell p hpn
            have zd := hDr.frz p hpn
            rw [hfree] at cd
            have hset := hDr.set hpn true
            obtain ⟨W1, hW1⟩ : ∃ W1, W1 = wr.setCell ⟨D, p, none⟩ (.bool true) := ⟨_, rfl⟩
            rw [← hW1] at hset
            have ca2 := ca
            rw [← hset.bel.cell (p := ⟨ab, ao + i, none⟩) hal] at ca2
            have hPW := H1.out.2.1.kept hset.bel
            obtain ⟨pb, po, hPe, -, -⟩ := num_at hPW (i := 0) (by rw [HP.out.2.1]; omega)
            subst hPe
            have hprev : i = 0 ∨ ∃ r q : Nat, i = r + 1 ∧ q < n ∧ W1.cell? ⟨ab, ao + r, none⟩ = some (.int .i64 (q : Int)) ∧ ∀ m, Calls Try.prog 20 #[.slice (some ⟨pb, po + q, none⟩) (n - q) (pc - q), .slice (some ⟨pb, po + p, none⟩) (n - p) (pc - p)] (W1.drewN m) fun e u' => e = .returned (.bool true) ∧ ∃ m', u' = (W1.drewN m).drewN m' := by
              rcases Nat.eq_zero_or_pos i with h0 | h0
              · exact .inl h0
              · obtain ⟨r, rfl⟩ : ∃ r, i = r + 1 := ⟨i - 1, by omega⟩
                obtain ⟨q, hq, hqn⟩ := hS.pl (i := r) (by rw [HP.out.2.1]; omega)
                rw [HP.out.2.1] at hqn
                obtain ⟨ab2, ao2, hAe2, hal2, ca3⟩ := num_at H1.out.1 (i := r) (by rw [hsl]; omega)
                rw [hAe] at hAe2
                simp only [Option.some.injEq, Addr.mk.injEq, and_true] at hAe2
                obtain ⟨rfl, rfl⟩ := hAe2
                rw [hq, ← hset.bel.cell (p := ⟨ab, ao + r, none⟩) hal2] at ca3
                refine .inr ⟨r, q, rfl, hqn, ca3, fun m => ?_⟩
                have hl1 := dless_any (some ⟨pb, po + q, none⟩) (some ⟨pb, po + p, none⟩) (n - q) (n - p) (pc - q) (pc - p) (M.drop q) (M.drop p) (W1.drewN m) ((hPW.kept (below_drewN _ _)).drop q) ((hPW.kept (below_drewN _ _)).drop p) (by rw [List.length_drop, HP.out.2.1]) (by rw [List.length_drop, HP.out.2.1]) (by omega) (by omega)
                rw [(ltB_sl HP.out.2.2.1 q p).2 ((hS.iff (i := r) (j := r + 1) (by rw [HP.out.2.1]; omega) (by rw [HP.out.2.1]; exact hlt) hq hp).1 (by omega))] at hl1
                exact hl1
            have HS := Lib.hid (And.intro hset (And.intro hd hp))
            subst hAe
            clear hset hd hp hS hsl hDr hPW hfree ca hal
            have q1 : (i : Int) < (n : Int) := by omega
            have q2 : (0 : Int) ≤ (i : Int) := by omega
            have q3 : (p : Int) < (n : Int) := by omega
            have q4 : (0 : Int) ≤ (p : Int) := by omega
            have q5 : ¬ (p : Int) < 0 := by omega
            have q6 : ¬ (n : Int) ≤ (p : Int) := by omega
            go_upto_region 18 with fail
            rw [← hW1]
            clear hW1 cd zd ca1
            rcases hprev with rfl | ⟨r, q, rfl, hqn, cq, hless⟩
            · go_wp2
              go_quiet (fail)
              go_wp2
              go_roundw
              case rel =>
                obtain ⟨hset, hd, hp⟩ := HS.out
                refine ⟨1, _, by omega, by go_num, hset.kept (below_drewN _ _), fun q' hq' h => ?_⟩
                by_cases e : q' = p
                · exact ⟨0, by omega, by rw [e]; exact hp⟩
                · rw [if_neg e] at h
                  obtain ⟨j, hj, he⟩ := hd q' hq' h
                  omega
              case measure => simp [intOf]; omega
            · have HL := Lib.hid hless
              clear hless
              have g1 : IntKind.i64.wrap ((r : Int) + 1 - 1) = (r : Int) := by rw [Int.add_sub_cancel]; exact IntWalk.i64_in _ (by omega)
              have g1b : IntKind.i64.wrap (r : Int) = (r : Int) := IntWalk.i64_in _ (by omega)
              have g2 : (r : Int) < (n : Int) := by omega
              have g3 : (0 : Int) ≤ (r : Int) := by omega
              have g4 : (q : Int) < (n : Int) := by omega
              have g5 : (0 : Int) ≤ (q : Int) := by omega
              have g6 : (q : Int) < (pc : Int) := by omega
              have g7 : (p : Int) < (pc : Int) := by omega
              have g8 : (q : Int) ≤ (n : Int) := by omega
              have g9 : (p : Int) ≤ (n : Int) := by omega
              have g10 : (0 : Int) < (r : Int) + 1 := by omega
              have g11 : ¬ pc = q := by omega
              have g12 : ¬ pc = p := by omega
              have g13 : (r : Int) + 1 < (n : Int) := by omega
              have g14 : ((r : Int) + 1).toNat = r + 1 := by omega
              go_wp2
              go_quiet (refine Calls.quiet_of (HL.out _))
              go_wp2
              go_roundw
              case rel =>
                obtain ⟨hset, hd, hp⟩ := HS.out
                refine ⟨r + 1 + 1, _, by omega, by go_num, hset.kept (below_drewN _ _), fun q' hq' h => ?_⟩
                by_cases e : q' = p
                · exact ⟨r + 1, by omega, by rw [e]; exact hp⟩
                · rw [if_neg e] at h
                  obtain ⟨j, hj, he⟩ := hd q' hq' h
                  exact ⟨j, by omega, he⟩
              case measure => simp [intOf]; omega
          · obtain rfl : i = n := by omega
            have HF := Lib.hid (H1.out.2.2.trans (hDr.bel.mono H1.out.2.2.size))
            have q1 : ¬ (i : Int) < (i : Int) := by omega
            clear hDr hd
            go_wp2
            go_ret
            exact ⟨rfl, HF.out⟩

end Go.Proofs.Ytjepgdfcjbgahaa
