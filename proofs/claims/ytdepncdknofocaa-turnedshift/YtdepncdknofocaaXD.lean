/- The contract of the document's Array. -/
import Derived.Test.YtdepncdknofocaaXC
set_option maxRecDepth 100000
namespace Go.Proofs.Ytdepncdknofocaa
open Go.RowKit
open M
attribute [local go_sem ↓] Go.wp_at_zero Go.wp_at_succ

set_option maxHeartbeats 8000000 in
theorem darray_any (A : Option Addr) (n c : Nat) (l : List Int) (w : World) (hA : NumsAt .i64 w A l) (hl : l.length = n) (hc : n ≤ c) (hn : n ≤ 1000000) (h64 : I64s l) :
    Calls Try.prog 23 #[.slice A n c] w fun e u => ∃ v, e = .returned v ∧ OwnI w v (sufA l) u := by
  obtain ⟨κ, hκ⟩ : ∃ κ, κ = sfK l := ⟨_, rfl⟩
  have hlt' : ∀ p q : Nat, p < n → q < n → (κ p < κ q ↔ ltB (l.drop p) (l.drop q) = true) := fun p q hp hq => by rw [hκ]; exact sfK_lt h64 (by omega) (by omega)
  have hsa : sufA l = ordP κ n := by rw [hκ, ← hl]; rfl
  rw [hsa]
  have hLS : ∀ (bb off : Nat), A = some ⟨bb, off, none⟩ → ∀ u, Below w.heap.size w u → ∀ p q, p < n → q < n → Calls Try.prog 33 #[.slice (some ⟨bb, off + p, none⟩) (n - p) (c - p), .slice (some ⟨bb, off + q, none⟩) (n - q) (c - q)] u fun e u' => e = .returned (.bool (decide (κ p < κ q))) ∧ ∃ m, u' = u.drewN m := by
    intro bb off hAe u hb p q hp hq
    subst hAe
    have := dless_any (some ⟨bb, off + p, none⟩) (some ⟨bb, off + q, none⟩) (n - p) (n - q) (c - p) (c - q) (l.drop p) (l.drop q) u ((hA.kept hb).drop p) ((hA.kept hb).drop q) (by rw [List.length_drop, hl]) (by rw [List.length_drop, hl]) (by omega) (by omega)
    have e : decide (κ p < κ q) = ltB (l.drop p) (l.drop q) := by
      rw [Bool.eq_iff_iff, decide_eq_true_eq]
      exact hlt' p q hp hq
    rw [e]
    exact this
  have hA2 : 0 < n → ∃ bb off, A = some ⟨bb, off, none⟩ := fun h0 => by
    obtain ⟨bb, off, e, -, -⟩ := num_at hA (i := 0) (by omega)
    exact ⟨bb, off, e⟩
  have HX := Lib.hid (And.intro hLS hA2)
  clear hA hl hκ hlt' hsa hLS hA2 h64
  go_enter Try.func23, Try.ntmps23
  go_wp2
  go_loopw [3, 4, 5, 6, 7] (fun v3 v4 _ _ _ wr => ∃ i : Nat, i ≤ n ∧ v4 = .int .i64 (i : Int) ∧ (i = 0 → v3 = .slice none 0 0) ∧ OwnI w v3 (ordP κ i) wr) (fun _ v4 _ _ _ _ => n - (intOf v4).toNat)
  case atStart => exact ⟨0, Nat.zero_le _, rfl, fun _ => rfl, World.ownsRow_nil _ _ _ _, Below.refl _ _⟩
  case round =>
    obtain ⟨i, hin, rfl, hnil0, hI⟩ := hrel
    by_cases hlt : i < n
    · have q1 : (i : Int) < (n : Int) := by omega
      have q2 : (0 : Int) ≤ (i : Int) := by omega
      have q12 : (i : Int) < (c : Int) := by omega
      have q13 : (i : Int) ≤ (n : Int) := by omega
      have r3 := hI.1
      rw [ordP_length] at r3
      obtain ⟨bb, off, hAe⟩ := HX.out.2 (by omega)
      have HC0 := Lib.hid (HX.out.1 bb off hAe)
      subst hAe
      obtain ⟨w5, rfl⟩ : ∃ w5, w5 = wr := ⟨_, rfl⟩
      rcases own_cases r3 with ⟨rfl, hi0⟩ | ⟨g, cap, rfl, hcap, hcm⟩
      · subst hi0
        clear hnil0
        have hput := ordP_put κ 0 0 (Nat.le_refl _) (fun j _ h => by omega) (fun h => by omega)
        have e0 : ordP κ 0 = [] := rfl
        rw [e0] at hput
        have HI := Lib.hid (And.intro hI (show ordP κ 1 = [0] from hput))
        have hsz := hI.2.size
        clear hI r3 hput e0
        go_wp2
        go_loopw [5] (fun v5 wq => v5 = .int .i64 0 ∧ wq = w5) (fun _ _ => 0)
        case atStart => exact ⟨rfl, rfl⟩
        case round =>
          obtain ⟨rfl, rfl⟩ := hrel
          have hI2 : OwnI w (.slice none 0 0) [] wr := HI.out.1
          have HI2 := Lib.hid hI2
          have hsz2 := hI2.2.size
          clear hI2
          obtain ⟨wz, rfl⟩ : ∃ wz, wz = wr := ⟨_, rfl⟩
          go_wp2_with (first
            | (at_builtin
               refine wpList_append_nums rfl (.tmp 33) (.tmp 36) rfl w.heap.size (.slice none 0 0) 0 [] rfl (World.ownsRow_nil _ _ _ _) none _ _ [] rfl rfl (.inl rfl) (fun _ => ⟨rfl, rfl⟩) ?c2 ?c3 ?_))
          case c2 => omega
          case c3 => omega
          intro v4 w4 hown hgrow _
          have hI4 := HI2.out.app (l' := []) (by simpa using hown) hgrow
          have HI4 := Lib.hid hI4
          have hsz4 := hI4.2.size
          clear hown hgrow hI4
          go_wp2_with (first
            | (at_builtin
               refine wpList_append_nums rfl (.tmp 38) (.tmp 40) rfl w.heap.size v4 _ _ rfl (HI4.out.alloc _).1 (some ⟨w4.heap.size, 0, none⟩) 1 1 [0] rfl rfl ?c1 (by simp) ?c2 ?c3 ?_))
          case c1 => exact nums_one _ _
          case c2 => simp
          case c3 => simp; omega
          intro v5 w6 hown hgrow _
          have hI5 := (HI4.out.alloc _).app (l' := [0]) (by simpa using hown) hgrow
          have HI5 := Lib.hid hI5
          have hsz5 := hI5.2.size
          clear hown hgrow hI5 HI4 hsz4
          go_wp2_with (first
            | (at_builtin
               refine wpList_append_nums rfl (.tmp 42) (.tmp 45) rfl w.heap.size v5 _ _ rfl HI5.out.1 none _ _ [] rfl rfl (.inl rfl) (fun _ => ⟨rfl, rfl⟩) ?c2 ?c3 ?_))
          case c2 => simp
          case c3 => omega
          intro v6 w7 hown hgrow _
          have hI6 := HI5.out.app (l' := [0]) (by simpa using hown) hgrow
          have HI6 := Lib.hid hI6
          clear hown hgrow hI6 HI5
          go_wp2
          go_roundw
          case rel => exact ⟨1, by omega, by go_num, fun h => by omega, by rw [HI.out.2]; exact HI6.out⟩
          case measure => simp [intOf]; omega
      · obtain ⟨b6, d6', hv6, hn6, -⟩ := nums_of_own r3
        simp only [Value.slice.injEq] at hv6
        obtain ⟨rfl, -, rfl⟩ := hv6
        unfold maxLen at hcm
        have hipos : 0 < i := by
          by_cases e : i = 0
          · have := hnil0 e; simp at this
          · omega
        clear hnil0
        have hglt : g < w5.heap.size := (hI.1.lt g rfl).2
        have HI := Lib.hid (And.intro hI (And.intro hn6 hglt))
        clear hI r3 hn6 hglt
        go_wp2
        go_loopw [5, 6] (fun v5 _ wq => ∃ k : Nat, k ≤ i ∧ v5 = .int .i64 (k : Int) ∧ Below w5.heap.size w5 wq ∧ ∀ j, k ≤ j → j < i → κ i < κ ((ordP κ i).getD j 0)) (fun v5 _ _ => (intOf v5).toNat)
        case atStart => exact ⟨i, Nat.le_refl _, rfl, Below.refl _ _, fun j h1 h2 => by omega⟩
        case round =>
          obtain ⟨k, hki, rfl, hbk, hgt⟩ := hrel
          by_cases hmore : 0 < k ∧ κ i < κ ((ordP κ i).getD (k - 1) 0)
          · obtain ⟨kp, rfl⟩ : ∃ kp, k = kp + 1 := ⟨k - 1, by omega⟩
            rw [show kp + 1 - 1 = kp by omega] at hmore
            obtain ⟨p, hp, hpn⟩ := ordP_at κ i (i := kp) (by omega)
            obtain ⟨g2, o2, hge, -, co⟩ := num_at (HI.out.2.1.kept hbk) (i := kp) (by rw [ordP_length]; omega)
            simp only [Option.some.injEq, Addr.mk.injEq, and_true] at hge
            obtain ⟨rfl, rfl⟩ := hge
            rw [Nat.zero_add, hp] at co
            rw [hp] at hmore
            have hless := fun m => HC0.out (wr.drewN m) ((HI.out.1.2.trans (hbk.mono HI.out.1.2.size)).trans ((below_drewN wr m).mono (HI.out.1.2.trans (hbk.mono HI.out.1.2.size)).size)) i p hlt (by omega)
            have hdt : decide (κ i < κ p) = true := decide_eq_true hmore.2
            rw [hdt] at hless
            have HLS := Lib.hid hless
            have hfin : ∀ nq, Below w5.heap.size w5 (wr.drewN nq) := fun nq => hbk.trans ((below_drewN wr nq).mono hbk.size)
            have hgt2 : ∀ j, kp ≤ j → j < i → κ i < κ ((ordP κ i).getD j 0) := fun j h1 h2 => by
              by_cases e : j = kp
              · rw [e, hp]; exact hmore.2
              · exact hgt j (by omega) h2
            have HF := Lib.hid (And.intro hfin hgt2)
            clear hfin hgt2 hgt hbk hp hmore hless hdt
            have q3 : (0 : Int) < (kp : Int) + 1 := by omega
            have q4 : IntKind.i64.wrap ((kp : Int) + 1 - 1) = (kp : Int) := by rw [Int.add_sub_cancel]; exact IntWalk.i64_in _ (by omega)
            have q5 : (kp : Int) < (i : Int) := by omega
            have q6 : (0 : Int) ≤ (kp : Int) := by omega
            have q7 : (p : Int) < (n : Int) := by omega
            have q8 : (0 : Int) ≤ (p : Int) := by omega
            have q9 : (p : Int) < (c : Int) := by omega
            have q10 : (p : Int) ≤ (n : Int) := by omega
            go_wp2
            go_quiet (refine Calls.quiet_of (HLS.out _))
            go_wp2
            go_roundw
            case rel => exact ⟨kp, by omega, by go_num, HF.out.1 _, HF.out.2⟩
            case measure => simp [intOf]
          · have hput := ordP_put κ i k hki hgt (fun h0 => Int.not_lt.1 (fun h => hmore ⟨h0, h⟩))
            obtain ⟨p1, hp1⟩ : ∃ p1, (ordP κ i).take k = p1 := ⟨_, rfl⟩
            obtain ⟨p2, hp2⟩ : ∃ p2, (ordP κ i).drop k = p2 := ⟨_, rfl⟩
            have hl1 : p1.length = k := by rw [← hp1, List.length_take, ordP_length]; omega
            have hl2 : p2.length = i - k := by rw [← hp2, List.length_drop, ordP_length]
            have hs1 := fun nq => ((HI.out.2.1.kept hbk).kept (below_drewN wr nq)).take k
            have hs2 := fun nq => ((HI.out.2.1.kept hbk).kept (below_drewN wr nq)).drop k
            have hst := fun nq => IN.start (w := w) (hs2 nq) (Nat.lt_of_lt_of_le HI.out.2.2 hbk.size) ((HI.out.1.2.trans (hbk.mono HI.out.1.2.size)).trans ((below_drewN wr nq).mono (HI.out.1.2.trans (hbk.mono HI.out.1.2.size)).size))
            rw [hp1, hp2] at hput
            rw [hp1] at hs1
            rw [hp2, Nat.zero_add] at hst
            have HC := Lib.hid (And.intro hl1 (And.intro hs1 (And.intro hst (And.intro hput hl2))))
            have hbsz := (HI.out.1.2.trans (hbk.mono HI.out.1.2.size)).size
            have hfact : (k = 0 ∧ True) ∨ ∃ (kp p : Nat), k = kp + 1 ∧ p < n ∧ wr.cell? ⟨g, kp, none⟩ = some (.int .i64 (p : Int)) ∧ ∀ m, Calls Try.prog 33 #[.slice (some ⟨bb, off + i, none⟩) (n - i) (c - i), .slice (some ⟨bb, off + p, none⟩) (n - p) (c - p)] (wr.drewN m) fun e u' => e = .returned (.bool false) ∧ ∃ m', u' = (wr.drewN m).drewN m' := by
              by_cases h0 : k = 0
              · exact .inl ⟨h0, trivial⟩
              · obtain ⟨kp, rfl⟩ : ∃ kp, k = kp + 1 := ⟨k - 1, by omega⟩
                obtain ⟨p, hp, hpn⟩ := ordP_at κ i (i := kp) (by omega)
                obtain ⟨g2, o2, hge, -, co⟩ := num_at (HI.out.2.1.kept hbk) (i := kp) (by rw [ordP_length]; omega)
                simp only [Option.some.injEq, Addr.mk.injEq, and_true] at hge
                obtain ⟨rfl, rfl⟩ := hge
                rw [Nat.zero_add, hp] at co
                have h2 : ¬ κ i < κ ((ordP κ i).getD kp 0) := fun h => hmore ⟨by omega, by rw [show kp + 1 - 1 = kp by omega]; exact h⟩
                rw [hp] at h2
                have hless := fun m => HC0.out (wr.drewN m) ((HI.out.1.2.trans (hbk.mono HI.out.1.2.size)).trans ((below_drewN wr m).mono (HI.out.1.2.trans (hbk.mono HI.out.1.2.size)).size)) i p hlt (by omega)
                rw [decide_eq_false h2] at hless
                exact .inr ⟨kp, p, rfl, by omega, co, hless⟩
            clear hput hp1 hp2 hl1 hl2 hs1 hs2 hst hbk hgt hmore
            rcases hfact with ⟨rfl, -⟩ | ⟨kp, p, rfl, hpn, co, hless⟩
            · have hc1 := HC.out.2.1 0
              have hc2 := HC.out.2.2.1 0
              rw [World.drewN_zero] at hc1 hc2
              have HC2 := Lib.hid (And.intro hc1 hc2)
              clear hc1 hc2
              obtain ⟨wz, rfl⟩ : ∃ wz, wz = wr := ⟨_, rfl⟩
              go_wp2_with (first
                | (at_builtin
                   refine wpList_append_nums rfl (.tmp 33) (.tmp 36) rfl w.heap.size (.slice none 0 0) 0 [] rfl (World.ownsRow_nil _ _ _ _) (some ⟨g, 0, none⟩) 0 cap p1 rfl HC.out.1 HC2.out.1 (by simp) ?c2 ?c3 ?_))
              case c2 => omega
              case c3 => omega
              intro v4 w4 hown hgrow hat
              have hI4 := HC2.out.2.app (l' := p1) (by rw [HC.out.1]; simpa using hown) hgrow hat
              have HI4 := Lib.hid hI4
              have hsz4 := hI4.bel.size
              clear hown hgrow hat hI4
              go_wp2_with (first
                | (at_builtin
                   refine wpList_append_nums rfl (.tmp 38) (.tmp 40) rfl w.heap.size v4 p1.length (p1.map (Value.int .i64)) rfl (HI4.out.alloc _).own (some ⟨w4.heap.size, 0, none⟩) 1 1 [(i : Int)] rfl rfl ?c1 (by simp) ?c2 ?c3 ?_))
              case c1 => exact nums_one _ _
              case c2 => have := HC.out.1; omega
              case c3 => simp; omega
              intro v5 w6 hown hgrow hat
              have hI5 := (HI4.out.alloc _).app (l' := p1 ++ [(i : Int)]) (by simpa using hown) hgrow (by simpa using hat)
              have HI5 := Lib.hid hI5
              have hsz5 := hI5.bel.size
              clear hown hgrow hat hI5 HI4 hsz4
              by_cases htd : 0 = cap
              · omega
              · have hlt3 : 0 < cap := by omega
                go_wp2_with (first
                  | (at_builtin
                     refine wpList_append_nums rfl (.tmp 42) (.tmp 45) rfl w.heap.size v5 (p1 ++ [(i : Int)]).length ((p1 ++ [(i : Int)]).map (Value.int .i64)) rfl HI5.out.own (some ⟨g, 0, none⟩) (i - 0) (cap - 0) p2 rfl HC.out.2.2.2.2 HI5.out.src (by simp) ?c2 ?c3 ?_))
                case c2 => rw [List.length_append, HC.out.1]; simp; omega
                case c3 => omega
                intro v6 w7 hown hgrow hat
                have hI6 := HI5.out.app (l' := ordP κ (i + 1)) (by rw [HC.out.2.2.2.1, List.length_append, List.map_append, HC.out.2.2.2.2]; simpa using hown) hgrow hat
                have HI6 := Lib.hid hI6
                clear hown hgrow hat hI6 HI5
                go_wp2
                go_roundw
                case rel => exact ⟨i + 1, by omega, by go_num, fun h => by omega, HI6.out.own, HI6.out.bel⟩
                case measure => simp [intOf]; omega
            · have HLS := Lib.hid hless
              clear hless
              have q3 : (0 : Int) < (kp : Int) + 1 := by omega
              have q4 : IntKind.i64.wrap ((kp : Int) + 1 - 1) = (kp : Int) := by rw [Int.add_sub_cancel]; exact IntWalk.i64_in _ (by omega)
              have q5 : (kp : Int) < (i : Int) := by omega
              have q6 : (0 : Int) ≤ (kp : Int) := by omega
              have q7 : (p : Int) < (n : Int) := by omega
              have q8 : (0 : Int) ≤ (p : Int) := by omega
              have q9' : (p : Int) < (c : Int) := by omega
              have q10' : (p : Int) ≤ (n : Int) := by omega
              go_wp2
              go_quiet (refine Calls.quiet_of (HLS.out _))
              have hc1 := HC.out.2.1 nq
              have hc2 := HC.out.2.2.1 nq
              have HC2 := Lib.hid (And.intro hc1 hc2)
              have hszz : w.heap.size ≤ (wr.drewN nq).heap.size := hbsz
              clear hc1 hc2 HLS
              generalize wr.drewN nq = wz at *
              have q9 : (kp : Int) + 1 ≤ (i : Int) := by omega
              have q10 : (kp : Int) + 1 ≤ (cap : Int) := by omega
              have q11 : ((kp : Int) + 1).toNat = kp + 1 := by omega
              go_wp2_with (first
                | (at_builtin
                   refine wpList_append_nums rfl (.tmp 33) (.tmp 36) rfl w.heap.size (.slice none 0 0) 0 [] rfl (World.ownsRow_nil _ _ _ _) (some ⟨g, 0, none⟩) (kp + 1) cap p1 rfl HC.out.1 HC2.out.1 (by simp) ?c2 ?c3 ?_))
              case c2 => omega
              case c3 => omega
              intro v4 w4 hown hgrow hat
              have hI4 := HC2.out.2.app (l' := p1) (by rw [HC.out.1]; simpa using hown) hgrow hat
              have HI4 := Lib.hid hI4
              have hsz4 := hI4.bel.size
              clear hown hgrow hat hI4
              go_wp2_with (first
                | (at_builtin
                   refine wpList_append_nums rfl (.tmp 38) (.tmp 40) rfl w.heap.size v4 p1.length (p1.map (Value.int .i64)) rfl (HI4.out.alloc _).own (some ⟨w4.heap.size, 0, none⟩) 1 1 [(i : Int)] rfl rfl ?c1 (by simp) ?c2 ?c3 ?_))
              case c1 => exact nums_one _ _
              case c2 => have := HC.out.1; omega
              case c3 => simp; omega
              intro v5 w6 hown hgrow hat
              have hI5 := (HI4.out.alloc _).app (l' := p1 ++ [(i : Int)]) (by simpa using hown) hgrow (by simpa using hat)
              have HI5 := Lib.hid hI5
              have hsz5 := hI5.bel.size
              clear hown hgrow hat hI5 HI4 hsz4
              by_cases htd : (kp + 1) = cap
              · obtain rfl : i = cap := by omega
                have hnil : p2 = [] := List.eq_nil_of_length_eq_zero (by rw [HC.out.2.2.2.2]; omega)
                have HN := Lib.hid hnil
                clear hnil
                go_wp2_with (first
                  | (at_builtin
                     refine wpList_append_nums rfl (.tmp 42) (.tmp 45) rfl w.heap.size v5 _ _ rfl HI5.out.own (some ⟨g, 0, none⟩) _ _ p2 rfl ?c1 (.inl HN.out) (by simp) ?c2 ?c3 ?_))
                case c1 => rw [HN.out]; simp; try omega
                case c2 => rw [List.length_append, HC.out.1]; simp; omega
                case c3 => omega
                intro v6 w7 hown hgrow hat
                have hI6 := HI5.out.app (l' := ordP κ (i + 1)) (by rw [HC.out.2.2.2.1, HN.out]; simpa [HN.out] using hown) hgrow hat
                have HI6 := Lib.hid hI6
                clear hown hgrow hat hI6 HI5
                go_wp2
                go_roundw
                case rel => exact ⟨i + 1, by omega, by go_num, fun h => by omega, HI6.out.own, HI6.out.bel⟩
                case measure => simp [intOf]; omega
              · have hlt3 : (kp + 1) < cap := by omega
                go_wp2_with (first
                  | (at_builtin
                     refine wpList_append_nums rfl (.tmp 42) (.tmp 45) rfl w.heap.size v5 (p1 ++ [(i : Int)]).length ((p1 ++ [(i : Int)]).map (Value.int .i64)) rfl HI5.out.own (some ⟨g, (kp + 1), none⟩) (i - (kp + 1)) (cap - (kp + 1)) p2 rfl HC.out.2.2.2.2 HI5.out.src (by simp) ?c2 ?c3 ?_))
                case c2 => rw [List.length_append, HC.out.1]; simp; omega
                case c3 => omega
                intro v6 w7 hown hgrow hat
                have hI6 := HI5.out.app (l' := ordP κ (i + 1)) (by rw [HC.out.2.2.2.1, List.length_append, List.map_append, HC.out.2.2.2.2]; simpa using hown) hgrow hat
                have HI6 := Lib.hid hI6
                clear hown hgrow hat hI6 HI5
                go_wp2
                go_roundw
                case rel => exact ⟨i + 1, by omega, by go_num, fun h => by omega, HI6.out.own, HI6.out.bel⟩
                case measure => simp [intOf]; omega
    · obtain rfl : i = n := by omega
      have HF := Lib.hid hI
      clear hI hnil0
      have q1 : ¬ (i : Int) < (i : Int) := by omega
      go_wp2
      go_ret
      exact ⟨_, rfl, HF.out⟩

end Go.Proofs.Ytdepncdknofocaa
