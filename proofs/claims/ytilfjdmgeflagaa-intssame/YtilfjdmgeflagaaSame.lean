/- The walk of IntsSame. -/
import Derived.Test.YtilfjdmgeflagaaIJ
namespace Go.Proofs.Ytilfjdmgeflagaa
open Go.RowKit
open M

/-- The numbers are bytes. -/
def U8s (xs : List Int) : Prop := ∀ x ∈ xs, 0 ≤ x ∧ x ≤ 255

theorem u8s_fit {xs : List Int} (h : U8s xs) (W : Nat) (hW : 8 ≤ W) : Fits xs W := by
  intro x hx
  have := h x hx
  have h2 : (2 : Nat) ^ 8 ≤ 2 ^ W := Nat.pow_le_pow_right (by decide) hW
  have e : ((2 : Int) ^ W) = ((2 ^ W : Nat) : Int) := by simp
  rw [e]
  omega

theorem pack_row (a0 : Option Addr) (n cap : Nat) (xs : List Int) (W : Nat) (w : World) (hx : NumsAt .i64 w a0 xs) (hn : xs.length = n) (hW : W ≤ 62) (hn' : n ≤ 10000000) (hfit : Fits xs W) :
    Calls Try.prog 11 #[.slice a0 n cap, .int .i64 (W : Int)] w fun e w' => ∃ g L m : Nat, e = .returned (.tuple #[.agg #[.int .i64 (n : Int), .int .i64 (W : Int), .int .i64 (L : Int), .slice (some ⟨g, 0, none⟩) m m], .int .i64 0]) ∧
      IRow w' n W L (some ⟨g, 0, none⟩) m m xs ∧ Below w.heap.size w w' := by
  refine (pack_ok a0 n cap xs W w hx hn hW hn' hfit).mono ?_
  rintro e w' ⟨g, rfl, hr, -, hb⟩
  exact ⟨g, n * W, nw (n * W), rfl, ⟨hr, hn, rfl, hfit, hW, hn'⟩, hb⟩

set_option maxRecDepth 100000 in
set_option maxHeartbeats 4000000 in
theorem same_walk (a1 a2 : Option Addr) (n1 n2 c1 c2 : Nat) (xs ys : List Int) (x y : Int) (V Z : Nat) (w : World) (e1 : xs.length = n1) (e2 : ys.length = n2) (hm1 : n1 ≤ 9223372036854775807) (hm2 : n2 ≤ 9223372036854775807)
    (h1 : NumsAt .u8 w a1 xs) (h2 : NumsAt .u8 w a2 ys) (hx : U8s xs) (hy : U8s ys) (hV : bits .and .i64 x 15 = (V : Int)) (hZ : bits .and .i64 y 15 = (Z : Int)) (hV2 : V ≤ 15) (hZ2 : Z ≤ 15) :
    Calls Try.prog 7 #[.slice a1 n1 c1, .slice a2 n2 c2, .agg #[.int .i64 x, .int .i64 y]] w fun e w' => e = .returned (.bool true) ∧ Below w.heap.size w w' := by
  obtain ⟨i0, hi0, hz0, hz1, hz2⟩ := info_parts info3
  obtain ⟨M1, hA1, hA2, hA3⟩ : ∃ M, M ≤ n1 ∧ M ≤ 100 ∧ (M = n1 ∨ M = 100) := ⟨min n1 100, by omega⟩
  obtain ⟨M2, hB1, hB2, hB3⟩ : ∃ M, M ≤ n2 ∧ M ≤ 100 ∧ (M = n2 ∨ M = 100) := ⟨min n2 100, by omega⟩
  have HX := Lib.hid (And.intro h1 (And.intro e1 (And.intro hx (And.intro h2 (And.intro e2 hy)))))
  clear h1 h2 e1 e2 hx hy
  go_enter Try.func7, Try.ntmps7
  go_wp2_with fail
  refine (awake_any _).mono ?_
  rintro e w1 ⟨rfl, hb⟩
  have hS := SS.start w x y hb
  have HS := Lib.hid hS
  clear hb hS
  go_wp2
  go_loopw [8, 9] (fun v8 v9 wr => ∃ i : Nat, i ≤ M1 ∧ v9 = .int .i64 (i : Int) ∧ SS w x y v8 (.slice none 0 0) (xs.take i) [] wr) (fun _ v9 _ => n1 - (intOf v9).toNat)
  case atStart => exact ⟨0, Nat.zero_le _, rfl, HS.out⟩
  case round =>
    obtain ⟨i, hi, rfl, hs⟩ := hrel
    obtain ⟨h1, e1, hx, h2, e2, hy⟩ := HX.out
    by_cases hlt : i < M1
    · rcases h1.kept hs.bel with hnil | ⟨b, off, rfl, hbs, hcs⟩
      · subst hnil; simp at e1; omega
      have hcb := hcs i (by omega)
      have q1 : (i : Int) < (n1 : Int) := by omega
      have q2 : (0 : Int) ≤ (i : Int) := by omega
      have htk := takeI_snoc xs i (by omega)
      have hxi := hx _ (memI xs i (by omega))
      have hlen : (xs.take i).length = i := by simp; omega
      have hsz := hs.lt
      generalize hpe : xs.take i = p at *
      clear hpe
      have HB := Lib.hid (And.intro hs (And.intro htk hlen))
      clear hs htk hlen hcs h1 h2 e1 e2 hx hy
      generalize xs.getD i 0 = z at *
      go_wp2_with (first
        | (at_builtin
           refine wpList_append_own_at _ rfl (.tmp 30) (.tmp 36) 22 rfl (w.heap.size + 1) 3 i0 (.int .i64 0) 1 8 Try.underlying22 hi0 hz0 hz1 hz2 rfl (by omega) _ _ _ rfl (HB.out.1.alloc _).r8 ⟨wr.heap.size, 0, none⟩ 1 1
             [.int .i64 z] rfl rfl ?c1 ?c2 ?c3 ?c4 ?c5 ?_))
      case c1 =>
        intro j u hj
        match j, hj with
        | 0, hj => simp at hj; subst hj; simp [Addr.add]
      case c2 => intro u hu; simp at hu; subst hu; rfl
      case c3 => rw [HB.out.2.2]; unfold maxLen; omega
      case c4 => rw [HB.out.2.2]; omega
      case c5 => simp; omega
      intro v' w4 hown hgrow _ hat
      have hs4 := (HB.out.1.alloc _).app8 (p' := xs.take (i + 1)) (by rw [HB.out.2.1, List.length_append, List.map_append]; exact hown) hgrow (by simpa using hat)
      have HS4 := Lib.hid hs4
      clear hs4 hown hgrow hat HB
      go_wp2
      go_roundw
      case rel => exact ⟨i + 1, by omega, by go_num, HS4.out⟩
      case measure => simp [intOf]; omega
    · have hex : ¬ i < n1 ∨ (i < n1 ∧ ¬ i < 100) := by omega
      obtain rfl : i = M1 := by omega
      have HS2 := Lib.hid hs
      clear hs h1 h2 e1 e2 hx hy HS
      rcases hex with q1 | ⟨q1, q2⟩
      all_goals
        go_wp2
        clear q1
        try clear q2
        go_loopw [10, 11] (fun v10 v11 wr => ∃ k : Nat, k ≤ M2 ∧ v11 = .int .i64 (k : Int) ∧ SS w x y u8 v10 (xs.take i) (ys.take k) wr) (fun _ v11 _ => n2 - (intOf v11).toNat)
        case atStart => exact ⟨0, Nat.zero_le _, rfl, HS2.out⟩
        case round =>
          obtain ⟨k, hk, rfl, hs⟩ := hrel
          obtain ⟨h1, e1, hx, h2, e2, hy⟩ := HX.out
          by_cases hlt : k < M2
          · rcases h2.kept hs.bel with hnil | ⟨b, off, rfl, hbs, hcs⟩
            · subst hnil; simp at e2; omega
            have hcb := hcs k (by omega)
            have q1 : (k : Int) < (n2 : Int) := by omega
            have q2 : (0 : Int) ≤ (k : Int) := by omega
            have htk := takeI_snoc ys k (by omega)
            have hxi := hy _ (memI ys k (by omega))
            have hlen : (ys.take k).length = k := by simp; omega
            have hsz := hs.lt
            generalize hpe : ys.take k = p at *
            clear hpe
            have HB := Lib.hid (And.intro hs (And.intro htk hlen))
            clear hs htk hlen hcs h1 h2 e1 e2 hx hy HS2
            generalize ys.getD k 0 = z at *
            go_wp2_with (first
              | (at_builtin
                 refine wpList_append_own_at _ rfl (.tmp 48) (.tmp 54) 22 rfl (w.heap.size + 1) 3 i0 (.int .i64 0) 1 8 Try.underlying22 hi0 hz0 hz1 hz2 rfl (by omega) _ _ _ rfl (HB.out.1.alloc _).r10 ⟨wr.heap.size, 0, none⟩ 1 1
                   [.int .i64 z] rfl rfl ?c1 ?c2 ?c3 ?c4 ?c5 ?_))
            case c1 =>
              intro j u hj
              match j, hj with
              | 0, hj => simp at hj; subst hj; simp [Addr.add]
            case c2 => intro u hu; simp at hu; subst hu; rfl
            case c3 => rw [HB.out.2.2]; unfold maxLen; omega
            case c4 => rw [HB.out.2.2]; omega
            case c5 => simp; omega
            intro v' w4 hown hgrow _ hat
            have hs4 := (HB.out.1.alloc _).app10 (q' := ys.take (k + 1)) (by rw [HB.out.2.1, List.length_append, List.map_append]; exact hown) hgrow (by simpa using hat)
            have HS4 := Lib.hid hs4
            clear hs4 hown hgrow hat HB
            go_wp2
            go_roundw
            case rel => exact ⟨k + 1, by omega, by go_num, HS4.out⟩
            case measure => simp [intOf]; omega
          · have hex : ¬ k < n2 ∨ (k < n2 ∧ ¬ k < 100) := by omega
            obtain rfl : k = M2 := by omega
            have hl1 : (xs.take i).length = i := by simp; omega
            have hl2 : (ys.take k).length = k := by simp; omega
            have hu1 : U8s (xs.take i) := fun z hz => hx z (List.mem_of_mem_take hz)
            have hu2 : U8s (ys.take k) := fun z hz => hy z (List.mem_of_mem_take hz)
            generalize xs.take i = p at *
            generalize ys.take k = q at *
            have r8 := hs.r8
            have r10 := hs.r10
            rw [hl1] at r8
            rw [hl2] at r10
            obtain ⟨b8, d8, rfl, hn8, hn8l, -⟩ := nums_of_own r8
            obtain ⟨b10, d10, rfl, hn10, hn10l, -⟩ := nums_of_own r10
            clear r8 r10
            have hi100 : i ≤ 100 := by omega
            have hk100 : k ≤ 100 := by omega
            have l0 := hs.c0
            have l1 := hs.c1
            have HP := Lib.hid (And.intro hn8 (And.intro hn10 (And.intro hl1 (And.intro hl2 (And.intro hu1 (And.intro hu2 hs.bel))))))
            clear hs h1 h2 e1 e2 hx hy HS2 hn8 hn10 hl1 hl2 hu1 hu2 hn8l hn10l HX
            rcases hex with q1 | ⟨q1, q2⟩
            all_goals
              go_wp2_with fail
              clear l0 l1 q1
              try clear q2
              have hp1 := pack_row b8 i d8 p (8 + V) wr HP.out.1 HP.out.2.2.1 (by omega) (by omega) (u8s_fit HP.out.2.2.2.2.1 _ (by omega))
              rw [show ((8 + V : Nat) : Int) = 8 + (V : Int) by omega] at hp1
              refine hp1.mono ?_
              clear hp1
              rintro e w5 ⟨g5, L5, m5, rfl, hr5, hb5⟩
              have hal5 := ((Below.refl w5.heap.size w5).alloc (Nat.le_refl _) (.cells #[.int .i64 (i : Int), .int .i64 (8 + (V : Int)), .int .i64 (L5 : Int), .slice (some ⟨g5, 0, none⟩) m5 m5] 31))
              have hbx5 := IBx.new w5 i (8 + V) L5 (.slice (some ⟨g5, 0, none⟩) m5 m5)
              rw [show ((8 + V : Nat) : Int) = 8 + (V : Int) by omega] at hbx5
              have hn10 := ((HP.out.2.1.kept hb5).kept hal5)
              have hn8 := ((HP.out.1.kept hb5).kept hal5)
              have hB5 := (HP.out.2.2.2.2.2.2.trans (hb5.mono HP.out.2.2.2.2.2.2.size)).trans (hal5.mono (Nat.le_trans HP.out.2.2.2.2.2.2.size hb5.size))
              have HQ := Lib.hid (And.intro hbx5 (And.intro (hr5.kept hal5) (And.intro hn8 (And.intro hn10 (And.intro HP.out.2.2 hB5)))))
              clear hr5 hb5 hal5 hbx5 hn10 hn8 hB5 HP
              go_wp2_with fail
              generalize (w5.alloc (.cells #[.int .i64 (i : Int), .int .i64 (8 + (V : Int)), .int .i64 (L5 : Int), .slice (some ⟨g5, 0, none⟩) m5 m5] 31)) = w6 at *
              generalize w5.heap.size = k5 at *
              obtain ⟨hbx5, hr5, hn8, hn10, ⟨hl1, hl2, hu1, hu2, -⟩, hB5⟩ := HQ.out
              have hp2 := pack_row b10 k d10 q (8 + Z) w6 hn10 hl2 (by omega) (by omega) (u8s_fit hu2 _ (by omega))
              rw [show ((8 + Z : Nat) : Int) = 8 + (Z : Int) by omega] at hp2
              refine hp2.mono ?_
              clear hp2
              rintro e w7 ⟨g7, L7, m7, rfl, hr7, hb7⟩
              have hal7 := ((Below.refl w7.heap.size w7).alloc (Nat.le_refl _) (.cells #[.int .i64 (k : Int), .int .i64 (8 + (Z : Int)), .int .i64 (L7 : Int), .slice (some ⟨g7, 0, none⟩) m7 m7] 31))
              have hbx7 := IBx.new w7 k (8 + Z) L7 (.slice (some ⟨g7, 0, none⟩) m7 m7)
              rw [show ((8 + Z : Nat) : Int) = 8 + (Z : Int) by omega] at hbx7
              have hA : A2 w k5 i (8 + V) L5 (some ⟨g5, 0, none⟩) m5 m5 p w7.heap.size k (8 + Z) L7 (some ⟨g7, 0, none⟩) m7 m7 q (w7.alloc (.cells #[.int .i64 (k : Int), .int .i64 (8 + (Z : Int)), .int .i64 (L7 : Int), .slice (some ⟨g7, 0, none⟩) m7 m7] 31)) :=
                ⟨(hbx5.kept hb7).kept hal7, (hr5.kept hb7).kept hal7, hbx7, hr7.kept hal7, (hB5.trans (hb7.mono hB5.size)).trans (hal7.mono (Nat.le_trans hB5.size hb7.size))⟩
              have HA := Lib.hid (And.intro hA (And.intro ((hn8.kept hb7).kept hal7) (And.intro ((hn10.kept hb7).kept hal7) (And.intro hl1 hl2))))
              clear hA hal7 hbx7 hr7 hb7 hbx5 hr5 hn8 hn10 hl1 hl2 hu1 hu2 hB5 HQ
              go_wp2_with fail
              generalize (w7.alloc (.cells #[.int .i64 (k : Int), .int .i64 (8 + (Z : Int)), .int .i64 (L7 : Int), .slice (some ⟨g7, 0, none⟩) m7 m7] 31)) = w8 at *
              generalize w7.heap.size = k7 at *
              obtain ⟨hA, hn8, hn10, hl1, hl2⟩ := HA.out
              refine (rsame_any b8 b10 i k d8 d10 p q w8 hn8 hn10 hl1 hl2 (by omega)).mono ?_
              rintro e w9 ⟨rfl, hb9⟩
              have hA9 := hA.kept hb9
              clear hA hn8 hn10 hb9 hl1 hl2 HA
              obtain ⟨c0, c1, c2, c3⟩ := hA9.bx
              obtain ⟨d0, d1, d2, d3⟩ := hA9.by'
              have HA9 := Lib.hid hA9
              clear hA9
              have z1 : ((8 + V : Nat) : Int) = 8 + (V : Int) := by omega
              have z2 : ((8 + Z : Nat) : Int) = 8 + (Z : Int) := by omega
              rw [z1] at c1
              rw [z2] at d1
              go_wp2_with fail
              have hsm := isame_any i (8 + V) L5 k (8 + Z) L7 (some ⟨g5, 0, none⟩) (some ⟨g7, 0, none⟩) m5 m5 m7 m7 p q w9 HA9.out.rx HA9.out.ry
              unfold intsV at hsm
              rw [z1, z2] at hsm
              refine hsm.mono ?_
              clear hsm c0 c1 c2 c3 d0 d1 d2 d3
              rintro e w10 ⟨rfl, hb10⟩
              have hA10 := HA9.out.kept hb10
              obtain ⟨c0, c1, c2, c3⟩ := hA10.bx
              rw [z1] at c1
              have HA10 := Lib.hid hA10
              clear hA10 hb10 HA9
              have hss := isame_any i (8 + V) L5 i (8 + V) L5 (some ⟨g5, 0, none⟩) (some ⟨g5, 0, none⟩) m5 m5 m5 m5 p p w10 HA10.out.rx HA10.out.rx
              unfold intsV at hss
              rw [z1] at hss
              rw [show decide (8 + V = 8 + V ∧ p = p) = true by simp] at hss
              have HSS := Lib.hid hss
              clear hss z1 z2
              by_cases hpq : p = q
              · have e1 : decide (p = q) = true := decide_eq_true hpq
                rw [e1]
                by_cases hVZ : V = Z
                · have e2 : decide (8 + V = 8 + Z ∧ p = q) = true := by simp [hpq, hVZ]
                  rw [e2]
                  subst hVZ
                  clear e1 e2 hpq
                  go_wp2_with fail
                  refine HSS.out.mono ?_
                  rintro e w11 ⟨rfl, hb11⟩
                  have HF := Lib.hid (HA10.out.kept hb11).bel
                  clear hb11 c0 c1 c2 c3 HA10 HSS
                  go_wp2
                  go_ret
                  exact ⟨rfl, HF.out⟩
                · have e2 : decide (8 + V = 8 + Z ∧ p = q) = false := by simp; omega
                  have e3 : ((8 + (V : Int)) == 8 + (Z : Int)) = false := by simp; omega
                  rw [e2]
                  clear e1 e2 hpq
                  go_wp2_with fail
                  refine HSS.out.mono ?_
                  rintro e w11 ⟨rfl, hb11⟩
                  have HF := Lib.hid (HA10.out.kept hb11).bel
                  clear hb11 c0 c1 c2 c3 HA10 HSS
                  go_wp2
                  go_ret
                  exact ⟨rfl, HF.out⟩
              · have e1 : decide (p = q) = false := decide_eq_false hpq
                have e2 : decide (8 + V = 8 + Z ∧ p = q) = false := by simp [hpq]
                rw [e1, e2]
                clear e1 e2 hpq
                go_wp2_with fail
                refine HSS.out.mono ?_
                rintro e w11 ⟨rfl, hb11⟩
                have HF := Lib.hid (HA10.out.kept hb11).bel
                clear hb11 c0 c1 c2 c3 HA10 HSS
                go_wp2
                go_ret
                exact ⟨rfl, HF.out⟩

end Go.Proofs.Ytilfjdmgeflagaa
