/- The walk of IntsReads. -/
import Derived.Test.YtilfjdmgeflagaaIM
import Derived.Deep.CutRange
namespace Go.Proofs.Ytilfjdmgeflagaa
open Go.RowKit
open M

set_option maxRecDepth 100000 in
set_option maxHeartbeats 4000000 in
theorem reads_walk (x y : Int) (s : ByteArray) (near : Bool) (w : World) (hx : -9223372036854775808 ≤ x ∧ x ≤ 9223372036854775807) (hsl : s.size ≤ 9223372036854775807) :
    Calls Try.prog 4 #[.agg #[.int .i64 x, .int .i64 y], .string s, .bool near] w fun e w' => e = .returned (.bool true) ∧ Below w.heap.size w w' := by
  go_enter Try.func4, Try.ntmps4
  go_wp2_with fail
  refine (awake_any _).mono ?_
  rintro e w1 ⟨rfl, hb⟩
  have hS := SS.start w x y hb
  have l0 := hS.c0
  have l1 := hS.c1
  have HS := Lib.hid hS
  clear hb hS
  go_upto_if 17 with fail
  go_cut [1] from 15 to 19 (fun v1 wx => (∃ t : ByteArray, v1 = .string t ∧ t.size ≤ 60) ∧ wx = w1)
  case first =>
    by_cases hcut : 60 < s.size
    · have hts : (s.extract 0 60).size ≤ 60 := by simp; omega
      generalize ht : s.extract 0 60 = t at *
      go_wp2
      go_meet
      exact ⟨⟨t, rfl, hts⟩, rfl⟩
    · go_wp2
      go_meet
      exact ⟨⟨s, rfl, by omega⟩, rfl⟩
  case rest =>
    obtain ⟨⟨t, rfl, ht⟩, rfl⟩ := hcut
    clear hsl
    go_upto_region 5 with fail
    go_cut [32] from 20 to 32 (fun v32 wx => (∃ b : Bool, v32 = .bool b ∧ (b = true → 0 < y ∧ y ≤ 62)) ∧ wx = wc)
    case first =>
      cases near
      · go_wp2
        go_meet
        exact ⟨⟨false, rfl, by simp⟩, rfl⟩
      · by_cases h0 : 0 < y
        · by_cases h1 : y ≤ 62
          · go_wp2
            go_meet
            exact ⟨⟨true, rfl, fun _ => ⟨h0, h1⟩⟩, rfl⟩
          · go_wp2
            go_meet
            exact ⟨⟨false, rfl, by simp⟩, rfl⟩
        · go_wp2
          go_meet
          exact ⟨⟨false, rfl, by simp⟩, rfl⟩
    case rest =>
      obtain ⟨⟨b, rfl, hb⟩, rfl⟩ := hcut
      go_upto_if 32 with fail
      go_cut [8] from 33 to 45 (fun v8 wx => (∃ n : Int, v8 = .int .i64 n ∧ n ≤ 9223372036854775807) ∧ wx = wc)
      case first =>
        cases b
        · go_wp2
          go_meet
          exact ⟨⟨x, rfl, hx.2⟩, rfl⟩
        · obtain ⟨h0, h1⟩ := hb rfl
          clear hb
          obtain ⟨D, hD⟩ : ∃ D, (8 * (t.size : Int)) / y = D := ⟨_, rfl⟩
          have hD0 : 0 ≤ D := by rw [← hD]; exact Int.ediv_nonneg (by omega) (by omega)
          have hD1 : D ≤ 480 := by rw [← hD]; exact Int.le_trans (Int.ediv_le_self _ (by omega)) (by omega)
          have t1 := Int.tmod_lt_of_pos x (b := D + 2) (by omega)
          have t2 := Int.lt_tmod_of_pos x (b := D + 2) (by omega)
          have hyne : y ≠ 0 := by omega
          go_wp2
          all_goals
            go_meet
            exact ⟨⟨_, rfl, by omega⟩, rfl⟩
      case rest =>
        obtain ⟨⟨n, rfl, hn⟩, rfl⟩ := hcut
        clear hb hx
        go_upto_region 9 with fail
        go_cut [52] from 46 to 52 (fun v52 wx => (∃ b : Bool, v52 = .bool b) ∧ wx = wc)
        case first =>
          by_cases h0 : 16777216 < n
          · by_cases h1 : y = 0
            · subst h1
              go_wp2
              go_meet
              exact ⟨⟨_, rfl⟩, rfl⟩
            · have h2 : (y == 0) = false := by simpa using h1
              go_wp2
              go_meet
              exact ⟨⟨_, rfl⟩, rfl⟩
          · go_wp2
            go_meet
            exact ⟨⟨_, rfl⟩, rfl⟩
        case rest =>
          obtain ⟨⟨b2, rfl⟩, rfl⟩ := hcut
          go_upto_if 52 with fail
          go_cut [8] from 46 to 52 (fun v8 wx => (∃ n : Int, v8 = .int .i64 n ∧ n ≤ 9223372036854775807) ∧ wx = wc)
          case first =>
            cases b2
            all_goals
              go_wp2
              go_meet
              exact ⟨⟨_, rfl, by omega⟩, rfl⟩
          case rest =>
            obtain ⟨⟨n2, rfl, hn2⟩, rfl⟩ := hcut
            clear hn
            go_upto_region 11 with fail
            go_cut [63] from 53 to 63 (fun v63 wx => (∃ b : Bool, v63 = .bool b ∧ (b = false → y = 0 → n2 ≤ 5000 ∨ 16777216 < n2)) ∧ wx = wc)
            case first =>
              by_cases h0 : 5000 < n2
              · by_cases h1 : n2 ≤ 16777216
                · by_cases h2 : y = 0
                  · subst h2
                    go_wp2
                    go_meet
                    exact ⟨⟨true, rfl, by simp⟩, rfl⟩
                  · have h3 : (y == 0) = false := by simpa using h2
                    go_wp2
                    go_meet
                    exact ⟨⟨false, rfl, fun _ e => absurd e h2⟩, rfl⟩
                · go_wp2
                  go_meet
                  exact ⟨⟨false, rfl, fun _ _ => .inr (by omega)⟩, rfl⟩
              · go_wp2
                go_meet
                exact ⟨⟨false, rfl, fun _ _ => .inl (by omega)⟩, rfl⟩
            case rest =>
              obtain ⟨⟨b3, rfl, hb3⟩, rfl⟩ := hcut
              go_upto_if 63 with fail
              go_cut [8] from 53 to 63 (fun v8 wx => (∃ n : Int, v8 = .int .i64 n ∧ (y = 0 → n ≤ 5000 ∨ 16777216 < n)) ∧ wx = wc)
              case first =>
                cases b3
                · go_wp2
                  go_meet
                  exact ⟨⟨_, rfl, by simpa using hb3⟩, rfl⟩
                · go_wp2
                  go_meet
                  exact ⟨⟨_, rfl, fun _ => .inl (by omega)⟩, rfl⟩
              case rest =>
                obtain ⟨⟨n3, rfl, hn3⟩, rfl⟩ := hcut
                clear hb3 hn2
                obtain ⟨xs, E, hRB⟩ := rb_any n3 y t ht hn3
                have HR := Lib.hid hRB
                have hfew := hRB.few
                clear hRB hn3
                go_wp2_with fail
                refine (HR.out.own _).mono ?_
                rintro e w5 ⟨nn, WW, L, a5, m5, c5, rfl, hr5, hb5⟩
                have hal5 := ((Below.refl w5.heap.size w5).alloc (Nat.le_refl _) (.cells #[.int .i64 (nn : Int), .int .i64 (WW : Int), .int .i64 (L : Int), .slice a5 m5 c5] 31))
                have hS5 := HS.out.kept hb5
                have hbx5 := IBx.new w5 nn WW L (.slice a5 m5 c5)
                have HQ := Lib.hid (And.intro (hS5.kept hal5) (And.intro hbx5 (hr5.kept hal5)))
                have l0 := hS5.c0
                have l1 := hS5.c1
                have hlt5 := hS5.lt
                clear hr5 hb5 hal5 hbx5 hS5 HS
                go_wp2_with fail
                clear l0 l1 hlt5
                generalize (w5.alloc (.cells #[.int .i64 (nn : Int), .int .i64 (WW : Int), .int .i64 (L : Int), .slice a5 m5 c5] 31)) = w6 at *
                generalize w5.heap.size = k5 at *
                refine (HR.out.doc _).mono ?_
                rintro e w7 ⟨a7, m7, c7, rfl, hn7, hl7, hb7⟩
                have hbx7 := HQ.out.2.1.kept hb7
                have HT := Lib.hid (And.intro (HQ.out.1.kept hb7) (And.intro (HQ.out.2.2.kept hb7) (And.intro hn7 hl7)))
                obtain ⟨d0, d1, d2, d3⟩ := hbx7
                clear hn7 hl7 hb7 HQ
                go_wp2_with fail
                have hli := ilist_any nn WW L a5 m5 c5 xs w7 HT.out.2.1
                unfold intsV at hli
                refine hli.mono ?_
                clear hli d0 d1 d2 d3
                rintro e w8 ⟨g8, rfl, -, hown, hb8⟩
                obtain ⟨a8, c8, hv8, hn8, hl8, -⟩ := nums_of_own hown
                simp only [Value.slice.injEq] at hv8
                obtain ⟨rfl, -, rfl⟩ := hv8
                have hnnl : nn ≤ 5000 := by omega
                have HU := Lib.hid (And.intro (HT.out.1.kept hb8) (And.intro (HT.out.2.2.1.kept hb8) (And.intro HT.out.2.2.2 (And.intro hn8 hl8))))
                clear hown hn8 hl8 hb8 HT
                go_wp2_with fail
                refine (rsame_any (some ⟨g8, 0, none⟩) a7 nn m7 nn c7 xs xs w8 HU.out.2.2.2.1 HU.out.2.1 HU.out.2.2.2.2 HU.out.2.2.1 (by omega)).mono ?_
                rintro e w9 ⟨rfl, hb9⟩
                rw [decide_eq_true (rfl : xs = xs)]
                have HF := Lib.hid (HU.out.1.kept hb9).bel
                clear hb9 HU HR
                go_wp2
                go_ret
                exact ⟨rfl, HF.out⟩

end Go.Proofs.Ytilfjdmgeflagaa
