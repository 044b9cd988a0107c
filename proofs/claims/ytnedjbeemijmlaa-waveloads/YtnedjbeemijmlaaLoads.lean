/- The walk of WaveLoads. -/
import Derived.Test.YtnedjbeemijmlaaLoadsD
import Derived.Test.YtnedjbeemijmlaaWY
import Derived.Deep.CutRange
import Derived.Deep.CutBlock
set_option maxRecDepth 100000
namespace Go.Proofs.Ytnedjbeemijmlaa
open Go.RowKit
open M
attribute [local go_sem ↓] Go.wp_at_zero Go.wp_at_succ

theorem bools_take {w : World} {a : Option Addr} {l : List Bool} (h : BoolsAt w a l) (k : Nat) : BoolsAt w a (l.take k) := by
  rcases h with rfl | ⟨b, off, h1, h2, h3⟩
  · exact .inl (by simp)
  · refine .inr ⟨b, off, h1, h2, fun j hj => ?_⟩
    rw [List.length_take] at hj
    rw [h3 j (by omega)]
    simp [List.getD_eq_getElem?_getD, show j < k by omega]

set_option maxHeartbeats 8000000 in
theorem loads_walk (A : Option Addr) (n0 c0 : Nat) (Ls : List (List Bool)) (q0 q1 : Int) (near : Bool) (w : World) (hA : BBAt w A Ls) (hx : Ls.length = n0) :
    Calls Try.prog 6 #[.slice A n0 c0, .agg #[.int .i64 q0, .int .i64 q1], .bool near] w fun e w' => e = .returned (.bool true) ∧ Below w.heap.size w w' := by
  have HH := Lib.hid (And.intro hA hx)
  clear hA hx
  go_enter Try.func6, Try.ntmps6
  go_wp2_with fail
  refine (awake_any _).mono ?_
  rintro e w1 ⟨rfl, hb1⟩
  have hb0 : Below w.heap.size w w1 := ((Below.refl _ _).alloc (Nat.le_refl _) _).trans (hb1.mono (by simp))
  have z0 := hb1.cell (p := ⟨w.heap.size, 0, none⟩) (by simp)
  have z1 := hb1.cell (p := ⟨w.heap.size, 1, none⟩) (by simp)
  rw [cell_new _ _ _ _ _ rfl] at z0 z1
  have z0 : w1.cell? ⟨w.heap.size, 0, none⟩ = some (.int .i64 q0) := z0
  have z1 : w1.cell? ⟨w.heap.size, 1, none⟩ = some (.int .i64 q1) := z1
  have HB := Lib.hid (And.intro hb0 (And.intro z0 (And.intro z1 (And.intro (HH.out.1.kept hb0) HH.out.2))))
  clear hb0 hb1 z0 z1 HH
  go_wp2
  go_loopw [8, 9, 10, 11] (fun v8 v9 v10 _ wr => ∃ (i : Nat) (rs : List PW), i ≤ n0 ∧ i ≤ 6 ∧ v10 = .int .i64 (i : Int) ∧ rs.length = i ∧ PR w1 v9 v8 rs rs wr) (fun _ _ v10 _ _ => 6 - (intOf v10).toNat)
  case atStart => exact ⟨0, [], Nat.zero_le _, by omega, rfl, rfl, PR.start _⟩
  case round =>
    obtain ⟨i, rs, hi, hi6, rfl, hrs, hP⟩ := hrel
    by_cases hgo : i < n0 ∧ i < 6
    · obtain ⟨hin, hi7⟩ := hgo
      have g1 : (i : Int) < (n0 : Int) := by omega
      have g2 : (i : Int) < 6 := by omega
      have g3 : (0 : Int) ≤ (i : Int) := by omega
      have hbb := HB.out.2.2.2.1
      rcases hbb with hbb | ⟨g, o, rfl, hgl, hbb⟩
      · have := HB.out.2.2.2.2; rw [hbb] at this; simp at this; omega
      obtain ⟨b, c, hc1, hc2, hc3, hc4⟩ := hbb i (by rw [HB.out.2.2.2.2]; exact hin)
      have hcw := hP.bel.cell (p := ⟨g, o + i, none⟩) hgl
      rw [hc1] at hcw
      obtain ⟨pa, pcap, rfl, hpl⟩ := hP.plain
      rw [hrs] at hpl
      rw [hrs]
      generalize Ls.getD i [] = L at *
      obtain ⟨ln, hln⟩ : ∃ ln, L.length = ln := ⟨_, rfl⟩
      rw [hln] at hcw hc2
      have hbne : 0 < ln → ∃ bb bo, b = some ⟨bb, bo, none⟩ := fun h => by
        rcases hc4 with rfl | ⟨bb, bo, e, -⟩
        · simp at hln; omega
        · exact ⟨bb, bo, e⟩
      have HL := Lib.hid (And.intro hln (And.intro hc3 (And.intro hc4 (And.intro hP (And.intro hrs (And.intro hpl hbne))))))
      clear hln hc3 hc4 hP hrs hpl hbb hc1 hbne
      go_upto_if 38 with fail
      go_cut [11, 38] from 39 to 40 (fun v11 _ wx => (∃ k : Nat, v11 = .slice b k c ∧ k ≤ ln ∧ k ≤ 60) ∧ wx = wr)
      case first =>
        by_cases h60 : 60 < ln
        · obtain ⟨bb, bo, rfl⟩ := HL.out.2.2.2.2.2.2 (by omega)
          have h61 : (60 : Int) < (ln : Int) := by omega
          go_wp2
          go_meet
          exact ⟨⟨60, rfl, by omega, by omega⟩, rfl⟩
        · have h61 : ¬ (60 : Int) < (ln : Int) := by omega
          go_wp2
          go_meet
          exact ⟨⟨ln, rfl, by omega, by omega⟩, rfl⟩
      case rest =>
        obtain ⟨⟨k, rfl, hk1, hk2⟩, rfl⟩ := hcut
        clear hcw
        have hp0 := HL.out.2.2.2.2.2.1
        go_upto_region 10 with fail
        go_cut [54] from 41 to 53 (fun v54 wx => (∃ t : Bool, v54 = .bool t ∧ (t = true → 0 < i ∧ (rs.getD 0 W0).l.length < k)) ∧ wx = wc)
        case first =>
          cases near
          · clear hp0
            go_wp2
            go_meet
            exact ⟨⟨false, rfl, fun h => by cases h⟩, rfl⟩
          · by_cases h0 : 0 < i
            · obtain ⟨pg, rfl, hpc⟩ := hp0 0 h0
              unfold pcl at hpc
              generalize (rs.getD 0 W0).l.length = f at *
              have h1 : (0 : Int) < (i : Int) := by omega
              clear hp0
              by_cases h2 : f < k
              · have h3 : (f : Int) < (k : Int) := by omega
                go_wp2
                go_meet
                exact ⟨⟨true, rfl, fun _ => ⟨h0, by omega⟩⟩, rfl⟩
              · have h3 : ¬ (f : Int) < (k : Int) := by omega
                go_wp2
                go_meet
                exact ⟨⟨false, rfl, fun h => by cases h⟩, rfl⟩
            · have h1 : ¬ (0 : Int) < (i : Int) := by omega
              clear hp0
              go_wp2
              go_meet
              exact ⟨⟨false, rfl, fun h => by cases h⟩, rfl⟩
        case rest =>
          obtain ⟨⟨t, rfl, ht⟩, rfl⟩ := hcut
          go_upto_if 54 with fail
          go_cut [11, 54] from 55 to 60 (fun v11 _ wx => (∃ k : Nat, v11 = .slice b k c ∧ k ≤ ln ∧ k ≤ 60) ∧ wx = wc)
          case first =>
            cases t
            · clear hp0
              go_wp2
              go_meet
              exact ⟨⟨k, rfl, hk1, hk2⟩, rfl⟩
            · obtain ⟨h0, hfk⟩ := ht rfl
              obtain ⟨pg, rfl, hpc⟩ := hp0 0 h0
              unfold pcl at hpc
              generalize (rs.getD 0 W0).l.length = f at *
              clear hp0
              have h3 : (f : Int) ≤ (k : Int) := by omega
              have h4 : (0 : Int) ≤ (f : Int) := by omega
              have h5 : (f : Int) ≤ (c : Int) := by omega
              obtain ⟨bb, bo, rfl⟩ := HL.out.2.2.2.2.2.2 (by omega)
              go_wp2
              go_meet
              exact ⟨⟨f, rfl, by omega, by omega⟩, rfl⟩
          case rest =>
            clear hp0 ht hk1 hk2
            obtain ⟨⟨k, rfl, hk1, hk2⟩, rfl⟩ := hcut
            obtain ⟨hln, hc3, hc4, hP, hrs, -, -⟩ := HL.out
            have hlk : (L.take k).length = k := by rw [List.length_take, hln]; omega
            have hbk := bools_take hc4 k
            generalize L.take k = l at *
            have hpr : BoolsAt w1 (PW.mk b c none 0 0 l).pb (PW.mk b c none 0 0 l).l ∧ (PW.mk b c none 0 0 l).l.length ≤ (PW.mk b c none 0 0 l).pc ∧ (PW.mk b c none 0 0 l).pc ≤ maxLen ∧ (PW.mk b c none 0 0 l).l.length ≤ 60 := ⟨hbk, by show l.length ≤ c; omega, hc3, by show l.length ≤ 60; omega⟩
            have hsz := hP.bel.size
            have HQ := Lib.hid (And.intro hP (And.intro hrs (And.intro hbk (And.intro hlk hc3))))
            clear hln hc3 hc4 hrs hP hpr hbk HL
            obtain ⟨i0, hi0, hz0, hz1, hz2⟩ := info_parts info38
            go_wp2_with (first
              | (at_builtin
                 refine wpList_append_own_at _ rfl (.tmp 61) (.tmp 63) 35 rfl w1.heap.size 38 i0 (.slice none 0 0) 1 24 Try.underlying35 hi0 hz0 hz1 hz2 rfl (by omega) _ i (rs.map pcl) rfl (by have := (HQ.out.1.alloc (.cells #[.slice b k c] 38)).own1; rw [HQ.out.2.1] at this; exact this) ⟨_, 0, none⟩ 1 1 [.slice b k c] rfl rfl ?c1 (by simp [Value.oneCell']) ?c2 ?c3 ?c4 ?_))
            case c1 => exact cell_one_new _ _ _
            case c2 => unfold maxLen; omega
            case c3 => omega
            case c4 => simp; omega
            intro v9 w5 hown hgrow _ hat
            obtain ⟨r, hr⟩ : ∃ r : PW, r = ⟨b, c, some ⟨w5.heap.size + 1, 0, none⟩, nw k, nw k, l⟩ := ⟨_, rfl⟩
            have hpc : pcl r = .slice b k c := by rw [hr]; unfold pcl; show Value.slice b l.length c = _; rw [HQ.out.2.2.2.1]
            have hbc : bcl r = [.int .i64 (k : Int), .slice (some ⟨w5.heap.size + 1, 0, none⟩) (nw k) (nw k)] := by rw [hr]; unfold bcl; show [Value.int .i64 (l.length : Int), _] = _; rw [HQ.out.2.2.2.1]
            have hP0 : PR w1 (.slice pa i pcap) u8 rs rs wc := by have := HQ.out.1; rw [HQ.out.2.1] at this; exact this
            have hP1 := hP0.app1 (.cells #[.slice b k c] 38) r (by rw [hr]; exact ⟨HQ.out.2.2.1, by show l.length ≤ c; rw [HQ.out.2.2.2.1]; omega, HQ.out.2.2.2.2, by show l.length ≤ 60; rw [HQ.out.2.2.2.1]; exact hk2⟩) (by rw [HQ.out.2.1, hpc]; exact hown) hgrow hat
            have hmk := make_any b c l w5 (HQ.out.2.2.1.kept hP1.bel) (by rw [HQ.out.2.2.2.1]; omega)
            rw [HQ.out.2.2.2.1] at hmk
            have HMK := Lib.hid hmk
            have HP1 := Lib.hid (And.intro hP1 (And.intro hr hbc))
            clear hown hgrow hat hmk hP1 hP0 hr hpc hbc hi0 hz0 hz1 hz2
            go_wp2_with fail
            refine HMK.out.mono ?_
            rintro e w6 ⟨rfl, hra, hb6⟩
            have hP2 := HP1.out.1.kept hb6
            have hsz6 := hP2.bel.size
            have hnw : nw k ≤ 1000 := by unfold nw; omega
            have hr2 : RowAt w6 (.slice r.g r.k r.c) r.l ∧ ∀ kk, (Value.slice r.g r.k r.c).ownBlock = some kk → v9.ownBlock ≠ some kk ∧ u8.ownBlock ≠ some kk ∧ kk < w6.heap.size := by
              rw [HP1.out.2.1]
              refine ⟨hra, fun kk e => ⟨fun e2 => ?_, fun e2 => ?_, (World.ownsRow.lt hra kk e).2⟩⟩
              · have := (HP1.out.1.own1.lt kk e2).2
                simp [Value.ownBlock] at e
                omega
              · have := (HP1.out.1.own2.lt kk e2).2
                simp [Value.ownBlock] at e
                omega
            have HP2 := Lib.hid (And.intro hP2 hr2)
            clear hP2 hr2 hra hb6
            obtain ⟨i1, hi1, hy0, hy1, hy2⟩ := info_parts info41
            go_wp2_with (first
              | (at_builtin
                 refine wpList_append_own_at _ rfl (.tmp 65) (.tmp 68) 33 rfl w1.heap.size 41 i1 (.agg #[.int .i64 0, .slice none 0 0]) 2 32 Try.underlying33 hi1 hy0 hy1 hy2 rfl (by omega) _ i (rs.flatMap bcl) rfl (by have := (HP2.out.1.alloc (.cells #[.int .i64 (k : Int), .slice (some ⟨w5.heap.size + 1, 0, none⟩) (nw k) (nw k)] 41)).own2; rw [HQ.out.2.1] at this; exact this) ⟨_, 0, none⟩ 1 1 [.int .i64 (k : Int), .slice (some ⟨w5.heap.size + 1, 0, none⟩) (nw k) (nw k)] rfl rfl ?c1 (by simp [Value.oneCell']) ?c2 ?c3 ?c4 ?_))
            case c1 => exact World.news_of_block (cs := #[.int .i64 (k : Int), .slice (some ⟨w5.heap.size + 1, 0, none⟩) (nw k) (nw k)]) (t := 41) (fr := (0, 0)) (heap_alloc_new w6 _)
            case c2 => unfold maxLen; omega
            case c3 => omega
            case c4 => simp; omega
            intro v8 w7 hown hgrow _ hat
            have hP3 := HP2.out.1.app2 (.cells #[.int .i64 (k : Int), .slice (some ⟨w5.heap.size + 1, 0, none⟩) (nw k) (nw k)] 41) r HP2.out.2 (by rw [HQ.out.2.1, HP1.out.2.2]; exact hown) hgrow hat
            have HP3 := Lib.hid hP3
            clear hP3 hown hgrow hat hi1 hy0 hy1 hy2
            go_wp2
            go_roundw
            case rel => exact ⟨i + 1, rs ++ [r], by omega, by omega, by go_num, by rw [List.length_append, HQ.out.2.1]; rfl, HP3.out⟩
            case measure => simp [intOf]; omega
    · go_upto_region 5 with fail
      go_cut [29] from 22 to 28 (fun v29 wx => v29 = .bool false ∧ wx = wr)
      case first =>
        by_cases h1 : i < n0
        · have h2 : (i : Int) < (n0 : Int) := by omega
          have h3 : ¬ (i : Int) < 6 := by omega
          go_wp2
          go_meet
          exact ⟨rfl, rfl⟩
        · have h2 : ¬ (i : Int) < (n0 : Int) := by omega
          go_wp2
          go_meet
          exact ⟨rfl, rfl⟩
      case rest =>
        obtain ⟨rfl, rfl⟩ := hcut
        have hP' := hP
        obtain ⟨pa, pcap, rfl, hpl⟩ := hP'.plain
        obtain ⟨ra, rcap, rfl, hbg⟩ := hP'.bits
        have z0 := hP.bel.cell (p := ⟨w.heap.size, 0, none⟩) (World.block_lt_of_cell? w1 _ HB.out.2.1)
        have z1 := hP.bel.cell (p := ⟨w.heap.size, 1, none⟩) (World.block_lt_of_cell? w1 _ HB.out.2.2.1)
        rw [HB.out.2.1] at z0
        rw [HB.out.2.2.1] at z1
        rw [hrs] at hpl hbg
        rw [hrs]
        have HP := Lib.hid (And.intro hP (And.intro hrs (And.intro hpl hbg)))
        have HBL := Lib.hid (HB.out.1.trans (hP.bel.mono HB.out.1.size))
        clear hP' hP hrs hbg hi hgo HB
        generalize hqb : w.heap.size = qb at *
        have HQB := Lib.hid hqb
        clear hqb
        go_upto_if 72 with fail
        go_cut [12, 72, 75] from 73 to 79 (fun v12 _ _ wx => (∃ n : Int, v12 = .int .i64 n) ∧ wx = wc)
        case first =>
          cases near
          · clear hpl
            go_wp2
            go_meet
            exact ⟨⟨q0, rfl⟩, rfl⟩
          · by_cases h0 : 0 < i
            · obtain ⟨pg, rfl, hpc⟩ := hpl 0 h0
              unfold pcl at hpc
              generalize (rs.getD 0 W0).l.length = f at *
              have h1 : (0 : Int) < (i : Int) := by omega
              clear hpl
              go_wp2
              go_meet
              exact ⟨⟨_, rfl⟩, rfl⟩
            · have h1 : ¬ (0 : Int) < (i : Int) := by omega
              clear hpl
              go_wp2
              go_meet
              exact ⟨⟨_, rfl⟩, rfl⟩
        case rest =>
          obtain ⟨⟨n, rfl⟩, rfl⟩ := hcut
          clear z0 hpl
          go_upto_region 19 with fail
          go_cut [85] from 80 to 84 (fun v85 wx => v85 = .bool (decide (5000 < n ∧ n ≤ 16777216)) ∧ wx = wc)
          case first =>
            by_cases h1 : 5000 < n
            · by_cases h2 : n ≤ 16777216
              · go_wp2
                go_meet
                exact ⟨by rw [decide_eq_true ⟨h1, h2⟩], rfl⟩
              · go_wp2
                go_meet
                exact ⟨by rw [decide_eq_false (by omega)], rfl⟩
            · go_wp2
              go_meet
              exact ⟨by rw [decide_eq_false (by omega)], rfl⟩
          case rest =>
            obtain ⟨rfl, rfl⟩ := hcut
            go_upto_if 85 with fail
            go_cut [12, 85] from 86 to 86 (fun v12 _ wx => (∃ n : Int, v12 = .int .i64 n ∧ (n < 0 ∨ 16777216 < n ∨ (0 ≤ n ∧ n ≤ 5000))) ∧ wx = wc)
            case first =>
              by_cases h1 : 5000 < n ∧ n ≤ 16777216
              · rw [decide_eq_true h1]
                go_wp2
                go_meet
                exact ⟨⟨5000, rfl, by omega⟩, rfl⟩
              · rw [decide_eq_false h1]
                go_wp2
                go_meet
                exact ⟨⟨n, rfl, by omega⟩, rfl⟩
            case rest =>
              clear n
              obtain ⟨⟨n, rfl, hn⟩, rfl⟩ := hcut
              obtain rfl := HQB.out
              obtain ⟨sz, hsz, hsz1, hsz2⟩ := abs_rest q1 65 (by omega)
              have hsz : q1.tmod 65 = sz := hsz
              have hld : Calls Try.prog 35 #[.int .i64 n, .int .i64 sz, .slice ra i rcap] wc (LoadEnd wc n sz i (rs.map (·.l)) (fun l => (l.length : Int) = n ∧ rowsI l i i = rs.map (·.l) ∧ n ≤ 5000)) := by
                have hml : (rs.map (·.l)).length = i := by rw [List.length_map, HP.out.2.1]
                by_cases hno : n < 0 ∨ 16777216 < n ∨ sizeB sz = false ∨ i ≠ wdt sz
                · exact load_no _ _ _ _ _ _ _ _ hno
                · obtain ⟨nn, rfl⟩ : ∃ nn : Nat, n = (nn : Int) := ⟨n.toNat, by omega⟩
                  have hsB : sizeB sz = true := by
                    cases h : sizeB sz
                    · exact absurd (.inr (.inr (.inl h))) hno
                    · rfl
                  have hiw : i = wdt sz := by
                    by_cases h : i = wdt sz
                    · exact h
                    · exact absurd (.inr (.inr (.inr h))) hno
                  refine load_any nn sz ra i rcap _ _ wc HP.out.2.2.2 (fun j hj => ?_) (by omega) hsB hiw (fun hall => ?_)
                  · have e : (rs.map (·.l)).getD j [] = (rs.getD j W0).l := by simp [List.getD_eq_getElem?_getD, show j < rs.length by rw [HP.out.2.1]; exact hj]
                    have hm : rs.getD j W0 ∈ rs := by simp [List.getD_eq_getElem?_getD, show j < rs.length by rw [HP.out.2.1]; exact hj]
                    rw [e]
                    have := (HP.out.1.pl _ hm).2.2.2
                    omega
                  · obtain ⟨l, h1, h2, h3⟩ := rows_are nn i (rs.map (·.l)) hml (fun r hr => by
                      obtain ⟨j, hj, e⟩ := List.getElem_of_mem hr
                      have := hall j (by omega)
                      rw [show (rs.map (·.l)).getD j [] = (rs.map (·.l))[j] by simp [List.getD_eq_getElem?_getD, show j < rs.length by rw [HP.out.2.1]; omega], e] at this
                      exact this)
                    exact ⟨l, ⟨by rw [h1], h3, by omega⟩, h1, h2, h3⟩
              have HLD := Lib.hid hld
              clear hld
              go_wp2_with fail
              clear z1 hsz
              refine HLD.out.mono ?_
              rintro e u1 ⟨hb1, ⟨rfl, -⟩ | ⟨l, la, lcap, rfl, ⟨hl1, hl2, hl3⟩, -, hwx, hsB, hiw, hlx⟩⟩
              · have hb2 := HBL.out.trans (hb1.mono HBL.out.size)
                have hbn : Below u1.heap.size u1 (u1.alloc (.cells #[.int .i64 0, .int .i64 0, .slice none 0 0] 27)) := (Below.refl _ _).alloc (Nat.le_refl _) _
                have HB4 := Lib.hid (hb2.trans (hbn.mono hb2.size))
                have HWB := Lib.hid (WBx.new u1 0 0 (.slice none 0 0))
                clear hb1 hb2 hbn HLD HBL HP
                go_upto_region 24 with fail
                generalize u1.alloc (.cells #[.int .i64 0, .int .i64 0, .slice none 0 0] 27) = u0 at *
                generalize u1.heap.size = bx at *
                have hbb : Below u0.heap.size u0 u0 := Below.refl _ _
                have hcs : ∀ u, Below u0.heap.size u0 u → u.cell? ⟨bx, 0, none⟩ = some (.int .i64 0) ∧ u.cell? ⟨bx, 1, none⟩ = some (.int .i64 0) ∧ u.cell? ⟨bx, 2, none⟩ = some (.slice none 0 0) := fun u hu => by
                  have h1 := HWB.out.kept hu
                  exact ⟨h1.c0, h1.c1, h1.c2⟩
                have HCS := Lib.hid hcs
                obtain ⟨x0, x1, x2⟩ := hcs _ hbb
                clear hcs
                go_wp2
                go_region_held3 (fun w' => w'.cell? ⟨bx, 0, none⟩ = some (.int .i64 0) ∧ w'.cell? ⟨bx, 1, none⟩ = some (.int .i64 0) ∧ w'.cell? ⟨bx, 2, none⟩ = some (.slice none 0 0))
                  (first
                    | (with_reducible exact HCS.out _ hbb)
                    | (with_reducible exact HCS.out _ hbb.drew)
                    | go_keep)
                  (first
                    | (go_at_call 14; (with_reducible refine (wlen_any 0 0 (.slice none 0 0) _).mono ?_); rintro e u ⟨rfl, hb⟩; first | (have hbb := hbb.trans (hb.mono hbb.size)) | (have hbb := hbb.drew.trans (hb.mono hbb.drew.size)))
                    | (go_at_call 15; (with_reducible refine (wsize_any 0 0 (.slice none 0 0) _).mono ?_); rintro e u ⟨rfl, hb⟩; first | (have hbb := hbb.trans (hb.mono hbb.size)) | (have hbb := hbb.drew.trans (hb.mono hbb.drew.size))))
                all_goals
                  have HE := Lib.hid (HB4.out.trans (hbb.mono HB4.out.size))
                  clear hbb
                  go_wp2
                  go_ret
                  exact ⟨rfl, HE.out⟩
              · subst hl1
                obtain ⟨nn, hnn⟩ : ∃ nn, l.length = nn := ⟨_, rfl⟩
                rw [hnn] at hn hl3
                rw [hnn]
                have hs1 : 1 ≤ sz ∧ sz ≤ 65536 := by unfold sizeB at hsB; rwa [decide_eq_true_eq] at hsB
                have hmay : mayB l sz = true := by
                  unfold mayB
                  rw [decide_eq_true hs1.1, decide_eq_true hs1.2, Bool.true_and, Bool.true_and, List.all_eq_true]
                  intro x hxl
                  have := hlx x hxl
                  rw [decide_eq_true this.1, decide_eq_true this.2]; rfl
                have hbn : Below u1.heap.size u1 (u1.alloc (.cells #[.int .i64 (nn : Int), .int .i64 sz, .slice la i lcap] 27)) := (Below.refl _ _).alloc (Nat.le_refl _) _
                have hP1 := (HP.out.1.kept hb1).kept hbn
                have hsy := hwx.sy
                have hli := wlist_any l i la lcap sz _ (hwx.kept hbn)
                rw [hnn] at hli
                have hb2 := HBL.out.trans (hb1.mono HBL.out.size)
                have hb3 := hb2.trans (hbn.mono hb2.size)
                have hmy := fun u lv (hu : NumsAt .i64 u lv l) => wmay_any lv nn nn l sz u hu hnn (by omega)
                rw [hmay] at hmy
                have hrw := fun u lv (hu : NumsAt .i64 u lv l) => wrows_any lv nn nn l sz u hu hnn (by omega) i hiw.symm (by omega) hs1.1 hs1.2 hsy
                rw [hl2] at hrw
                have HLI := Lib.hid hli
                have HMY := Lib.hid hmy
                have HRW := Lib.hid hrw
                have HP1 := Lib.hid (And.intro hP1 (And.intro HP.out.2.1 hb3))
                clear hli hmy hrw hP1 hb1 hb2 hb3 hbn hsy hmay hwx hsB hiw hlx hl2 HLD HBL HP
                go_wp2_with fail
                generalize u1.alloc (.cells #[.int .i64 (nn : Int), .int .i64 sz, .slice la i lcap] 27) = u3 at *
                refine HLI.out.mono ?_
                rintro e u4 ⟨lv, rfl, hlv, hb4⟩
                have HP4 := Lib.hid (And.intro (HP1.out.1.kept hb4) (And.intro HP1.out.2.1 (And.intro (HP1.out.2.2.trans (hb4.mono HP1.out.2.2.size)) hlv)))
                clear hlv hb4 HP1 HLI
                go_wp2_with fail
                refine (HMY.out _ _ HP4.out.2.2.2).mono ?_
                rintro e u5 ⟨rfl, rfl⟩
                go_wp2_with fail
                refine (HRW.out _ _ HP4.out.2.2.2).mono ?_
                rintro e u6 ⟨v, rfl, ⟨⟨ss, hss1, hss2⟩, hrb⟩⟩
                have hlen : (rs.map (·.l)).length = i := by rw [List.length_map, HP4.out.2.1]
                obtain ⟨va, vc, hv⟩ : ∃ va vc, v = .slice va i vc := by
                  rcases hss1.2 with ⟨e1, e2⟩ | ⟨g, cp, cur, e1, -⟩
                  · exact ⟨none, 0, by rw [e1, ← hlen, e2]⟩
                  · exact ⟨some ⟨g, 0, none⟩, cp, by rw [e1, hlen]⟩
                subst hv
                rw [hlen] at hss1 hss2
                have hP6 := HP4.out.1.kept hrb
                obtain ⟨pa', pcap', hpe, hpl⟩ := hP6.plain
                rw [HP4.out.2.1] at hpe hpl
                simp only [Value.slice.injEq] at hpe
                obtain ⟨rfl, -, rfl⟩ := hpe
                have HS := Lib.hid (And.intro hss1 (And.intro hss2 (And.intro hpl (And.intro hP6 (HP4.out.2.2.1.trans (hrb.mono HP4.out.2.2.1.size))))))
                have HRS := Lib.hid HP4.out.2.1
                clear hss1 hss2 hpl hP6 hrb hlen HP4 HMY HRW
                go_wp2
                go_loopw [19, 20] (fun v19 _ wr => ∃ j : Nat, j ≤ i ∧ v19 = .int .i64 (j : Int) ∧ Below u6.heap.size u6 wr) (fun v19 _ _ => i - (intOf v19).toNat)
                case atStart => exact ⟨0, Nat.zero_le _, rfl, Below.refl _ _⟩
                case round =>
                  obtain ⟨j, hj, rfl, hbe⟩ := hrel
                  by_cases hlt : j < i
                  · obtain ⟨hss1, hss2, hpl, hP6, -⟩ := HS.out
                    obtain ⟨wa, wcp, hse, hsl, -⟩ := hss2 j hlt
                    obtain ⟨pg, rfl, hpc⟩ := hpl j hlt
                    have hjr : j < rs.length := by rw [HRS.out]; exact hlt
                    have hrow : (rs.map (·.l)).getD j [] = (rs.getD j W0).l := by simp [List.getD_eq_getElem?_getD, hjr]
                    have hmem : rs.getD j W0 ∈ rs := by simp [List.getD_eq_getElem?_getD, hjr]
                    have hpb := (hP6.pl _ hmem).1
                    rw [hrow] at hsl
                    unfold pcl at hpc
                    have hrl : (rs.getD j W0).l.length = nn := hsl.1
                    rw [hrl] at hpc
                    obtain ⟨vg, rfl⟩ : ∃ vg, va = some ⟨vg, 0, none⟩ := by
                      rcases hss1.2 with ⟨e1, e2⟩ | ⟨g, cp, cur, e1, -⟩
                      · simp only [Value.slice.injEq] at e1; omega
                      · simp only [Value.slice.injEq] at e1; exact ⟨g, e1.1⟩
                    have hown := own_kept hss1 hbe
                    have hsl2 := hsl.kept hbe
                    have hpb2 := (hpb.kept hP6.bel).kept hbe
                    have hsn : ss.length = i * 1 := hss1.1
                    have y1 : wr.cell? ⟨vg, j, none⟩ = some (.slice wa nn wcp) := by
                      rw [hown.cellAt j (by omega)]
                      rw [← hse]
                      simp [List.getD_eq_getElem?_getD, show j < ss.length by omega]
                    have y2 : wr.cell? ⟨pg, j, none⟩ = some (.slice (rs.getD j W0).pb nn (rs.getD j W0).pc) := by
                      rw [hbe.cell (p := ⟨pg, j, none⟩) (World.block_lt_of_cell? _ _ hpc)]; exact hpc
                    generalize (rs.getD j W0).pb = pb at *
                    generalize (rs.getD j W0).pc = pc at *
                    generalize (rs.getD j W0).l = row at *
                    have hsa := fun u (hu : Below wr.heap.size wr u) => rsameB_any wa pb nn nn wcp pc row row u ((hsl2.kept hu).2.2.2.1) (hpb2.kept hu) hrl hrl (by omega)
                    have hde : decide (row = row) = true := decide_eq_true rfl
                    rw [hde] at hsa
                    have hcs : ∀ u, Below wr.heap.size wr u → u.cell? ⟨vg, j, none⟩ = some (.slice wa nn wcp) ∧ u.cell? ⟨pg, j, none⟩ = some (.slice pb nn pc) := fun u hu => by
                      have hg1 := World.block_lt_of_cell? wr _ y1
                      have hg2 := World.block_lt_of_cell? wr _ y2
                      exact ⟨by rw [hu.cell (p := ⟨vg, j, none⟩) hg1]; exact y1, by rw [hu.cell (p := ⟨pg, j, none⟩) hg2]; exact y2⟩
                    have HSA := Lib.hid hsa
                    have HCS := Lib.hid hcs
                    have HBE := Lib.hid hbe
                    clear hsa hcs hbe hss1 hss2 hpl hP6 hsl hsl2 hpb hpb2 hown hsn hse hrow hmem hrl hde hpc
                    have q1 : (j : Int) < (i : Int) := by omega
                    have q2 : (0 : Int) ≤ (j : Int) := by omega
                    have hbb : Below wr.heap.size wr wr := Below.refl _ _
                    go_wp2
                    go_region_held3 (fun w' => w'.cell? ⟨vg, j, none⟩ = some (.slice wa nn wcp) ∧ w'.cell? ⟨pg, j, none⟩ = some (.slice pb nn pc))
                      (first
                        | (with_reducible exact HCS.out _ hbb)
                        | (with_reducible exact HCS.out _ hbb.drew)
                        | go_keep)
                      (first
                        | (go_at_call 18; (with_reducible refine (HSA.out _ hbb).mono ?_); rintro e u7 ⟨rfl, hb⟩; have hbb := hbb.trans (hb.mono hbb.size))
                        | (go_at_call 18; (with_reducible refine (HSA.out _ hbb.drew).mono ?_); rintro e u7 ⟨rfl, hb⟩; have hbb := hbb.drew.trans (hb.mono hbb.drew.size)))
                    all_goals
                      have HE := Lib.hid hbb
                      clear hbb y1 y2 hb
                      go_wp2
                      go_roundw
                      case rel => exact ⟨j + 1, by omega, by go_num, HBE.out.trans (HE.out.mono HBE.out.size)⟩
                      case measure => simp [intOf]; omega
                  · obtain rfl : j = i := by omega
                    have HE := Lib.hid (HS.out.2.2.2.2.trans (hbe.mono HS.out.2.2.2.2.size))
                    clear hbe
                    go_wp2
                    go_ret
                    exact ⟨rfl, HE.out⟩

end Go.Proofs.Ytnedjbeemijmlaa
