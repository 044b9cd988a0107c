/- The walk of WaveMakes. -/
import Derived.Test.YtnedjbeemijmlaaWW
import Derived.Test.YtnedjbeemijmlaaWY
import Derived.Deep.CutRange
import Derived.Deep.CutBlock
set_option maxRecDepth 100000
namespace Go.Proofs.Ytnedjbeemijmlaa
open Go.RowKit
open M
attribute [local go_sem ↓] Go.wp_at_zero Go.wp_at_succ

theorem few_any (a0 : Option Addr) (n cap : Nat) (w : World) (hn : n ≤ cap) (hc : cap ≤ maxLen) :
    Calls Try.prog 11 #[.slice a0 n cap] w fun e w' => e = .returned (.slice a0 (min n 80) cap) ∧ w = w' := by
  unfold maxLen at hc
  by_cases h : 80 < n
  · have e : min n 80 = 80 := by omega
    rw [e]
    go_enter Try.func11, Try.ntmps11
    go_wp2
    go_ret
    exact ⟨rfl, rfl⟩
  · have e : min n 80 = n := by omega
    rw [e]
    go_enter Try.func11, Try.ntmps11
    go_wp2
    go_ret
    exact ⟨rfl, rfl⟩

theorem nums_take {k : IntKind} {w : World} {a : Option Addr} {l : List Int} (h : NumsAt k w a l) (i : Nat) : NumsAt k w a (l.take i) := by
  rcases h with h | ⟨b, off, h1, h2, h3⟩
  · exact .inl (by rw [h]; simp)
  · refine .inr ⟨b, off, h1, h2, fun j hj => ?_⟩
    rw [List.length_take] at hj
    rw [h3 j (by omega)]
    simp [List.getD_eq_getElem?_getD, show j < i by omega]
theorem nums_blk {k : IntKind} {w : World} {a : Option Addr} {l : List Int} (h : NumsAt k w a l) (hl : l ≠ []) : ∀ b o, a = some ⟨b, o, none⟩ → b < w.heap.size := fun b o e => by
  rcases h with h | ⟨b', off, h1, h2, h3⟩
  · exact absurd h hl
  · rw [h1] at e
    simp only [Option.some.injEq, Addr.mk.injEq] at e
    omega
/-- The zero row that New tells when it refuses: what it answers. -/
theorem z2_len (u : World) : Calls Try.prog 14 #[.agg #[.int .i64 0, .int .i64 0, .slice none 0 0]] u fun e u' => e = .returned (.int .i64 0) ∧ Below u.heap.size u u' := wlen_any 0 0 (.slice none 0 0) u
theorem z2_size (u : World) : Calls Try.prog 15 #[.agg #[.int .i64 0, .int .i64 0, .slice none 0 0]] u fun e u' => e = .returned (.int .i64 0) ∧ Below u.heap.size u u' := wsize_any 0 0 (.slice none 0 0) u

set_option maxHeartbeats 8000000 in
theorem makes_walk (A : Option Addr) (n0 c0 : Nat) (xs : List Int) (size0 : Int) (w : World) (hA : NumsAt .i64 w A xs) (hx : xs.length = n0) (hnc : n0 ≤ c0) (hcm : c0 ≤ maxLen) (hblk : ∀ b o, A = some ⟨b, o, none⟩ → b < w.heap.size) :
    Calls Try.prog 3 #[.slice A n0 c0, .int .i64 size0] w fun e w' => e = .returned (.bool true) ∧ Below w.heap.size w w' := by
  have hfew := fun u => few_any A n0 c0 u hnc hcm
  obtain ⟨n, hn⟩ : ∃ n, min n0 80 = n := ⟨_, rfl⟩
  rw [hn] at hfew
  obtain ⟨m, hm⟩ : ∃ m, xs.take 80 = m := ⟨_, rfl⟩
  have hml : m.length = n := by rw [← hm, List.length_take, hx]; omega
  have hmn : NumsAt .i64 w A m := by rw [← hm]; exact nums_take hA 80
  have HF := Lib.hid hfew
  have HM := Lib.hid (And.intro hmn (And.intro hml hblk))
  have hn80 : n ≤ 80 := by omega
  have hnc2 : n ≤ c0 := by omega
  clear hfew hn hm hml hmn hA hx hblk hnc
  go_enter Try.func3, Try.ntmps3
  go_wp2_with fail
  refine (awake_any _).mono ?_
  rintro e w1 ⟨rfl, hb1⟩
  have HB := Lib.hid hb1
  clear hb1
  go_wp2_with fail
  refine (HF.out _).mono ?_
  rintro e w1' ⟨rfl, rfl⟩
  clear HF
  go_upto_region 3 with fail
  go_cut [22] from 17 to 21 (fun v22 wx => v22 = .bool (decide (256 < size0 ∧ size0 ≤ 65536)) ∧ wx = w1)
  case first =>
    by_cases h1 : 256 < size0
    · by_cases h2 : size0 ≤ 65536
      · have e : decide (256 < size0 ∧ size0 ≤ 65536) = true := decide_eq_true ⟨h1, h2⟩
        have HE := Lib.hid e
        clear e
        go_wp2
        go_meet
        exact ⟨by rw [HE.out], rfl⟩
      · have e : decide (256 < size0 ∧ size0 ≤ 65536) = false := decide_eq_false (by omega)
        have HE := Lib.hid e
        clear e
        go_wp2
        go_meet
        exact ⟨by rw [HE.out], rfl⟩
    · have e : decide (256 < size0 ∧ size0 ≤ 65536) = false := decide_eq_false (by omega)
      have HE := Lib.hid e
      clear e
      go_wp2
      go_meet
      exact ⟨by rw [HE.out], rfl⟩
  case rest =>
    obtain ⟨rfl, rfl⟩ := hcut
    go_upto_if 22 with fail
    go_cut [1, 22] from 23 to 24 (fun v1 _ wx => (∃ sz : Int, v1 = .int .i64 sz ∧ (sz ≤ 256 ∨ 65536 < sz)) ∧ wx = wc)
    case first =>
      by_cases h1 : 256 < size0 ∧ size0 ≤ 65536
      · have e : decide (256 < size0 ∧ size0 ≤ 65536) = true := decide_eq_true h1
        rw [e]
        clear e
        go_wp2
        go_meet
        exact ⟨⟨size0 % 257, rfl, .inl (by omega)⟩, rfl⟩
      · have e : decide (256 < size0 ∧ size0 ≤ 65536) = false := decide_eq_false h1
        rw [e]
        clear e
        go_wp2
        go_meet
        exact ⟨⟨size0, rfl, by omega⟩, rfl⟩
    case rest =>
      obtain ⟨⟨sz, rfl, hsz⟩, rfl⟩ := hcut
      have hmn := HM.out.1.kept HB.out
      have hblk : ∀ b o, A = some ⟨b, o, none⟩ → b < wc.heap.size := fun b o e => Nat.lt_of_lt_of_le (HM.out.2.2 b o e) HB.out.size

      cases hmb : mayB m sz with
      | false =>
        have hnew := wnew_no A n c0 m sz wc hmn HM.out.2.1 (by omega) hmb
        have hmy := fun u (hu : Below w.heap.size w u) => wmay_any A n c0 m sz u (HM.out.1.kept hu) HM.out.2.1 (by omega)
        rw [hmb] at hmy
        have HNW := Lib.hid hnew
        have HMY := Lib.hid hmy
        clear hnew hmy hmn hblk hmb
        go_wp2_with fail
        refine HNW.out.mono ?_
        rintro e w3 ⟨rfl, hb3⟩
        have hb4 := HB.out.trans (hb3.mono HB.out.size)
        have hbn : Below w3.heap.size w3 (w3.alloc (.cells #[.int .i64 0, .int .i64 0, .slice none 0 0] 27)) := (Below.refl _ _).alloc (Nat.le_refl _) _
        have HB4 := Lib.hid (hb4.trans (hbn.mono hb4.size))
        have HWB := Lib.hid (WBx.new w3 0 0 (.slice none 0 0))
        clear hb3 hb4 hbn HNW
        go_wp2_with fail
        refine (HMY.out _ HB4.out).mono ?_
        rintro e w4 ⟨rfl, rfl⟩
        clear HMY
        generalize w3.alloc (.cells #[.int .i64 0, .int .i64 0, .slice none 0 0] 27) = u0 at *
        generalize w3.heap.size = bx at *
        have hbb : Below u0.heap.size u0 u0 := Below.refl _ _
        have hcs : ∀ u, Below u0.heap.size u0 u → u.cell? ⟨bx, 0, none⟩ = some (.int .i64 0) ∧ u.cell? ⟨bx, 1, none⟩ = some (.int .i64 0) ∧ u.cell? ⟨bx, 2, none⟩ = some (.slice none 0 0) := fun u hu => by
          have h1 := HWB.out.kept hu
          exact ⟨h1.c0, h1.c1, h1.c2⟩
        have HCS := Lib.hid hcs
        obtain ⟨x0, x1, x2⟩ := hcs _ hbb
        clear hcs
        go_wp2
        go_region_held3 (fun w' => w'.cell? ⟨bx, 0, none⟩ = some (.int .i64 0) ∧ w'.cell? ⟨bx, 1, none⟩ = some (.int .i64 0) ∧ w'.cell? ⟨bx, 2, none⟩ = some (.slice none 0 0))
          (first
            | (with_reducible exact HCS.out _ hbb)
            | (with_reducible exact HCS.out _ hbb.drew)
            | go_keep)
          (first
            | (go_at_call 14; (with_reducible refine (z2_len _).mono ?_); rintro e u ⟨rfl, hb⟩; first | (have hbb := hbb.trans (hb.mono hbb.size)) | (have hbb := hbb.drew.trans (hb.mono hbb.drew.size)))
            | (go_at_call 15; (with_reducible refine (z2_size _).mono ?_); rintro e u ⟨rfl, hb⟩; first | (have hbb := hbb.trans (hb.mono hbb.size)) | (have hbb := hbb.drew.trans (hb.mono hbb.drew.size))))
        all_goals
          have HE := Lib.hid (HB4.out.trans (hbb.mono HB4.out.size))
          clear hbb
          go_wp2
          go_ret
          exact ⟨rfl, HE.out⟩
      | true =>
        obtain ⟨hsy, hsb, hxs⟩ := mayB_sy m sz hmb
        have hs1 : 1 ≤ sz ∧ sz ≤ 65536 := by unfold sizeB at hsb; rwa [decide_eq_true_eq] at hsb
        have hnew := wnew_any A n c0 m sz wc hmn HM.out.2.1 (by omega) hnc2 hmb hblk
        have hmy := fun u (hu : Below w.heap.size w u) => wmay_any A n c0 m sz u (HM.out.1.kept hu) HM.out.2.1 (by omega)
        rw [hmb] at hmy
        have hW16 := wdt_le sz hsb
        have hrw := fun u (hu : Below w.heap.size w u) => wrows_any A n c0 m sz u (HM.out.1.kept hu) HM.out.2.1 (by omega) (wdt sz) rfl hW16 hs1.1 hs1.2 hsy
        have hpow := wdt_pow sz hs1.1
        generalize wdt sz = W at *
        have HNW := Lib.hid hnew
        have HMY := Lib.hid hmy
        have HRW := Lib.hid hrw
        have HX := Lib.hid (And.intro hxs (And.intro hpow hsy))
        clear hnew hmy hmn hblk hmb hrw hxs hpow hsy hsb
        go_wp2_with fail
        refine HNW.out.mono ?_
        rintro e w3 ⟨a, cap, rfl, hwx, hb3⟩
        have hb4 := HB.out.trans (hb3.mono HB.out.size)
        have hbn : Below w3.heap.size w3 (w3.alloc (.cells #[.int .i64 (n : Int), .int .i64 sz, .slice a W cap] 27)) := (Below.refl _ _).alloc (Nat.le_refl _) _
        have hwl : WL w w3.heap.size n m W a cap sz (w3.alloc (.cells #[.int .i64 (n : Int), .int .i64 sz, .slice a W cap] 27)) := ⟨WBx.new _ _ _ _, hwx.kept hbn, HM.out.2.1, HX.out.2.1, HX.out.1, hb4.trans (hbn.mono hb4.size)⟩
        have HG := Lib.hid hwl
        clear hb3 hb4 hbn hwl hwx HNW HB
        go_wp2_with fail
        refine (HMY.out _ HG.out.bel).mono ?_
        rintro e w4 ⟨rfl, rfl⟩
        clear HMY
        generalize w3.alloc (.cells #[.int .i64 (n : Int), .int .i64 sz, .slice a W cap] 27) = u0 at *
        generalize w3.heap.size = bx at *
        have hro := fun u (hu : WL w bx n m W a cap sz u) => wrows0_any n sz a W cap (rowsI m W W) u (by have := hu.wx.rs; rw [HM.out.2.1] at this; exact this) (by omega)
        have HRO := Lib.hid hro
        obtain ⟨x0, x1, x2⟩ := HG.out.box
        clear hro
        go_wp2_with fail
        clear x0 x1 x2
        refine (HRO.out _ HG.out).mono ?_
        rintro e u1 ⟨ra, rc, rfl, hbs, hb5⟩
        have hG := HG.out.kept hb5
        have HG1 := Lib.hid (And.intro hG hbs)
        clear hG hbs hb5 HG HRO
        go_wp2_with fail
        refine (HRW.out _ HG1.out.1.bel).mono ?_
        rintro e u2 ⟨v, rfl, hrows⟩
        have hG := HG1.out.1.kept hrows.bel
        have hbs := HG1.out.2.kept hrows.bel
        obtain ⟨⟨ss, hss1, hss2⟩, hrb⟩ := hrows
        have hlenR := rowsI_len m W W
        obtain ⟨va, vc, hv⟩ : ∃ va vc, v = .slice va W vc := by
          rcases hss1.2 with ⟨e1, e2⟩ | ⟨g, cp, cur, e1, -⟩
          · exact ⟨none, 0, by rw [e1, ← hlenR, e2]⟩
          · exact ⟨some ⟨g, 0, none⟩, cp, by rw [e1, hlenR]⟩
        subst hv
        rw [hlenR] at hss1 hss2
        obtain ⟨x0, x1, x2⟩ := hG.box
        have HG2 := Lib.hid (And.intro hG (And.intro hbs (And.intro hss1 hss2)))
        clear hG hbs hss1 hss2 hrb hlenR HG1 HRW
        go_wp2_with fail
        clear x0 x1 x2
        refine (wlen_any (n : Int) sz (.slice a W cap) _).mono ?_
        rintro e u3 ⟨rfl, hb6⟩
        have hG := HG2.out.1.kept hb6
        obtain ⟨x0, x1, x2⟩ := hG.box
        have HB6 := Lib.hid hb6
        clear hG hb6
        go_wp2_with fail
        clear x0 x1 x2
        refine (wsize_any (n : Int) sz (.slice a W cap) _).mono ?_
        rintro e u4 ⟨rfl, hb7⟩
        have hb8 := HB6.out.trans (hb7.mono HB6.out.size)
        have HG4 := Lib.hid (And.intro (HG2.out.1.kept hb8) (And.intro (HG2.out.2.1.kept hb8) hb8))
        have HSS := Lib.hid HG2.out.2.2
        clear hb7 hb8 HB6 HG2
        have hlr := fun i (hi : i < W) => by
          have h1 := rowsI_at m W i hi
          have h2 := rowK_len m W i (by omega) HX.out.2.2
          rw [HM.out.2.1] at h2
          exact (show (rowsI m W W).getD i [] = rowK m W i ∧ (rowK m W i).length = n from ⟨h1, h2⟩)
        have HLR := Lib.hid hlr
        clear hlr
        go_wp2
        go_loopw [11] (fun v11 wr => ∃ i : Nat, i ≤ W ∧ v11 = .int .i64 (i : Int) ∧ WL w bx n m W a cap sz wr ∧ BS wr n ra W (rowsI m W W) ∧ Below u2.heap.size u2 wr) (fun v11 _ => W - (intOf v11).toNat)
        case atStart => exact ⟨0, Nat.zero_le _, rfl, HG4.out.1, HG4.out.2.1, HG4.out.2.2⟩
        case round =>
          obtain ⟨i, hi, rfl, hG, hbs, hbe⟩ := hrel
          clear HG4
          by_cases hlt : i < W
          · obtain ⟨g, rb, rk, rcp, rfl, y0, y1, hrow, hrl⟩ := hbs.at_ i hlt
            rw [(HLR.out i hlt).1] at hrow hrl
            obtain ⟨wa, wcp, hse, hsl, -⟩ := HSS.out.2 i hlt
            rw [(HLR.out i hlt).1] at hsl
            obtain ⟨vg, rfl⟩ : ∃ vg, va = some ⟨vg, 0, none⟩ := by
              rcases HSS.out.1.2 with ⟨e1, e2⟩ | ⟨g, cp, cur, e1, -⟩
              · simp only [Value.slice.injEq] at e1; omega
              · simp only [Value.slice.injEq] at e1; exact ⟨g, e1.1⟩
            have hown := own_kept HSS.out.1 hbe
            have hsl2 := hsl.kept hbe
            have hsn : ss.length = W * 1 := HSS.out.1.1
            have y2 : wr.cell? ⟨vg, i, none⟩ = some (.slice wa n wcp) := by
              rw [hown.cellAt i (by omega)]
              rw [← hse]
              simp [List.getD_eq_getElem?_getD, show i < ss.length by omega]
            have hli := fun u (hu : Below wr.heap.size wr u) => list_any rb rk rcp (rowK m W i) u (hrow.kept hu) (by rw [hrl]; omega)
            rw [hrl] at hli
            have hsa := fun u la lc (hu : Below wr.heap.size wr u) (hb : BoolsAt u la (rowK m W i)) => rsameB_any la wa n n lc wcp (rowK m W i) (rowK m W i) u hb ((hsl2.kept hu).2.2.2.1) hrl hrl (by omega)
            have hde : decide (rowK m W i = rowK m W i) = true := decide_eq_true rfl
            rw [hde] at hsa
            have hcs : ∀ u, Below wr.heap.size wr u → u.cell? ⟨g, i * 2, none⟩ = some (.int .i64 (n : Int)) ∧ u.cell? ⟨g, i * 2 + 1, none⟩ = some (.slice rb rk rcp) ∧ u.cell? ⟨vg, i, none⟩ = some (.slice wa n wcp) := fun u hu => by
              have hg1 := World.block_lt_of_cell? wr _ y0
              have hg2 := World.block_lt_of_cell? wr _ y2
              exact ⟨by rw [hu.cell (p := ⟨g, i * 2, none⟩) hg1]; exact y0, by rw [hu.cell (p := ⟨g, i * 2 + 1, none⟩) hg1]; exact y1, by rw [hu.cell (p := ⟨vg, i, none⟩) hg2]; exact y2⟩
            have HLI := Lib.hid hli
            have HSA := Lib.hid hsa
            have HCS := Lib.hid hcs
            have HGB := Lib.hid (And.intro hG (And.intro hbs hbe))
            clear hli hsa hcs hG hbs hbe hrow hrl hse hsl hown hsl2 hsn hde
            generalize rowK m W i = row at *
            have q1 : (i : Int) < (W : Int) := by omega
            have q2 : (0 : Int) ≤ (i : Int) := by omega
            have hbb : Below wr.heap.size wr wr := Below.refl _ _
            go_wp2
            go_region_held3 (fun w' => w'.cell? ⟨g, i * 2, none⟩ = some (.int .i64 (n : Int)) ∧ w'.cell? ⟨g, i * 2 + 1, none⟩ = some (.slice rb rk rcp) ∧ w'.cell? ⟨vg, i, none⟩ = some (.slice wa n wcp))
              (first
                | (with_reducible exact HCS.out _ hbb)
                | (with_reducible exact HCS.out _ hbb.drew)
                | go_keep)
              (first
                | (go_at_call 19; (with_reducible refine (HLI.out _ hbb).mono ?_); rintro e u5 ⟨lv, rfl, ⟨la, lc, rfl, hbo⟩, hb⟩; have hbb := hbb.trans (hb.mono hbb.size))
                | (go_at_call 19; (with_reducible refine (HLI.out _ hbb.drew).mono ?_); rintro e u5 ⟨lv, rfl, ⟨la, lc, rfl, hbo⟩, hb⟩; have hbb := hbb.drew.trans (hb.mono hbb.drew.size))
                | (go_at_call 18; (with_reducible refine (HSA.out _ _ _ hbb hbo).mono ?_); rintro e u6 ⟨rfl, hb⟩; have hbb := hbb.trans (hb.mono hbb.size)))
            all_goals
              have HE := Lib.hid hbb
              clear hbb y0 y1 y2 hb hbo
              go_wp2
              go_roundw
              case rel => exact ⟨i + 1, by omega, by go_num, HGB.out.1.kept HE.out, HGB.out.2.1.kept HE.out, HGB.out.2.2.trans (HE.out.mono HGB.out.2.2.size)⟩
              case measure => simp [intOf]; omega
          · obtain rfl : i = W := by omega
            have hli := wlist_any m i a cap sz wr hG.wx
            rw [HM.out.2.1] at hli
            have hsa := fun u lv (hu : Below w.heap.size w u) (hb : NumsAt .i64 u lv m) => rsame_any lv A n n n c0 m m u hb (HM.out.1.kept hu) HM.out.2.1 HM.out.2.1 (by omega)
            rw [show decide (m = m) = true from decide_eq_true rfl] at hsa
            obtain ⟨x0, x1, x2⟩ := hG.box
            have HLI := Lib.hid hli
            have HSA := Lib.hid hsa
            have HGE := Lib.hid hG
            clear hli hsa hG hbs hbe
            go_wp2_with fail
            clear x0 x1 x2
            refine HLI.out.mono ?_
            rintro e u5 ⟨lv, rfl, hlv, hb⟩
            have HB9 := Lib.hid (And.intro (HGE.out.kept hb).bel hlv)
            clear hb hlv
            go_wp2_with fail
            refine (HSA.out _ _ HB9.out.1 HB9.out.2).mono ?_
            rintro e u6 ⟨rfl, hb⟩
            have HBA := Lib.hid (HB9.out.1.trans (hb.mono HB9.out.1.size))
            clear hb
            go_wp2
            go_ret
            exact ⟨rfl, HBA.out⟩

end Go.Proofs.Ytnedjbeemijmlaa
