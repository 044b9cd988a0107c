/- The walk of WaveBack. -/
import Derived.Test.YtnedjbeemijmlaaWY
import Derived.Test.YtnedjbeemijmlaaWZ
import Derived.Deep.CutRange
import Derived.Deep.CutBlock
set_option maxRecDepth 100000
namespace Go.Proofs.Ytnedjbeemijmlaa
open Go.RowKit
open M
attribute [local go_sem ↓] Go.wp_at_zero Go.wp_at_succ

theorem BG2.of {w : World} {n : Nat} {a : Option Addr} {m : Nat} {ls : List (List Bool)} (h : BS w n a m ls) : BG2 w a m ls :=
  ⟨h.len, fun j hj => by
    obtain ⟨g, b, k, c, e, h1, h2, h3, h4⟩ := h.at_ j hj
    exact ⟨g, 0, b, k, c, e, by rw [Nat.zero_add, h4]; exact h1, by rw [Nat.zero_add]; exact h2, h3⟩⟩

set_option maxHeartbeats 8000000 in
theorem back_walk (A : Option Addr) (n0 c0 : Nat) (xs : List Int) (size0 : Int) (w : World) (hA : NumsAt .i64 w A xs) (hx : xs.length = n0) :
    Calls Try.prog 7 #[.slice A n0 c0, .int .i64 size0] w fun e w' => e = .returned (.bool true) ∧ Below w.heap.size w w' := by
  have hsy := fun u (hb : Below w.heap.size w u) => symbols_any A n0 c0 xs size0 u (hA.kept hb) hx
  have HSY := Lib.hid hsy
  clear hsy hA hx
  go_enter Try.func7, Try.ntmps7
  go_wp2_with fail
  refine (awake_any _).mono ?_
  rintro e w1 ⟨rfl, hb1⟩
  have HB := Lib.hid (And.intro hb1 True.intro)
  clear hb1
  go_wp2_with fail
  refine (HSY.out _ HB.out.1).mono ?_
  rintro e w2 ⟨s, v, m, rfl, hs1, hs2, hm80, hms, hom⟩
  obtain ⟨ma, mc, rfl, hmn, -, hmc, -⟩ := nums_of_own hom.1
  have hmay := may_syms m s hs1 hs2 hms
  have hblk : ∀ b o, ma = some ⟨b, o, none⟩ → b < w2.heap.size := fun b o e => by
    subst e
    rcases hom.1.2 with ⟨e1, -⟩ | ⟨g, cp, cur, e1, -⟩
    · simp at e1
    · simp only [Value.slice.injEq, Option.some.injEq, Addr.mk.injEq] at e1
      obtain ⟨⟨rfl, rfl, -⟩, -, rfl⟩ := e1
      exact (hom.1.lt b rfl).2
  have hnew := wnew_any ma m.length mc m (s : Int) w2 hmn rfl (by omega) hmc hmay hblk
  have hb2 := HB.out.1.trans (hom.2.mono HB.out.1.size)
  have hsz := wdt_pow (s : Int) (by omega)
  have HM := Lib.hid (And.intro hmn (And.intro hms (And.intro hom.2 (And.intro hb2 hsz))))
  have HNW := Lib.hid hnew
  clear hmay hnew hblk hom hmn hms hmc hb2 hsz HSY
  generalize hn : m.length = n at *
  have HN := Lib.hid hn
  clear hn
  go_wp2_with fail
  refine HNW.out.mono ?_
  rintro e w3 ⟨a, cap, rfl, hwx, hb3⟩
  have hb4 := HM.out.2.2.2.1.trans (hb3.mono HM.out.2.2.2.1.size)
  have hW16 := wdt_le (s : Int) (by unfold sizeB; exact decide_eq_true ⟨by omega, by omega⟩)
  have hWd : wdt (s : Int) = wdt (s : Int) := rfl
  have hsB : sizeB (s : Int) = true := by unfold sizeB; exact decide_eq_true ⟨by omega, by omega⟩
  generalize hWW : wdt (s : Int) = W at *
  clear hWd
  have hbn : Below w3.heap.size w3 (w3.alloc (.cells #[.int .i64 (n : Int), .int .i64 (s : Int), .slice a W cap] 27)) := (Below.refl _ _).alloc (Nat.le_refl _) _
  have hwl : WL w w3.heap.size n m W a cap (s : Int) (w3.alloc (.cells #[.int .i64 (n : Int), .int .i64 (s : Int), .slice a W cap] 27)) := ⟨WBx.new _ _ _ _, hwx.kept hbn, HN.out, HM.out.2.2.2.2, HM.out.2.1, hb4.trans (hbn.mono hb4.size)⟩
  have hmn := (HM.out.1.kept hb3).kept hbn
  have hsy := hwx.sy
  have hxs := HM.out.2.1
  have HG := Lib.hid (And.intro hwl hmn)
  have HX := Lib.hid (And.intro HN.out (And.intro hsy (And.intro hxs (And.intro hsB hWW.symm))))
  clear hb3 hb4 hbn hwl hmn hwx hsy hxs HM HNW HB HN hsB
  have hro := fun u (hu : WL w w3.heap.size n m W a cap (s : Int) u) => wrows0_any n (s : Int) a W cap (rowsI m W W) u (by have := hu.wx.rs; rw [HX.out.1] at this; exact this) (by omega)
  have HRO := Lib.hid hro
  clear hro
  have hpow := wdt_pow (s : Int) (by omega)
  rw [hWW] at hpow
  clear hWW
  go_wp2_with fail
  generalize w3.alloc (.cells #[.int .i64 (n : Int), .int .i64 (s : Int), .slice a W cap] 27) = u0 at *
  generalize w3.heap.size = bx at *
  refine (HRO.out _ HG.out.1).mono ?_
  rintro e u1 ⟨ra, rc, rfl, hbs, hb1⟩
  have hG := HG.out.1.kept hb1
  have hmn := HG.out.2.kept hb1
  have hlr := fun i (hi : i < W) => by
    have h1 := rowsI_at m W i hi
    have h2 := rowK_len m W i (by omega) HX.out.2.1
    rw [HX.out.1] at h2
    exact (show ((rowsI m W W).getD i []).length = n by rw [h1]; exact h2)
  have hld := load_any n (s : Int) ra W rc (rowsI m W W) (fun l => l = m) u1 (BG2.of hbs) (fun j hj => by rw [hlr j hj]; omega) (by omega) HX.out.2.2.2.1 HX.out.2.2.2.2 (fun _ => ⟨m, rfl, HX.out.1, HX.out.2.1, rfl⟩)
  have HLD := Lib.hid hld
  have HG1 := Lib.hid (And.intro hG (And.intro hmn (And.intro hbs hlr)))
  clear hld hG hmn hbs hlr hb1 HG HRO
  go_wp2_with fail
  refine HLD.out.mono ?_
  rintro e u2 ⟨hb2, hres⟩
  obtain ⟨a2, cap2, rfl, hwx2⟩ : ∃ a2 cap2, e = .returned (.tuple #[.agg #[.int .i64 (n : Int), .int .i64 (s : Int), .slice a2 W cap2], .int .i64 0]) ∧ WX u2 m W a2 := by
    rcases hres with ⟨-, h | h | h | h | ⟨j, hj, h⟩ | ⟨l, rfl, x, hx, h⟩⟩ | ⟨l, a2, cap2, h1, rfl, -, h2, -⟩
    · omega
    · omega
    · rw [HX.out.2.2.2.1] at h; cases h
    · exact absurd HX.out.2.2.2.2 h
    · exact absurd (by rw [HG1.out.2.2.2 j hj]) h
    · have := HX.out.2.2.1 x hx; omega
    · exact ⟨a2, cap2, h1, h2⟩
  have hG := HG1.out.1.kept hb2
  have hmn := HG1.out.2.1.kept hb2
  have hbs := HG1.out.2.2.1.kept hb2
  have HLR := Lib.hid HG1.out.2.2.2
  have HG2 := Lib.hid (And.intro hG (And.intro hmn (And.intro hbs hwx2)))
  clear hres hb2 hG hmn hbs hwx2 HLD HG1
  have hbn : Below u2.heap.size u2 (u2.alloc (.cells #[.int .i64 (n : Int), .int .i64 (s : Int), .slice a2 W cap2] 27)) := (Below.refl _ _).alloc (Nat.le_refl _) _
  have hwl2 : WL w u2.heap.size n m W a2 cap2 (s : Int) (u2.alloc (.cells #[.int .i64 (n : Int), .int .i64 (s : Int), .slice a2 W cap2] 27)) := ⟨WBx.new _ _ _ _, HG2.out.2.2.2.kept hbn, HX.out.1, hpow, HX.out.2.2.1, HG2.out.1.bel.trans (hbn.mono HG2.out.1.bel.size)⟩
  have hli := wlist_any m W a2 cap2 (s : Int) _ hwl2.wx
  rw [HX.out.1] at hli
  have hsa := fun u lv (hu : NumsAt .i64 u ma m) (hb : NumsAt .i64 u lv m) => rsame_any lv ma n n n mc m m u hb hu HX.out.1 HX.out.1 (by omega)
  rw [show decide (m = m) = true from decide_eq_true rfl] at hsa
  have HLI := Lib.hid hli
  have HSA := Lib.hid hsa
  have HG3 := Lib.hid (And.intro hwl2 (And.intro (HG2.out.2.1.kept hbn) (HG2.out.2.2.1.kept hbn)))
  clear hli hsa hbn hwl2 HG2
  go_wp2_with fail
  generalize u2.alloc (.cells #[.int .i64 (n : Int), .int .i64 (s : Int), .slice a2 W cap2] 27) = u3 at *
  generalize u2.heap.size = by2 at *
  refine HLI.out.mono ?_
  rintro e u4 ⟨lv, rfl, hlv, hb4⟩
  have HG4 := Lib.hid (And.intro (HG3.out.1.kept hb4) (And.intro (HG3.out.2.1.kept hb4) (And.intro (HG3.out.2.2.kept hb4) hlv)))
  clear hlv hb4 HG3 HLI
  go_wp2_with fail
  refine (HSA.out _ _ HG4.out.2.1 HG4.out.2.2.2).mono ?_
  rintro e u5 ⟨rfl, hb5⟩
  have HG5 := Lib.hid (And.intro (HG4.out.1.kept hb5) (And.intro (HG4.out.2.1.kept hb5) (HG4.out.2.2.1.kept hb5)))
  obtain ⟨x0, x1, x2⟩ := HG5.out.1.box
  clear hb5 HG4 HSA
  go_wp2_with fail
  clear x0 x1 x2
  refine (wsize_any (n : Int) (s : Int) (.slice a2 W cap2) _).mono ?_
  rintro e u6 ⟨rfl, hb6⟩
  have HG6 := Lib.hid (And.intro (HG5.out.1.kept hb6) (And.intro (HG5.out.2.1.kept hb6) (HG5.out.2.2.kept hb6)))
  clear hb6 HG5
  by_cases hW0 : W = 0
  · subst hW0
    have hs0 : s = 1 := by simp at hpow; omega
    subst hs0
    go_wp2
    go_ret
    exact ⟨rfl, HG6.out.1.bel⟩
  · have hl1 := fun u ra' rc' => load_no (n : Int) (s : Int) ra' (W - 1) rc' [] (fun _ => True) u (.inr (.inr (.inr (by rw [← HX.out.2.2.2.2]; omega))))
    have hl2 := fun u rc' (hu : BS u n ra W (rowsI m W W)) => load_any (n + 1) (s : Int) ra W rc' (rowsI m W W) (fun _ => False) u (BG2.of hu) (fun j hj => by rw [HLR.out j hj]; omega) (by omega) HX.out.2.2.2.1 HX.out.2.2.2.2 (fun h => by
      have h1 := h 0 (by omega)
      rw [HLR.out 0 (by omega)] at h1
      omega)
    have HL1 := Lib.hid hl1
    have HL2 := Lib.hid hl2
    obtain ⟨g, rb, rk, rcp, hra, -⟩ := HG6.out.2.2.at_ 0 (by omega)
    subst hra
    have s1 : (1 : Int) ≤ (W : Int) := by omega
    have s2 : 1 ≤ W := by omega
    have s3 : ((W : Int) == 0) = false := by simp; omega
    clear hl1 hl2
    go_wp2_with fail
    all_goals
      refine (HL1.out _ _ _).mono ?_
      rintro e u7 ⟨hb7, hres⟩
      obtain rfl : e = .returned (.tuple #[.agg #[.int .i64 0, .int .i64 0, .slice none 0 0], .int .i64 10]) := by
        rcases hres with ⟨h, -⟩ | ⟨l, a3, cap3, -, -, -, -, -, h, -⟩
        · exact h
        · rw [← HX.out.2.2.2.2] at h; omega
      have HG7 := Lib.hid (And.intro (HG6.out.1.kept hb7) (HG6.out.2.2.kept hb7))
      clear hres hb7
      have hbn : Below u7.heap.size u7 (u7.alloc (.cells #[.int .i64 0, .int .i64 0, .slice none 0 0] 27)) := (Below.refl _ _).alloc (Nat.le_refl _) _
      have HG8 := Lib.hid (And.intro (HG7.out.1.kept hbn) (HG7.out.2.kept hbn))
      clear hbn HG7
      have s4 : (n : Int) + 1 = ((n + 1 : Nat) : Int) := by omega
      obtain ⟨n1, hn1⟩ : ∃ n1, n + 1 = n1 := ⟨_, rfl⟩
      rw [hn1] at s4 HL2
      clear hn1
      go_wp2_with fail
      with_reducible refine (HL2.out _ _ HG8.out.2).mono ?_
      rintro e u8 ⟨hb8, hres⟩
      obtain rfl : e = .returned (.tuple #[.agg #[.int .i64 0, .int .i64 0, .slice none 0 0], .int .i64 10]) := by
        rcases hres with ⟨h, -⟩ | ⟨l, a3, cap3, -, h, -⟩
        · exact h
        · exact h.elim
      have HG9 := Lib.hid (HG8.out.1.kept hb8).bel
      clear hres hb8
      have hbn2 : Below u8.heap.size u8 (u8.alloc (.cells #[.int .i64 0, .int .i64 0, .slice none 0 0] 27)) := (Below.refl _ _).alloc (Nat.le_refl _) _
      have HGA := Lib.hid (HG9.out.trans (hbn2.mono HG9.out.size))
      clear hbn2
      go_wp2
      go_ret
      exact ⟨rfl, HGA.out⟩

end Go.Proofs.Ytnedjbeemijmlaa
