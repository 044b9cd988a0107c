/- The walk of ValuesJoins. -/
import Derived.Test.YtpnjccomngdblaaGreatLJa
set_option maxRecDepth 100000
namespace Go.Proofs.YtpnjccomngdblaaGreat
open Go.RowKit
open M
attribute [local go_sem ↓] Go.wp_at_zero Go.wp_at_succ

set_option linter.unusedSimpArgs false in
set_option maxHeartbeats 16000000 in
theorem joins_walk (A : Option Addr) (n0 c0 : Nat) (xs : List ByteArray) (A1 : Option Addr) (n1 c1 : Nat) (ys : List ByteArray) (p0 : ByteArray) (w : World) (hA : StrsAt w A xs) (hx : xs.length = n0) (hA1 : StrsAt w A1 ys) (hy : ys.length = n1) :
    Calls Tryz.prog 9 #[.slice A n0 c0, .slice A1 n1 c1, .string p0] w fun e w' => e = .returned (.bool true) ∧ Below w.heap.size w w' := by
  have hs8 : (shV p0 8).size ≤ 8 := by rw [shV_size]; omega
  have hsh := fun (u : World) => short8 p0 u
  obtain ⟨p, hp⟩ : ∃ p, shV p0 8 = p := ⟨_, rfl⟩
  rw [hp] at hs8
  simp only [hp] at hsh
  have HX := Lib.hid (And.intro hA (And.intro hx (And.intro hA1 (And.intro hy (And.intro hs8 hsh)))))
  clear hA hx hA1 hy hs8 hsh hp
  go_enter Tryz.func9, Tryz.ntmps9
  go_wp2_with fail
  (with_reducible refine (awake_v _).mono ?_)
  rintro e z1 ⟨rfl, hb1⟩
  have HF := Lib.hid (And.intro (few_all A n0 c0 xs z1 (HX.out.1.kept hb1) HX.out.2.1) hb1)
  clear hb1
  go_wp2_with fail
  (with_reducible refine HF.out.1.mono ?_)
  rintro e z2 ⟨B, m, cp, ss, rfl, rfl, hm10, hB, hsz, hbg, hno, hb2⟩
  have hb := HF.out.2.trans (hb2.mono HF.out.2.size)
  have HG := Lib.hid (And.intro (few_all A1 n1 c1 ys z2 (HX.out.2.2.1.kept hb) HX.out.2.2.2.1) (And.intro hb (And.intro hB (And.intro hno hsz))))
  clear hb hb2 hB hno hsz HF
  go_wp2_with fail
  (with_reducible refine HG.out.1.mono ?_)
  rintro e z3 ⟨B2, m2, cp2, tt, rfl, rfl, hm102, hB2, hsz2, hbg2, hno2, hb3⟩
  have H3 := Lib.hid (And.intro (HG.out.2.1.trans (hb3.mono HG.out.2.1.size)) (And.intro (HG.out.2.2.1.kept hb3) (And.intro hB2 (And.intro HG.out.2.2.2.1 hno2))))
  clear hb3 hB2 hno2 hsz2 HG
  go_wp2_with fail
  (with_reducible refine (HX.out.2.2.2.2.2 _).mono ?_)
  rintro e z4 ⟨rfl, rfl⟩
  obtain ⟨z3, rfl⟩ : ∃ z3, z3 = z4 := ⟨_, rfl⟩
  go_wp2_with (first | (at_builtin; refine wpList_append_strs rfl (.tmp 28) (.tmp 29) rfl z3.heap.size _ _ _ rfl (World.ownsRow_nil _ _ _ _) B ss.length cp ss rfl rfl H3.out.2.1 H3.out.2.2.2.1 ?c2 (Nat.le_refl _) ?_))
  case c2 => omega
  intro v5 z5 hown hgrow _
  have hO5 := (show OwnS z3 (.slice none 0 0) [] z3 from ⟨World.ownsRow_nil _ _ _ _, Below.refl _ _⟩).app (l' := ss) (by simpa using hown) hgrow
  have H5 := Lib.hid (And.intro hO5 (H3.out.2.2.1.kept hO5.2))
  clear hown hgrow hO5
  go_wp2_with (first | (at_builtin; refine wpList_append_strs rfl (.tmp 31) (.tmp 32) rfl z3.heap.size _ _ _ rfl H5.out.1.1 B2 tt.length cp2 tt rfl rfl H5.out.2 H3.out.2.2.2.2 ?d2 H5.out.1.2.size ?_))
  case d2 => omega
  intro v6 z6 hown hgrow _
  have hO6 := H5.out.1.app (l' := ss ++ tt) (by simpa using hown) hgrow
  obtain ⟨B6, cp6, rfl, hB6, -, -, -, -⟩ := strs_of_own hO6.1
  have hbz : Below w.heap.size w z6 := H3.out.1.trans (hO6.2.mono H3.out.1.size)
  have hida := ids_app ss tt p
  have hcna := cn_app' ss tt p
  have hbga := bg_all ss tt
  have hLl : (ss ++ tt).length = ss.length + tt.length := List.length_append
  obtain ⟨L, hL⟩ : ∃ L, ss ++ tt = L := ⟨_, rfl⟩
  rw [hL] at hB6 hida hcna hbga hLl ⊢
  have hnx := vnew_ok B ss.length cp ss z6 (H3.out.2.1.kept hO6.2) rfl (by omega)
  have hsy := (H3.out.2.2.1.kept hO6.2)
  have H6 := Lib.hid (And.intro hnx (And.intro hsy (And.intro hB6 hbz)))
  have HE := Lib.hid (And.intro hida (And.intro hcna (And.intro hbga hLl)))
  clear hown hgrow hO6 hbz hida hcna hnx hsy hB6 hL H5 H3 hLl
  go_wp2_with fail
  (with_reducible refine H6.out.1.mono ?_)
  rintro e z7 ⟨Fx, Ex, cx, rfl, hV, hb7⟩
  have hbs := below_stored z7 Fx Ex ss.length cx
  have H7 := Lib.hid (And.intro (VX.stored (c := cx) hV (Below.refl _ _)) (And.intro ((H6.out.2.1.kept hb7).kept hbs) (And.intro ((H6.out.2.2.1.kept hb7).kept hbs) ((H6.out.2.2.2.trans (hb7.mono H6.out.2.2.2.size)).trans (hbs.mono (Nat.le_trans H6.out.2.2.2.size hb7.size))))))
  clear hV hb7 hbs H6
  go_upto_region 9 with (refine store40 (op := ⟨none, .store 40 (.tmp 11) (.tmp 37), _, _, _, _⟩) Fx Ex ss.length cx z7.heap.size (.tmp 11) (.tmp 37) rfl rfl rfl rfl (there18 z7) ?_)
  generalize (z7.alloc (.cells #[.int .i64 0, .int .i64 0, .slice none 0 0, .int .i64 0, .slice none 0 0, .int .i64 0, .int .i64 0, .int .i64 0, .slice none 0 0, .int .i64 0, .int .i64 0, .int .i64 0, .slice none 0 0, .int .i64 0, .int .i64 0, .int .i64 0, .slice none 0 0, .slice none 0 0] 40)).setCells z7.heap.size 0 [.int .i64 (Fx.N : Int), .int .i64 Fx.Z, .slice Fx.wa Fx.wW Fx.wc, .int .i64 (Fx.R.n : Int), .slice Fx.R.a Fx.R.m Fx.R.c, .int .i64 (Fx.R.cn : Int), .int .i64 (Fx.R.cW : Int), .int .i64 (Fx.R.cL : Int), .slice Fx.R.a2 Fx.R.m2 Fx.R.c2, .int .i64 (Fx.S.n : Int), .int .i64 (Fx.S.W : Int), .int .i64 (Fx.S.L : Int), .slice Fx.S.a Fx.S.m Fx.S.c, .int .i64 (Fx.P.n : Int), .int .i64 (Fx.P.W : Int), .int .i64 (Fx.P.L : Int), .slice Fx.P.a Fx.P.m Fx.P.c, .slice Ex ss.length cx] = z8 at *
  have H8 := Lib.hid (And.intro (vnew_ok B2 tt.length cp2 tt z8 H7.out.2.1 rfl (by omega)) H7.out)
  clear H7
  go_wp2_with fail
  (with_reducible refine H8.out.1.mono ?_)
  rintro e z9 ⟨Fy, Ey, cy, rfl, hV, hb9⟩
  have hbs := below_stored z9 Fy Ey tt.length cy
  have hb10 := hb9.trans (hbs.mono hb9.size)
  have H9 := Lib.hid (And.intro (VX.stored (c := cy) hV (Below.refl _ _)) (And.intro (H8.out.2.1.kept hb10) (And.intro (H8.out.2.2.2.1.kept hb10) (H8.out.2.2.2.2.trans (hb10.mono H8.out.2.2.2.2.size)))))
  clear hV hb9 hbs hb10 H8
  go_upto_region 10 with (refine store40 (op := ⟨none, .store 40 (.tmp 13) (.tmp 42), _, _, _, _⟩) Fy Ey tt.length cy z9.heap.size (.tmp 13) (.tmp 42) rfl rfl rfl rfl (there18 z9) ?_)
  generalize (z9.alloc (.cells #[.int .i64 0, .int .i64 0, .slice none 0 0, .int .i64 0, .slice none 0 0, .int .i64 0, .int .i64 0, .int .i64 0, .slice none 0 0, .int .i64 0, .int .i64 0, .int .i64 0, .slice none 0 0, .int .i64 0, .int .i64 0, .int .i64 0, .slice none 0 0, .slice none 0 0] 40)).setCells z9.heap.size 0 [.int .i64 (Fy.N : Int), .int .i64 Fy.Z, .slice Fy.wa Fy.wW Fy.wc, .int .i64 (Fy.R.n : Int), .slice Fy.R.a Fy.R.m Fy.R.c, .int .i64 (Fy.R.cn : Int), .int .i64 (Fy.R.cW : Int), .int .i64 (Fy.R.cL : Int), .slice Fy.R.a2 Fy.R.m2 Fy.R.c2, .int .i64 (Fy.S.n : Int), .int .i64 (Fy.S.W : Int), .int .i64 (Fy.S.L : Int), .slice Fy.S.a Fy.S.m Fy.S.c, .int .i64 (Fy.P.n : Int), .int .i64 (Fy.P.W : Int), .int .i64 (Fy.P.L : Int), .slice Fy.P.a Fy.P.m Fy.P.c, .slice Ey tt.length cy] = z10 at *
  have H10 := Lib.hid (And.intro (vnew_ok B6 L.length cp6 L z10 H9.out.2.2.1 rfl (by rw [hbga]; omega)) H9.out)
  clear H9
  go_wp2_with fail
  (with_reducible refine H10.out.1.mono ?_)
  rintro e z11 ⟨Fz, Ez, cz, rfl, hV, hb11⟩
  have hbs := below_stored z11 Fz Ez L.length cz
  have hb12 := hb11.trans (hbs.mono hb11.size)
  obtain ⟨J, hJ⟩ : ∃ J : World → Prop, J = fun u => VX z7 z7.heap.size Fx Ex cx ss u ∧ VX z9 z9.heap.size Fy Ey cy tt u ∧ VX z11 z11.heap.size Fz Ez cz L u ∧ Below w.heap.size w u := ⟨_, rfl⟩
  have hJ0 : J ((z11.alloc (.cells #[.int .i64 0, .int .i64 0, .slice none 0 0, .int .i64 0, .slice none 0 0, .int .i64 0, .int .i64 0, .int .i64 0, .slice none 0 0, .int .i64 0, .int .i64 0, .int .i64 0, .slice none 0 0, .int .i64 0, .int .i64 0, .int .i64 0, .slice none 0 0, .slice none 0 0] 40)).setCells z11.heap.size 0 [.int .i64 (Fz.N : Int), .int .i64 Fz.Z, .slice Fz.wa Fz.wW Fz.wc, .int .i64 (Fz.R.n : Int), .slice Fz.R.a Fz.R.m Fz.R.c, .int .i64 (Fz.R.cn : Int), .int .i64 (Fz.R.cW : Int), .int .i64 (Fz.R.cL : Int), .slice Fz.R.a2 Fz.R.m2 Fz.R.c2, .int .i64 (Fz.S.n : Int), .int .i64 (Fz.S.W : Int), .int .i64 (Fz.S.L : Int), .slice Fz.S.a Fz.S.m Fz.S.c, .int .i64 (Fz.P.n : Int), .int .i64 (Fz.P.W : Int), .int .i64 (Fz.P.L : Int), .slice Fz.P.a Fz.P.m Fz.P.c, .slice Ez L.length cz]) := by
    rw [hJ]
    exact ⟨H10.out.2.2.1.kept hb12, H10.out.2.1.kept hb12, VX.stored (c := cz) hV (Below.refl _ _), H10.out.2.2.2.2.trans (hb12.mono H10.out.2.2.2.2.size)⟩
  have hJk : ∀ u u', J u → Below u.heap.size u u' → J u' := fun u u' h hb => by
    rw [hJ] at h ⊢
    exact ⟨h.1.kept hb, h.2.1.kept hb, h.2.2.1.kept hb, h.2.2.2.trans (hb.mono h.2.2.2.size)⟩
  have hJx : ∀ u, J u → VX z7 z7.heap.size Fx Ex cx ss u := fun u h => by rw [hJ] at h; exact h.1
  have hJy : ∀ u, J u → VX z9 z9.heap.size Fy Ey cy tt u := fun u h => by rw [hJ] at h; exact h.2.1
  have hJz : ∀ u, J u → VX z11 z11.heap.size Fz Ez cz L u := fun u h => by rw [hJ] at h; exact h.2.2.1
  have hJw : ∀ u, J u → Below w.heap.size w u := fun u h => by rw [hJ] at h; exact h.2.2.2
  have H11 := Lib.hid hJ0
  clear hV hb11 hbs hb12 hJ0 hJ H10
  go_upto_region 11 with (refine store40 (op := ⟨none, .store 40 (.tmp 15) (.tmp 47), _, _, _, _⟩) Fz Ez L.length cz z11.heap.size (.tmp 15) (.tmp 47) rfl rfl rfl rfl (there18 z11) ?_)
  generalize (z11.alloc (.cells #[.int .i64 0, .int .i64 0, .slice none 0 0, .int .i64 0, .slice none 0 0, .int .i64 0, .int .i64 0, .int .i64 0, .slice none 0 0, .int .i64 0, .int .i64 0, .int .i64 0, .slice none 0 0, .int .i64 0, .int .i64 0, .int .i64 0, .slice none 0 0, .slice none 0 0] 40)).setCells z11.heap.size 0 [.int .i64 (Fz.N : Int), .int .i64 Fz.Z, .slice Fz.wa Fz.wW Fz.wc, .int .i64 (Fz.R.n : Int), .slice Fz.R.a Fz.R.m Fz.R.c, .int .i64 (Fz.R.cn : Int), .int .i64 (Fz.R.cW : Int), .int .i64 (Fz.R.cL : Int), .slice Fz.R.a2 Fz.R.m2 Fz.R.c2, .int .i64 (Fz.S.n : Int), .int .i64 (Fz.S.W : Int), .int .i64 (Fz.S.L : Int), .slice Fz.S.a Fz.S.m Fz.S.c, .int .i64 (Fz.P.n : Int), .int .i64 (Fz.P.W : Int), .int .i64 (Fz.P.L : Int), .slice Fz.P.a Fz.P.m Fz.P.c, .slice Ez L.length cz] = z12 at *
  obtain ⟨bX, hbX⟩ : ∃ bX, z7.heap.size = bX := ⟨_, rfl⟩
  obtain ⟨bY, hbY⟩ : ∃ bY, z9.heap.size = bY := ⟨_, rfl⟩
  obtain ⟨bZ, hbZ⟩ : ∃ bZ, z11.heap.size = bZ := ⟨_, rfl⟩
  simp only [hbX] at hJx ⊢
  simp only [hbY] at hJy ⊢
  simp only [hbZ] at hJz ⊢
  clear hbX hbY hbZ
  have hlz := fun (u : World) (hu : J u) => vlen_any Fz Ez L.length cz u
  have hiz := fun (u : World) (hu : J u) => (hJz u hu).ids p (by have := HX.out.2.2.2.2.1; omega)
  have hix := fun (u : World) (hu : J u) => (hJx u hu).ids p (by have := HX.out.2.2.2.2.1; omega)
  have hiy := fun (u : World) (hu : J u) => (hJy u hu).ids p (by have := HX.out.2.2.2.2.1; omega)
  have hcz := fun (u : World) (hu : J u) => (hJz u hu).count p (by have := HX.out.2.2.2.2.1; omega)
  have hcx := fun (u : World) (hu : J u) => (hJx u hu).count p (by have := HX.out.2.2.2.2.1; omega)
  have hcy := fun (u : World) (hu : J u) => (hJy u hu).count p (by have := HX.out.2.2.2.2.1; omega)
  have hbz := fun (u : World) (hu : J u) => bytes_v (c := cz) (hJz u hu).vi
  have hbx := fun (u : World) (hu : J u) => bytes_v (c := cx) (hJx u hu).vi
  have hby := fun (u : World) (hu : J u) => bytes_v (c := cy) (hJy u hu).vi
  have hi1 := idN_le ss p ss.length
  have hi2 := idN_le tt p tt.length
  have hc1 := cn_le ss p ss.length
  have hc2 := cn_le tt p tt.length
  have hl1 := len_bg ss ss.length
  have hl2 := len_bg tt tt.length
  change (idsV ss p).length ≤ _ at hi1
  change (idsV tt p).length ≤ _ at hi2
  obtain ⟨hida, hcna, hbga2, hLl⟩ := HE.out
  obtain ⟨I, hI⟩ : ∃ I, idsV L p = I := ⟨_, rfl⟩
  obtain ⟨I1, hI1⟩ : ∃ I1, idsV ss p = I1 := ⟨_, rfl⟩
  obtain ⟨I2, hI2⟩ : ∃ I2, idsV tt p = I2 := ⟨_, rfl⟩
  obtain ⟨N, hN⟩ : ∃ N, cnV L p L.length = N := ⟨_, rfl⟩
  obtain ⟨N1, hN1⟩ : ∃ N1, cnV ss p ss.length = N1 := ⟨_, rfl⟩
  obtain ⟨N2, hN2⟩ : ∃ N2, cnV tt p tt.length = N2 := ⟨_, rfl⟩
  obtain ⟨Y, hY⟩ : ∃ Y, bg L L.length - L.length = Y := ⟨_, rfl⟩
  obtain ⟨Y1, hY1⟩ : ∃ Y1, bg ss ss.length - ss.length = Y1 := ⟨_, rfl⟩
  obtain ⟨Y2, hY2⟩ : ∃ Y2, bg tt tt.length - tt.length = Y2 := ⟨_, rfl⟩
  have hYs : Y = Y1 + Y2 := by omega
  rw [hI, hI1, hI2] at hida
  rw [hN, hN1, hN2] at hcna
  rw [hI1] at hi1
  rw [hI2] at hi2
  rw [hN1] at hc1
  rw [hN2] at hc2
  simp only [hI] at hiz
  simp only [hI1] at hix
  simp only [hI2] at hiy
  simp only [hN] at hcz
  simp only [hN1] at hcx
  simp only [hN2] at hcy
  simp only [hY] at hbz
  simp only [hY1] at hbx
  simp only [hY2] at hby
  obtain ⟨l0, hl0⟩ : ∃ l0, I.length = l0 := ⟨_, rfl⟩
  obtain ⟨l1, hl1'⟩ : ∃ l1, I1.length = l1 := ⟨_, rfl⟩
  obtain ⟨l2, hl2'⟩ : ∃ l2, I2.length = l2 := ⟨_, rfl⟩
  have hls : l0 = l1 + l2 := by rw [← hl0, hida, List.length_append, List.length_map, hl1', hl2']
  have hfst : ∀ j, j < l1 → I.getD j 0 = I1.getD j 0 := fun j hj => by
    rw [hida, List.getD_eq_getElem?_getD, List.getElem?_append_left (by omega), ← List.getD_eq_getElem?_getD]
  have hsnd : ∀ j, j < l2 → I.getD (l1 + j) 0 = I2.getD j 0 + (ss.length : Int) ∧ 0 ≤ I2.getD j 0 ∧ I2.getD j 0 ≤ 1000 := fun j hj => by
    have hj2 : j < I2.length := by omega
    have h1 : I.getD (l1 + j) 0 = I2.getD j 0 + (ss.length : Int) := by
      rw [hida, List.getD_eq_getElem?_getD, List.getElem?_append_right (by omega), hl1', Nat.add_sub_cancel_left, List.getElem?_map, List.getElem?_eq_getElem hj2, List.getD_eq_getElem?_getD, List.getElem?_eq_getElem hj2]
      rfl
    obtain ⟨q, h2, h3, -⟩ := ids_mem.1 (show I2.getD j 0 ∈ idsV tt p by rw [hI2]; exact getD_mem hj2)
    rw [h2] at h1 ⊢
    exact ⟨h1, by omega, by omega⟩
  simp only [hl0] at hiz
  simp only [hl1'] at hix
  simp only [hl2'] at hiy
  have HC := Lib.hid (And.intro hlz (And.intro hiz (And.intro hix (And.intro hiy (And.intro hcz (And.intro hcx (And.intro hcy (And.intro hbz (And.intro hbx hby)))))))))
  have HJ := Lib.hid (And.intro hJk (And.intro hJx (And.intro hJy (And.intro hJz hJw))))
  have HI := Lib.hid (And.intro hl0 (And.intro hl1' (And.intro hl2' (And.intro hfst (And.intro hsnd (And.intro hls (And.intro hcna hYs)))))))
  have b1 : l1 ≤ 10 := by omega
  have b2 : l2 ≤ 10 := by omega
  have b3 : N1 ≤ 210 := by omega
  have b4 : N2 ≤ 210 := by omega
  have b5 : Y1 ≤ 210 := by omega
  have b6 : Y2 ≤ 210 := by omega
  have b7 : l0 ≤ 20 := by omega
  clear hlz hiz hix hiy hcz hcx hcy hbz hbx hby hJk hJx hJy hJz hJw hl0 hl1' hl2' hfst hsnd hls hcna hYs hida hbga2 hLl hI hI1 hI2 hN hN1 hN2 hY hY1 hY2 hi1 hi2 hc1 hc2 hl1 hl2 hbga
  go_upto_region 13 with (first | (refine load40 (HJ.out.2.2.2.1 _ H11.out) _ (by with_reducible rfl) rfl rfl ?_) | (go_at_call 22; (with_reducible refine (HC.out.1 _ H11.out).mono ?_); rintro e z13 ⟨rfl, hb13⟩; have H13 := Lib.hid (HJ.out.1 _ _ H11.out hb13); clear hb13 H11))
  go_upto_region 14 with (first | (refine load40 (HJ.out.2.2.2.1 _ H13.out) _ (by with_reducible rfl) rfl rfl ?_) | (go_at_call 26; (with_reducible refine (HC.out.2.1 _ H13.out).mono ?_); rintro e z14 ⟨A4, c4, rfl, hN4, hb14, -⟩; have H14 := Lib.hid (And.intro (HJ.out.1 _ _ H13.out hb14) hN4); clear hb14 hN4 H13))
  go_upto_region 15 with (first | (refine load40 (HJ.out.2.1 _ H14.out.1) _ (by with_reducible rfl) rfl rfl ?_) | (go_at_call 26; (with_reducible refine (HC.out.2.2.1 _ H14.out.1).mono ?_); rintro e z15 ⟨A5, c5, rfl, hN5, hb15, -⟩; have H15 := Lib.hid (And.intro (HJ.out.1 _ _ H14.out.1 hb15) (And.intro (H14.out.2.kept hb15) hN5)); clear hb15 hN5 H14))
  go_upto_region 16 with (first | (refine load40 (HJ.out.2.2.1 _ H15.out.1) _ (by with_reducible rfl) rfl rfl ?_) | (go_at_call 26; (with_reducible refine (HC.out.2.2.2.1 _ H15.out.1).mono ?_); rintro e z16 ⟨A6, c6, rfl, hN6, hb16, -⟩; have H16 := Lib.hid (And.intro (HJ.out.1 _ _ H15.out.1 hb16) (And.intro (H15.out.2.1.kept hb16) (And.intro (H15.out.2.2.kept hb16) hN6))); clear hb16 hN6 H15))
  have q1 : IntKind.i64.wrap ((l1 : Int) + (l2 : Int)) = (l0 : Int) := by have := HI.out.2.2.2.2.2.1; rw [show (l1 : Int) + (l2 : Int) = (l0 : Int) by omega]; exact IntWalk.i64_in _ (by omega)
  have q2 : ((l0 : Int) != (l0 : Int)) = false := by simp
  go_wp2
  go_loopw [20] (fun v20 wr => ∃ j : Nat, j ≤ l0 ∧ v20 = .int .i64 (j : Int) ∧ J wr ∧ NumsAt .i64 wr A4 I ∧ NumsAt .i64 wr A5 I1 ∧ NumsAt .i64 wr A6 I2) (fun v20 _ => l0 - (intOf v20).toNat)
  case atStart => exact ⟨0, Nat.zero_le _, rfl, H16.out⟩
  case round =>
    obtain ⟨j, hjn, rfl, hJr, hN4, hN5, hN6⟩ := hrel
    clear H16
    have hls := HI.out.2.2.2.2.2.1
    by_cases hlt : j < l0
    · obtain ⟨b4', o4, hAe4, hbl4, hc4⟩ := num_at hN4 (i := j) (by rw [HI.out.1]; exact hlt)
      have HR := Lib.hid (And.intro hJr (And.intro hN4 (And.intro hN5 hN6)))
      have r1 : (j : Int) < (l0 : Int) := by omega
      have r2 : (0 : Int) ≤ (j : Int) := by omega
      by_cases h1 : j < l1
      · obtain ⟨b5', o5, hAe5, hbl5, hc5⟩ := num_at hN5 (i := j) (by rw [HI.out.2.1]; exact h1)
        rw [HI.out.2.2.2.1 j h1] at hc4
        obtain ⟨x, hx⟩ : ∃ x, I1.getD j 0 = x := ⟨_, rfl⟩
        rw [hx] at hc4 hc5
        have r3 : (j : Int) < (l1 : Int) := by omega
        have r4 : ¬ (l1 : Int) ≤ (j : Int) := by omega
        have r5 : (x != x) = false := by simp
        have r10 : ¬ l1 ≤ j := by omega
        subst hAe4 hAe5
        clear hJr hN4 hN5 hN6 hx hls
        go_wp2
        have hund : undef = Value.tuple #[] := rfl
        have hA : Below wr.heap.size wr wr := Below.refl _ _
        try simp only [List.append_eq, List.cons_append, List.nil_append]
        refine wp_region_held_drew (S := fun w' => Below wr.heap.size wr w') (by kernel_rfl) (hA.drew) (fun hHeld => ?_)
        replace hA := hA.drew
        refine wpAnyH_take (i := 0) (oi := ⟨some 89, _, _, _, _, _⟩) (v := ?_) rfl (by kernel_rfl) (by kernel_rfl) (by kernel_rfl) (fun _ _ _ h => h) (Or.inl ⟨by kernel_rfl, ?_⟩) (by assumption) ?_
        case refine_2 => (intro w hSw; go_simp; try (with_reducible rfl))
        try simp only [Act.put, List.setIfInBounds_toArray, List.set_cons_zero, List.set_cons_succ]
        refine wpAnyH_take (i := 1) (oi := ⟨some 90, _, _, _, _, _⟩) (v := ?_) rfl (by kernel_rfl) (by kernel_rfl) (by kernel_rfl) (fun _ _ _ h => h) (Or.inl ⟨by kernel_rfl, ?_⟩) (by assumption) ?_
        case refine_2 => (intro w hSw; go_simp; try (with_reducible rfl))
        try simp only [Act.put, List.setIfInBounds_toArray, List.set_cons_zero, List.set_cons_succ]
        refine wpAnyH_take (i := 2) (oi := ⟨some 91, _, _, _, _, _⟩) (v := ?_) rfl (by kernel_rfl) (by kernel_rfl) (by kernel_rfl) (fun _ _ _ h => h) (Or.inl ⟨by kernel_rfl, ?_⟩) (by assumption) ?_
        case refine_2 => (intro w hSw; go_simp; try (with_reducible rfl))
        try simp only [Act.put, List.setIfInBounds_toArray, List.set_cons_zero, List.set_cons_succ]
        refine wpAnyH_take (i := 3) (oi := ⟨some 92, _, _, _, _, _⟩) (v := ?_) rfl (by kernel_rfl) (by kernel_rfl) (by kernel_rfl) (fun _ _ _ h => h) (Or.inl ⟨by kernel_rfl, ?_⟩) (by assumption) ?_
        case refine_2 => (intro w hSw; go_simp; try (with_reducible rfl))
        try simp only [Act.put, List.setIfInBounds_toArray, List.set_cons_zero, List.set_cons_succ]
        refine wpAnyH_take (i := 4) (oi := ⟨some 93, _, _, _, _, _⟩) (v := ?_) rfl (by kernel_rfl) (by kernel_rfl) (by kernel_rfl) (fun _ _ _ h => h) (Or.inl ⟨by kernel_rfl, ?_⟩) (by assumption) ?_
        case refine_2 => (intro w hSw; go_simp; try (with_reducible rfl))
        try simp only [Act.put, List.setIfInBounds_toArray, List.set_cons_zero, List.set_cons_succ]
        refine wpAnyH_take (i := 5) (oi := ⟨some 94, _, _, _, _, _⟩) (v := ?_) rfl (by kernel_rfl) (by kernel_rfl) (by kernel_rfl) (fun _ _ _ h => h) (Or.inl ⟨by kernel_rfl, ?_⟩) (by assumption) ?_
        case refine_2 => (intro w hSw; go_simp; try (with_reducible rfl))
        try simp only [Act.put, List.setIfInBounds_toArray, List.set_cons_zero, List.set_cons_succ]
        refine wpAnyH_take (i := 6) (oi := ⟨some 95, _, _, _, _, _⟩) (v := ?_) rfl (by kernel_rfl) (by kernel_rfl) (by kernel_rfl) (fun _ _ _ h => h) (Or.inl ⟨by kernel_rfl, ?_⟩) (by assumption) ?_
        case refine_2 => (intro w hSw; go_simp; try (with_reducible rfl))
        try simp only [Act.put, List.setIfInBounds_toArray, List.set_cons_zero, List.set_cons_succ]
        refine wpAnyH_take (i := 7) (oi := ⟨some 96, _, _, _, _, _⟩) (v := ?_) rfl (by kernel_rfl) (by kernel_rfl) (by kernel_rfl) (fun _ _ _ h => h) (Or.inl ⟨by kernel_rfl, ?_⟩) (by assumption) ?_
        case refine_2 => (intro w hSw; go_simp; try (with_reducible rfl))
        try simp only [Act.put, List.setIfInBounds_toArray, List.set_cons_zero, List.set_cons_succ]
        refine wpAnyH_take (i := 8) (oi := ⟨some 97, _, _, _, _, _⟩) (v := ?_) rfl (by kernel_rfl) (by kernel_rfl) (by kernel_rfl) (fun _ _ _ h => h) (Or.inl ⟨by kernel_rfl, ?_⟩) (by assumption) ?_
        case refine_2 => (intro w hSw; have y1 := (hSw.cell (p := ⟨b4', o4 + j, none⟩) hbl4).trans hc4; have y2 := (hSw.cell (p := ⟨b5', o5 + j, none⟩) hbl5).trans hc5; go_simp; try (with_reducible rfl))
        try simp only [Act.put, List.setIfInBounds_toArray, List.set_cons_zero, List.set_cons_succ]
        refine wpAnyH_take (i := 9) (oi := ⟨some 98, _, _, _, _, _⟩) (v := ?_) rfl (by kernel_rfl) (by kernel_rfl) (by kernel_rfl) (fun _ _ _ h => h) (Or.inl ⟨by kernel_rfl, ?_⟩) (by assumption) ?_
        case refine_2 => (intro w hSw; go_simp; try (with_reducible rfl))
        try simp only [Act.put, List.setIfInBounds_toArray, List.set_cons_zero, List.set_cons_succ]
        refine wpAnyH_take (i := 10) (oi := ⟨some 99, _, _, _, _, _⟩) (v := ?_) rfl (by kernel_rfl) (by kernel_rfl) (by kernel_rfl) (fun _ _ _ h => h) (Or.inl ⟨by kernel_rfl, ?_⟩) (by assumption) ?_
        case refine_2 => (intro w hSw; go_simp; try (with_reducible rfl))
        try simp only [Act.put, List.setIfInBounds_toArray, List.set_cons_zero, List.set_cons_succ]
        refine wpAnyH_take (i := 11) (oi := ⟨some 100, _, _, _, _, _⟩) (v := ?_) rfl (by kernel_rfl) (by kernel_rfl) (by kernel_rfl) (fun _ _ _ h => h) (Or.inl ⟨by kernel_rfl, ?_⟩) (by assumption) ?_
        case refine_2 => (intro w hSw; go_simp; try (with_reducible rfl))
        try simp only [Act.put, List.setIfInBounds_toArray, List.set_cons_zero, List.set_cons_succ]
        refine wpAnyH_take (i := 12) (oi := ⟨some 101, _, _, _, _, _⟩) (v := ?_) rfl (by kernel_rfl) (by kernel_rfl) (by kernel_rfl) (fun _ _ _ h => h) (Or.inl ⟨by kernel_rfl, ?_⟩) (by assumption) ?_
        case refine_2 => (intro w hSw; have y1 := (hSw.cell (p := ⟨b4', o4 + j, none⟩) hbl4).trans hc4; have y2 := (hSw.cell (p := ⟨b5', o5 + j, none⟩) hbl5).trans hc5; go_simp; try (with_reducible rfl))
        try simp only [Act.put, List.setIfInBounds_toArray, List.set_cons_zero, List.set_cons_succ]
        refine wpAnyH_take (i := 13) (oi := ⟨some 102, _, _, _, _, _⟩) (v := ?_) rfl (by kernel_rfl) (by kernel_rfl) (by kernel_rfl) (fun _ _ _ h => h) (Or.inl ⟨by kernel_rfl, ?_⟩) (by assumption) ?_
        case refine_2 => (intro w hSw; go_simp; try (with_reducible rfl))
        try simp only [Act.put, List.setIfInBounds_toArray, List.set_cons_zero, List.set_cons_succ]
        refine wpAnyH_take (i := 14) (oi := ⟨some 103, _, _, _, _, _⟩) (v := ?_) rfl (by kernel_rfl) (by kernel_rfl) (by kernel_rfl) (fun _ _ _ h => h) (Or.inl ⟨by kernel_rfl, ?_⟩) (by assumption) ?_
        case refine_2 => (intro w hSw; go_simp; try (with_reducible rfl))
        try simp only [Act.put, List.setIfInBounds_toArray, List.set_cons_zero, List.set_cons_succ]
        refine wpAnyH_take (i := 15) (oi := ⟨some 104, _, _, _, _, _⟩) (v := ?_) rfl (by kernel_rfl) (by kernel_rfl) (by kernel_rfl) (fun _ _ _ h => h) (Or.inl ⟨by kernel_rfl, ?_⟩) (by assumption) ?_
        case refine_2 => (intro w hSw; go_simp; try (with_reducible rfl))
        try simp only [Act.put, List.setIfInBounds_toArray, List.set_cons_zero, List.set_cons_succ]
        refine wpAnyH_take (i := 16) (oi := ⟨some 105, _, _, _, _, _⟩) (v := ?_) rfl (by kernel_rfl) (by kernel_rfl) (by kernel_rfl) (fun _ _ _ h => h) (Or.inl ⟨by kernel_rfl, ?_⟩) (by assumption) ?_
        case refine_2 => (intro w hSw; go_simp; try (with_reducible rfl))
        try simp only [Act.put, List.setIfInBounds_toArray, List.set_cons_zero, List.set_cons_succ]
        refine wpAnyH_take (i := 17) (oi := ⟨some 106, _, _, _, _, _⟩) (v := ?_) rfl (by kernel_rfl) (by kernel_rfl) (by kernel_rfl) (fun _ _ _ h => h) (Or.inl ⟨by kernel_rfl, ?_⟩) (by assumption) ?_
        case refine_2 => (intro w hSw; go_simp; try (with_reducible rfl))
        try simp only [Act.put, List.setIfInBounds_toArray, List.set_cons_zero, List.set_cons_succ]
        refine wpAnyH_take (i := 18) (oi := ⟨some 107, _, _, _, _, _⟩) (v := ?_) rfl (by kernel_rfl) (by kernel_rfl) (by kernel_rfl) (fun _ _ _ h => h) (Or.inl ⟨by kernel_rfl, ?_⟩) (by assumption) ?_
        case refine_2 => (intro w hSw; go_simp; try (with_reducible rfl))
        try simp only [Act.put, List.setIfInBounds_toArray, List.set_cons_zero, List.set_cons_succ]
        refine wpAnyH_take (i := 19) (oi := ⟨some 108, _, _, _, _, _⟩) (v := ?_) rfl (by kernel_rfl) (by kernel_rfl) (by kernel_rfl) (fun _ _ _ h => h) (Or.inl ⟨by kernel_rfl, ?_⟩) (by assumption) ?_
        case refine_2 => (intro w hSw; go_simp; try (with_reducible rfl))
        try simp only [Act.put, List.setIfInBounds_toArray, List.set_cons_zero, List.set_cons_succ]
        refine wpAnyH_take (i := 20) (oi := ⟨some 109, _, _, _, _, _⟩) (v := ?_) rfl (by kernel_rfl) (by kernel_rfl) (by kernel_rfl) (fun _ _ _ h => h) (Or.inl ⟨by kernel_rfl, ?_⟩) (by assumption) ?_
        case refine_2 => (intro w hSw; go_simp; try (with_reducible rfl))
        try simp only [Act.put, List.setIfInBounds_toArray, List.set_cons_zero, List.set_cons_succ]
        refine wpAnyH_take (i := 21) (oi := ⟨some 110, _, _, _, _, _⟩) (v := undef) rfl (by kernel_rfl) (by kernel_rfl) (by kernel_rfl) (fun _ _ _ h => h) (Or.inr ⟨by kernel_rfl, rfl⟩) (by assumption) ?_
        try simp only [Act.put, List.setIfInBounds_toArray, List.set_cons_zero, List.set_cons_succ]
        refine wpAnyH_take (i := 22) (oi := ⟨some 111, _, _, _, _, _⟩) (v := undef) rfl (by kernel_rfl) (by kernel_rfl) (by kernel_rfl) (fun _ _ _ h => h) (Or.inr ⟨by kernel_rfl, rfl⟩) (by assumption) ?_
        try simp only [Act.put, List.setIfInBounds_toArray, List.set_cons_zero, List.set_cons_succ]
        refine wpAnyH_take (i := 23) (oi := ⟨some 112, _, _, _, _, _⟩) (v := undef) rfl (by kernel_rfl) (by kernel_rfl) (by kernel_rfl) (fun _ _ _ h => h) (Or.inr ⟨by kernel_rfl, rfl⟩) (by assumption) ?_
        try simp only [Act.put, List.setIfInBounds_toArray, List.set_cons_zero, List.set_cons_succ]
        refine wpAnyH_take (i := 24) (oi := ⟨some 113, _, _, _, _, _⟩) (v := undef) rfl (by kernel_rfl) (by kernel_rfl) (by kernel_rfl) (fun _ _ _ h => h) (Or.inr ⟨by kernel_rfl, rfl⟩) (by assumption) ?_
        try simp only [Act.put, List.setIfInBounds_toArray, List.set_cons_zero, List.set_cons_succ]
        refine wpAnyH_take (i := 25) (oi := ⟨some 114, _, _, _, _, _⟩) (v := undef) rfl (by kernel_rfl) (by kernel_rfl) (by kernel_rfl) (fun _ _ _ h => h) (Or.inr ⟨by kernel_rfl, rfl⟩) (by assumption) ?_
        try simp only [Act.put, List.setIfInBounds_toArray, List.set_cons_zero, List.set_cons_succ]
        refine wpAnyH_take (i := 26) (oi := ⟨some 115, _, _, _, _, _⟩) (v := undef) rfl (by kernel_rfl) (by kernel_rfl) (by kernel_rfl) (fun _ _ _ h => h) (Or.inr ⟨by kernel_rfl, rfl⟩) (by assumption) ?_
        try simp only [Act.put, List.setIfInBounds_toArray, List.set_cons_zero, List.set_cons_succ]
        refine wpAnyH_take (i := 27) (oi := ⟨some 116, _, _, _, _, _⟩) (v := undef) rfl (by kernel_rfl) (by kernel_rfl) (by kernel_rfl) (fun _ _ _ h => h) (Or.inr ⟨by kernel_rfl, rfl⟩) (by assumption) ?_
        try simp only [Act.put, List.setIfInBounds_toArray, List.set_cons_zero, List.set_cons_succ]
        refine wpAnyH_take (i := 28) (oi := ⟨some 117, _, _, _, _, _⟩) (v := undef) rfl (by kernel_rfl) (by kernel_rfl) (by kernel_rfl) (fun _ _ _ h => h) (Or.inr ⟨by kernel_rfl, rfl⟩) (by assumption) ?_
        try simp only [Act.put, List.setIfInBounds_toArray, List.set_cons_zero, List.set_cons_succ]
        refine wpAnyH_take (i := 29) (oi := ⟨some 118, _, _, _, _, _⟩) (v := undef) rfl (by kernel_rfl) (by kernel_rfl) (by kernel_rfl) (fun _ _ _ h => h) (Or.inr ⟨by kernel_rfl, rfl⟩) (by assumption) ?_
        try simp only [Act.put, List.setIfInBounds_toArray, List.set_cons_zero, List.set_cons_succ]
        refine wpAnyH_take (i := 30) (oi := ⟨some 119, _, _, _, _, _⟩) (v := undef) rfl (by kernel_rfl) (by kernel_rfl) (by kernel_rfl) (fun _ _ _ h => h) (Or.inr ⟨by kernel_rfl, rfl⟩) (by assumption) ?_
        try simp only [Act.put, List.setIfInBounds_toArray, List.set_cons_zero, List.set_cons_succ]
        refine wpAnyH_take (i := 31) (oi := ⟨some 120, _, _, _, _, _⟩) (v := undef) rfl (by kernel_rfl) (by kernel_rfl) (by kernel_rfl) (fun _ _ _ h => h) (Or.inr ⟨by kernel_rfl, rfl⟩) (by assumption) ?_
        try simp only [Act.put, List.setIfInBounds_toArray, List.set_cons_zero, List.set_cons_succ]
        refine wpAnyH_take (i := 32) (oi := ⟨some 121, _, _, _, _, _⟩) (v := undef) rfl (by kernel_rfl) (by kernel_rfl) (by kernel_rfl) (fun _ _ _ h => h) (Or.inr ⟨by kernel_rfl, rfl⟩) (by assumption) ?_
        try simp only [Act.put, List.setIfInBounds_toArray, List.set_cons_zero, List.set_cons_succ]
        refine wpAnyH_take (i := 33) (oi := ⟨some 122, _, _, _, _, _⟩) (v := undef) rfl (by kernel_rfl) (by kernel_rfl) (by kernel_rfl) (fun _ _ _ h => h) (Or.inr ⟨by kernel_rfl, rfl⟩) (by assumption) ?_
        try simp only [Act.put, List.setIfInBounds_toArray, List.set_cons_zero, List.set_cons_succ]
        refine wpAnyH_take (i := 34) (oi := ⟨some 123, _, _, _, _, _⟩) (v := undef) rfl (by kernel_rfl) (by kernel_rfl) (by kernel_rfl) (fun _ _ _ h => h) (Or.inr ⟨by kernel_rfl, rfl⟩) (by assumption) ?_
        try simp only [Act.put, List.setIfInBounds_toArray, List.set_cons_zero, List.set_cons_succ]
        refine wpAnyH_take (i := 35) (oi := ⟨some 124, _, _, _, _, _⟩) (v := undef) rfl (by kernel_rfl) (by kernel_rfl) (by kernel_rfl) (fun _ _ _ h => h) (Or.inr ⟨by kernel_rfl, rfl⟩) (by assumption) ?_
        try simp only [Act.put, List.setIfInBounds_toArray, List.set_cons_zero, List.set_cons_succ]
        refine wpAnyH_take (i := 36) (oi := ⟨some 125, _, _, _, _, _⟩) (v := ?_) rfl (by kernel_rfl) (by kernel_rfl) (by kernel_rfl) (fun _ _ _ h => h) (Or.inl ⟨by kernel_rfl, ?_⟩) (by assumption) ?_
        case refine_2 => (intro w hSw; go_simp; try (with_reducible rfl))
        try simp only [Act.put, List.setIfInBounds_toArray, List.set_cons_zero, List.set_cons_succ]
        refine wpAnyH_take (i := 37) (oi := ⟨some 126, _, _, _, _, _⟩) (v := ?_) rfl (by kernel_rfl) (by kernel_rfl) (by kernel_rfl) (fun _ _ _ h => h) (Or.inl ⟨by kernel_rfl, ?_⟩) (by assumption) ?_
        case refine_2 => (intro w hSw; go_simp; try (with_reducible rfl))
        try simp only [Act.put, List.setIfInBounds_toArray, List.set_cons_zero, List.set_cons_succ]
        refine wpAnyH_done (by kernel_rfl) ?_ _
        clear hHeld
        have hbd := hA
        have HV := Lib.hid (And.intro (HJ.out.1 _ _ HR.out.1 hbd) (And.intro (HR.out.2.1.kept hbd) (And.intro (HR.out.2.2.1.kept hbd) (HR.out.2.2.2.kept hbd))))
        clear hA hbd hund hc4 hc5
        go_wp2
        go_roundw
        case rel => first | exact ⟨j + 1, by omega, by go_num, HV.out⟩ | ((repeat apply Exists.intro); exact ⟨⟨j + 1, by omega, by go_num, HV.out⟩, rfl⟩)
        case measure => simp [intOf]; omega
      · obtain ⟨k, rfl⟩ : ∃ k, j = l1 + k := ⟨j - l1, by omega⟩
        obtain ⟨b6', o6, hAe6, hbl6, hc6⟩ := num_at hN6 (i := k) (by rw [HI.out.2.2.1]; omega)
        obtain ⟨e1, e2, e3⟩ := HI.out.2.2.2.2.1 k (by omega)
        rw [e1] at hc4
        obtain ⟨x, hx⟩ : ∃ x, I2.getD k 0 = x := ⟨_, rfl⟩
        rw [hx] at hc4 hc6 e2 e3
        have r3 : ¬ ((l1 + k : Nat) : Int) < (l1 : Int) := by omega
        have r4 : (l1 : Int) ≤ ((l1 + k : Nat) : Int) := by omega
        have r5 : IntKind.i64.wrap (((l1 + k : Nat) : Int) - (l1 : Int)) = (k : Int) := by rw [show ((l1 + k : Nat) : Int) - (l1 : Int) = (k : Int) by omega]; exact IntWalk.i64_in _ (by omega)
        have r6 : (k : Int) < (l2 : Int) := by omega
        have r7 : (0 : Int) ≤ (k : Int) := by omega
        have r8 : IntKind.i64.wrap (x + (ss.length : Int)) = x + (ss.length : Int) := IntWalk.i64_in _ (by omega)
        have r9 : (x + (ss.length : Int) != x + (ss.length : Int)) = false := by simp
        obtain ⟨j, hj⟩ : ∃ j, l1 + k = j := ⟨_, rfl⟩
        rw [hj] at hc4 r1 r2 r3 r4 r5 ⊢
        have HK := Lib.hid hj
        have r10 : ¬ j < l1 := by omega
        have r11 : l1 ≤ j := by omega
        clear h1
        subst hAe4 hAe6
        clear hJr hN4 hN5 hN6 hx e1 hj hls
        go_wp2
        have hund : undef = Value.tuple #[] := rfl
        have hA : Below wr.heap.size wr wr := Below.refl _ _
        try simp only [List.append_eq, List.cons_append, List.nil_append]
        refine wp_region_held_drew (S := fun w' => Below wr.heap.size wr w') (by kernel_rfl) (hA.drew) (fun hHeld => ?_)
        replace hA := hA.drew
        refine wpAnyH_take (i := 0) (oi := ⟨some 89, _, _, _, _, _⟩) (v := ?_) rfl (by kernel_rfl) (by kernel_rfl) (by kernel_rfl) (fun _ _ _ h => h) (Or.inl ⟨by kernel_rfl, ?_⟩) (by assumption) ?_
        case refine_2 => (intro w hSw; go_simp; try (with_reducible rfl))
        try simp only [Act.put, List.setIfInBounds_toArray, List.set_cons_zero, List.set_cons_succ]
        refine wpAnyH_take (i := 1) (oi := ⟨some 90, _, _, _, _, _⟩) (v := ?_) rfl (by kernel_rfl) (by kernel_rfl) (by kernel_rfl) (fun _ _ _ h => h) (Or.inl ⟨by kernel_rfl, ?_⟩) (by assumption) ?_
        case refine_2 => (intro w hSw; go_simp; try (with_reducible rfl))
        try simp only [Act.put, List.setIfInBounds_toArray, List.set_cons_zero, List.set_cons_succ]
        refine wpAnyH_take (i := 2) (oi := ⟨some 91, _, _, _, _, _⟩) (v := ?_) rfl (by kernel_rfl) (by kernel_rfl) (by kernel_rfl) (fun _ _ _ h => h) (Or.inl ⟨by kernel_rfl, ?_⟩) (by assumption) ?_
        case refine_2 => (intro w hSw; go_simp; try (with_reducible rfl))
        try simp only [Act.put, List.setIfInBounds_toArray, List.set_cons_zero, List.set_cons_succ]
        refine wpAnyH_take (i := 3) (oi := ⟨some 92, _, _, _, _, _⟩) (v := ?_) rfl (by kernel_rfl) (by kernel_rfl) (by kernel_rfl) (fun _ _ _ h => h) (Or.inl ⟨by kernel_rfl, ?_⟩) (by assumption) ?_
        case refine_2 => (intro w hSw; go_simp; try (with_reducible rfl))
        try simp only [Act.put, List.setIfInBounds_toArray, List.set_cons_zero, List.set_cons_succ]
        refine wpAnyH_take (i := 4) (oi := ⟨some 93, _, _, _, _, _⟩) (v := ?_) rfl (by kernel_rfl) (by kernel_rfl) (by kernel_rfl) (fun _ _ _ h => h) (Or.inl ⟨by kernel_rfl, ?_⟩) (by assumption) ?_
        case refine_2 => (intro w hSw; go_simp; try (with_reducible rfl))
        try simp only [Act.put, List.setIfInBounds_toArray, List.set_cons_zero, List.set_cons_succ]
        refine wpAnyH_take (i := 5) (oi := ⟨some 94, _, _, _, _, _⟩) (v := undef) rfl (by kernel_rfl) (by kernel_rfl) (by kernel_rfl) (fun _ _ _ h => h) (Or.inr ⟨by kernel_rfl, rfl⟩) (by assumption) ?_
        try simp only [Act.put, List.setIfInBounds_toArray, List.set_cons_zero, List.set_cons_succ]
        refine wpAnyH_take (i := 6) (oi := ⟨some 95, _, _, _, _, _⟩) (v := undef) rfl (by kernel_rfl) (by kernel_rfl) (by kernel_rfl) (fun _ _ _ h => h) (Or.inr ⟨by kernel_rfl, rfl⟩) (by assumption) ?_
        try simp only [Act.put, List.setIfInBounds_toArray, List.set_cons_zero, List.set_cons_succ]
        refine wpAnyH_take (i := 7) (oi := ⟨some 96, _, _, _, _, _⟩) (v := undef) rfl (by kernel_rfl) (by kernel_rfl) (by kernel_rfl) (fun _ _ _ h => h) (Or.inr ⟨by kernel_rfl, rfl⟩) (by assumption) ?_
        try simp only [Act.put, List.setIfInBounds_toArray, List.set_cons_zero, List.set_cons_succ]
        refine wpAnyH_take (i := 8) (oi := ⟨some 97, _, _, _, _, _⟩) (v := undef) rfl (by kernel_rfl) (by kernel_rfl) (by kernel_rfl) (fun _ _ _ h => h) (Or.inr ⟨by kernel_rfl, rfl⟩) (by assumption) ?_
        try simp only [Act.put, List.setIfInBounds_toArray, List.set_cons_zero, List.set_cons_succ]
        refine wpAnyH_take (i := 9) (oi := ⟨some 98, _, _, _, _, _⟩) (v := undef) rfl (by kernel_rfl) (by kernel_rfl) (by kernel_rfl) (fun _ _ _ h => h) (Or.inr ⟨by kernel_rfl, rfl⟩) (by assumption) ?_
        try simp only [Act.put, List.setIfInBounds_toArray, List.set_cons_zero, List.set_cons_succ]
        refine wpAnyH_take (i := 10) (oi := ⟨some 99, _, _, _, _, _⟩) (v := undef) rfl (by kernel_rfl) (by kernel_rfl) (by kernel_rfl) (fun _ _ _ h => h) (Or.inr ⟨by kernel_rfl, rfl⟩) (by assumption) ?_
        try simp only [Act.put, List.setIfInBounds_toArray, List.set_cons_zero, List.set_cons_succ]
        refine wpAnyH_take (i := 11) (oi := ⟨some 100, _, _, _, _, _⟩) (v := undef) rfl (by kernel_rfl) (by kernel_rfl) (by kernel_rfl) (fun _ _ _ h => h) (Or.inr ⟨by kernel_rfl, rfl⟩) (by assumption) ?_
        try simp only [Act.put, List.setIfInBounds_toArray, List.set_cons_zero, List.set_cons_succ]
        refine wpAnyH_take (i := 12) (oi := ⟨some 101, _, _, _, _, _⟩) (v := undef) rfl (by kernel_rfl) (by kernel_rfl) (by kernel_rfl) (fun _ _ _ h => h) (Or.inr ⟨by kernel_rfl, rfl⟩) (by assumption) ?_
        try simp only [Act.put, List.setIfInBounds_toArray, List.set_cons_zero, List.set_cons_succ]
        refine wpAnyH_take (i := 13) (oi := ⟨some 102, _, _, _, _, _⟩) (v := undef) rfl (by kernel_rfl) (by kernel_rfl) (by kernel_rfl) (fun _ _ _ h => h) (Or.inr ⟨by kernel_rfl, rfl⟩) (by assumption) ?_
        try simp only [Act.put, List.setIfInBounds_toArray, List.set_cons_zero, List.set_cons_succ]
        refine wpAnyH_take (i := 14) (oi := ⟨some 103, _, _, _, _, _⟩) (v := ?_) rfl (by kernel_rfl) (by kernel_rfl) (by kernel_rfl) (fun _ _ _ h => h) (Or.inl ⟨by kernel_rfl, ?_⟩) (by assumption) ?_
        case refine_2 => (intro w hSw; go_simp; try (with_reducible rfl))
        try simp only [Act.put, List.setIfInBounds_toArray, List.set_cons_zero, List.set_cons_succ]
        refine wpAnyH_take (i := 15) (oi := ⟨some 104, _, _, _, _, _⟩) (v := ?_) rfl (by kernel_rfl) (by kernel_rfl) (by kernel_rfl) (fun _ _ _ h => h) (Or.inl ⟨by kernel_rfl, ?_⟩) (by assumption) ?_
        case refine_2 => (intro w hSw; go_simp; try (with_reducible rfl))
        try simp only [Act.put, List.setIfInBounds_toArray, List.set_cons_zero, List.set_cons_succ]
        refine wpAnyH_take (i := 16) (oi := ⟨some 105, _, _, _, _, _⟩) (v := ?_) rfl (by kernel_rfl) (by kernel_rfl) (by kernel_rfl) (fun _ _ _ h => h) (Or.inl ⟨by kernel_rfl, ?_⟩) (by assumption) ?_
        case refine_2 => (intro w hSw; go_simp; try (with_reducible rfl))
        try simp only [Act.put, List.setIfInBounds_toArray, List.set_cons_zero, List.set_cons_succ]
        refine wpAnyH_take (i := 17) (oi := ⟨some 106, _, _, _, _, _⟩) (v := ?_) rfl (by kernel_rfl) (by kernel_rfl) (by kernel_rfl) (fun _ _ _ h => h) (Or.inl ⟨by kernel_rfl, ?_⟩) (by assumption) ?_
        case refine_2 => (intro w hSw; go_simp; try (with_reducible rfl))
        try simp only [Act.put, List.setIfInBounds_toArray, List.set_cons_zero, List.set_cons_succ]
        refine wpAnyH_take (i := 18) (oi := ⟨some 107, _, _, _, _, _⟩) (v := ?_) rfl (by kernel_rfl) (by kernel_rfl) (by kernel_rfl) (fun _ _ _ h => h) (Or.inl ⟨by kernel_rfl, ?_⟩) (by assumption) ?_
        case refine_2 => (intro w hSw; go_simp; try (with_reducible rfl))
        try simp only [Act.put, List.setIfInBounds_toArray, List.set_cons_zero, List.set_cons_succ]
        refine wpAnyH_take (i := 19) (oi := ⟨some 108, _, _, _, _, _⟩) (v := ?_) rfl (by kernel_rfl) (by kernel_rfl) (by kernel_rfl) (fun _ _ _ h => h) (Or.inl ⟨by kernel_rfl, ?_⟩) (by assumption) ?_
        case refine_2 => (intro w hSw; go_simp; try (with_reducible rfl))
        try simp only [Act.put, List.setIfInBounds_toArray, List.set_cons_zero, List.set_cons_succ]
        refine wpAnyH_take (i := 20) (oi := ⟨some 109, _, _, _, _, _⟩) (v := ?_) rfl (by kernel_rfl) (by kernel_rfl) (by kernel_rfl) (fun _ _ _ h => h) (Or.inl ⟨by kernel_rfl, ?_⟩) (by assumption) ?_
        case refine_2 => (intro w hSw; go_simp; try (with_reducible rfl))
        try simp only [Act.put, List.setIfInBounds_toArray, List.set_cons_zero, List.set_cons_succ]
        refine wpAnyH_take (i := 21) (oi := ⟨some 110, _, _, _, _, _⟩) (v := ?_) rfl (by kernel_rfl) (by kernel_rfl) (by kernel_rfl) (fun _ _ _ h => h) (Or.inl ⟨by kernel_rfl, ?_⟩) (by assumption) ?_
        case refine_2 => (intro w hSw; go_simp; try (with_reducible rfl))
        try simp only [Act.put, List.setIfInBounds_toArray, List.set_cons_zero, List.set_cons_succ]
        refine wpAnyH_take (i := 22) (oi := ⟨some 111, _, _, _, _, _⟩) (v := ?_) rfl (by kernel_rfl) (by kernel_rfl) (by kernel_rfl) (fun _ _ _ h => h) (Or.inl ⟨by kernel_rfl, ?_⟩) (by assumption) ?_
        case refine_2 => (intro w hSw; go_simp; try (with_reducible rfl))
        try simp only [Act.put, List.setIfInBounds_toArray, List.set_cons_zero, List.set_cons_succ]
        refine wpAnyH_take (i := 23) (oi := ⟨some 112, _, _, _, _, _⟩) (v := ?_) rfl (by kernel_rfl) (by kernel_rfl) (by kernel_rfl) (fun _ _ _ h => h) (Or.inl ⟨by kernel_rfl, ?_⟩) (by assumption) ?_
        case refine_2 => (intro w hSw; go_simp; try (with_reducible rfl))
        try simp only [Act.put, List.setIfInBounds_toArray, List.set_cons_zero, List.set_cons_succ]
        refine wpAnyH_take (i := 24) (oi := ⟨some 113, _, _, _, _, _⟩) (v := ?_) rfl (by kernel_rfl) (by kernel_rfl) (by kernel_rfl) (fun _ _ _ h => h) (Or.inl ⟨by kernel_rfl, ?_⟩) (by assumption) ?_
        case refine_2 => (intro w hSw; have y1 := (hSw.cell (p := ⟨b4', o4 + j, none⟩) hbl4).trans hc4; have y2 := (hSw.cell (p := ⟨b6', o6 + k, none⟩) hbl6).trans hc6; go_simp; try (with_reducible rfl))
        try simp only [Act.put, List.setIfInBounds_toArray, List.set_cons_zero, List.set_cons_succ]
        refine wpAnyH_take (i := 25) (oi := ⟨some 114, _, _, _, _, _⟩) (v := ?_) rfl (by kernel_rfl) (by kernel_rfl) (by kernel_rfl) (fun _ _ _ h => h) (Or.inl ⟨by kernel_rfl, ?_⟩) (by assumption) ?_
        case refine_2 => (intro w hSw; go_simp; try (with_reducible rfl))
        try simp only [Act.put, List.setIfInBounds_toArray, List.set_cons_zero, List.set_cons_succ]
        refine wpAnyH_take (i := 26) (oi := ⟨some 115, _, _, _, _, _⟩) (v := ?_) rfl (by kernel_rfl) (by kernel_rfl) (by kernel_rfl) (fun _ _ _ h => h) (Or.inl ⟨by kernel_rfl, ?_⟩) (by assumption) ?_
        case refine_2 => (intro w hSw; go_simp; try (with_reducible rfl))
        try simp only [Act.put, List.setIfInBounds_toArray, List.set_cons_zero, List.set_cons_succ]
        refine wpAnyH_take (i := 27) (oi := ⟨some 116, _, _, _, _, _⟩) (v := ?_) rfl (by kernel_rfl) (by kernel_rfl) (by kernel_rfl) (fun _ _ _ h => h) (Or.inl ⟨by kernel_rfl, ?_⟩) (by assumption) ?_
        case refine_2 => (intro w hSw; go_simp; try (with_reducible rfl))
        try simp only [Act.put, List.setIfInBounds_toArray, List.set_cons_zero, List.set_cons_succ]
        refine wpAnyH_take (i := 28) (oi := ⟨some 117, _, _, _, _, _⟩) (v := ?_) rfl (by kernel_rfl) (by kernel_rfl) (by kernel_rfl) (fun _ _ _ h => h) (Or.inl ⟨by kernel_rfl, ?_⟩) (by assumption) ?_
        case refine_2 => (intro w hSw; go_simp; try (with_reducible rfl))
        try simp only [Act.put, List.setIfInBounds_toArray, List.set_cons_zero, List.set_cons_succ]
        refine wpAnyH_take (i := 29) (oi := ⟨some 118, _, _, _, _, _⟩) (v := ?_) rfl (by kernel_rfl) (by kernel_rfl) (by kernel_rfl) (fun _ _ _ h => h) (Or.inl ⟨by kernel_rfl, ?_⟩) (by assumption) ?_
        case refine_2 => (intro w hSw; go_simp; try (with_reducible rfl))
        try simp only [Act.put, List.setIfInBounds_toArray, List.set_cons_zero, List.set_cons_succ]
        refine wpAnyH_take (i := 30) (oi := ⟨some 119, _, _, _, _, _⟩) (v := ?_) rfl (by kernel_rfl) (by kernel_rfl) (by kernel_rfl) (fun _ _ _ h => h) (Or.inl ⟨by kernel_rfl, ?_⟩) (by assumption) ?_
        case refine_2 => (intro w hSw; go_simp; try (with_reducible rfl))
        try simp only [Act.put, List.setIfInBounds_toArray, List.set_cons_zero, List.set_cons_succ]
        refine wpAnyH_take (i := 31) (oi := ⟨some 120, _, _, _, _, _⟩) (v := ?_) rfl (by kernel_rfl) (by kernel_rfl) (by kernel_rfl) (fun _ _ _ h => h) (Or.inl ⟨by kernel_rfl, ?_⟩) (by assumption) ?_
        case refine_2 => (intro w hSw; have y1 := (hSw.cell (p := ⟨b4', o4 + j, none⟩) hbl4).trans hc4; have y2 := (hSw.cell (p := ⟨b6', o6 + k, none⟩) hbl6).trans hc6; go_simp; try (with_reducible rfl))
        try simp only [Act.put, List.setIfInBounds_toArray, List.set_cons_zero, List.set_cons_succ]
        refine wpAnyH_take (i := 32) (oi := ⟨some 121, _, _, _, _, _⟩) (v := ?_) rfl (by kernel_rfl) (by kernel_rfl) (by kernel_rfl) (fun _ _ _ h => h) (Or.inl ⟨by kernel_rfl, ?_⟩) (by assumption) ?_
        case refine_2 => (intro w hSw; go_simp; try (with_reducible rfl))
        try simp only [Act.put, List.setIfInBounds_toArray, List.set_cons_zero, List.set_cons_succ]
        refine wpAnyH_take (i := 33) (oi := ⟨some 122, _, _, _, _, _⟩) (v := ?_) rfl (by kernel_rfl) (by kernel_rfl) (by kernel_rfl) (fun _ _ _ h => h) (Or.inl ⟨by kernel_rfl, ?_⟩) (by assumption) ?_
        case refine_2 => (intro w hSw; go_simp; try (with_reducible rfl))
        try simp only [Act.put, List.setIfInBounds_toArray, List.set_cons_zero, List.set_cons_succ]
        refine wpAnyH_take (i := 34) (oi := ⟨some 123, _, _, _, _, _⟩) (v := ?_) rfl (by kernel_rfl) (by kernel_rfl) (by kernel_rfl) (fun _ _ _ h => h) (Or.inl ⟨by kernel_rfl, ?_⟩) (by assumption) ?_
        case refine_2 => (intro w hSw; go_simp; try (with_reducible rfl))
        try simp only [Act.put, List.setIfInBounds_toArray, List.set_cons_zero, List.set_cons_succ]
        refine wpAnyH_take (i := 35) (oi := ⟨some 124, _, _, _, _, _⟩) (v := ?_) rfl (by kernel_rfl) (by kernel_rfl) (by kernel_rfl) (fun _ _ _ h => h) (Or.inl ⟨by kernel_rfl, ?_⟩) (by assumption) ?_
        case refine_2 => (intro w hSw; go_simp; try (with_reducible rfl))
        try simp only [Act.put, List.setIfInBounds_toArray, List.set_cons_zero, List.set_cons_succ]
        refine wpAnyH_take (i := 36) (oi := ⟨some 125, _, _, _, _, _⟩) (v := ?_) rfl (by kernel_rfl) (by kernel_rfl) (by kernel_rfl) (fun _ _ _ h => h) (Or.inl ⟨by kernel_rfl, ?_⟩) (by assumption) ?_
        case refine_2 => (intro w hSw; go_simp; try (with_reducible rfl))
        try simp only [Act.put, List.setIfInBounds_toArray, List.set_cons_zero, List.set_cons_succ]
        refine wpAnyH_take (i := 37) (oi := ⟨some 126, _, _, _, _, _⟩) (v := ?_) rfl (by kernel_rfl) (by kernel_rfl) (by kernel_rfl) (fun _ _ _ h => h) (Or.inl ⟨by kernel_rfl, ?_⟩) (by assumption) ?_
        case refine_2 => (intro w hSw; go_simp; try (with_reducible rfl))
        try simp only [Act.put, List.setIfInBounds_toArray, List.set_cons_zero, List.set_cons_succ]
        refine wpAnyH_done (by kernel_rfl) ?_ _
        clear hHeld
        have hbd := hA
        have HV := Lib.hid (And.intro (HJ.out.1 _ _ HR.out.1 hbd) (And.intro (HR.out.2.1.kept hbd) (And.intro (HR.out.2.2.1.kept hbd) (HR.out.2.2.2.kept hbd))))
        clear hA hbd hund hc4 hc6
        go_wp2
        go_roundw
        case rel => first | exact ⟨j + 1, by omega, by go_num, HV.out⟩ | ((repeat apply Exists.intro); exact ⟨⟨j + 1, by omega, by go_num, HV.out⟩, rfl⟩)
        case measure => simp [intOf]; omega
    · obtain rfl : l0 = j := by omega
      have r1 : ¬ (l0 : Int) < (l0 : Int) := by omega
      have r2 : IntKind.i64.wrap ((N1 : Int) + (N2 : Int)) = (N : Int) := by have := HI.out.2.2.2.2.2.2.1; rw [show (N1 : Int) + (N2 : Int) = (N : Int) by omega]; exact IntWalk.i64_in _ (by omega)
      have r3 : IntKind.i64.wrap ((Y1 : Int) + (Y2 : Int)) = (Y : Int) := by have := HI.out.2.2.2.2.2.2.2; rw [show (Y1 : Int) + (Y2 : Int) = (Y : Int) by omega]; exact IntWalk.i64_in _ (by omega)
      have r4 : ((N : Int) == (N : Int)) = true := by simp
      have r5 : ((Y : Int) == (Y : Int)) = true := by simp
      clear hN4 hN5 hN6 hls
      go_upto_region 23 with fail
      have hA := hJr
      try simp only [List.append_eq, List.cons_append, List.nil_append]
      refine wp_region_held_drew (S := fun w' => J w') (by kernel_rfl) ((HJ.out.1 _ _ hA ((Below.refl _ _).drew))) (fun hHeld => ?_)
      replace hA := (HJ.out.1 _ _ hA ((Below.refl _ _).drew))
      refine wpAnyH_take (i := 0) (oi := ⟨some 127, _, _, _, _, _⟩) (v := ?_) rfl (by kernel_rfl) (by kernel_rfl) (by kernel_rfl) (fun _ _ _ h => h) (Or.inl ⟨by kernel_rfl, ?_⟩) (by assumption) ?_
      case refine_2 => (intro w hSw; go_simp; try (with_reducible rfl))
      try simp only [Act.put, List.setIfInBounds_toArray, List.set_cons_zero, List.set_cons_succ]
      refine wpAnyH_take (i := 1) (oi := ⟨some 128, _, _, _, _, _⟩) (v := ?_) rfl (by kernel_rfl) (by kernel_rfl) (by kernel_rfl) (fun _ _ _ h => h) (Or.inl ⟨by kernel_rfl, ?_⟩) (by assumption) ?_
      case refine_2 => (intro w hSw; go_simp; try (with_reducible rfl))
      try simp only [Act.put, List.setIfInBounds_toArray, List.set_cons_zero, List.set_cons_succ]
      refine wpAnyH_take (i := 2) (oi := ⟨some 129, _, _, _, _, _⟩) rfl (by kernel_rfl) (by kernel_rfl) (by kernel_rfl) (fun _ _ _ h => h) (yieldsIf_load_mid (by kernel_rfl) 40 _ rfl _ 0 rfl _ _ (fun w hw => VX.range (HJ.out.2.2.2.1 _ hw)) Tryz.underlying40 rfl (by kernel_rfl)) (by assumption) ?_
      try simp only [Act.put, List.setIfInBounds_toArray, List.set_cons_zero, List.set_cons_succ]
      refine wpAnyH_take (i := 3) (oi := ⟨some 130, _, _, _, _, _⟩) (v := ?_) rfl (by kernel_rfl) (by kernel_rfl) (by kernel_rfl) (fun _ _ _ h => h) (Or.inl ⟨by kernel_rfl, ?_⟩) (by assumption) ?_
      case refine_2 => (intro w hSw; go_simp; try (with_reducible rfl))
      try simp only [Act.put, List.setIfInBounds_toArray, List.set_cons_zero, List.set_cons_succ]
      refine wpAnyH_take (i := 5) (oi := ⟨some 132, _, _, _, _, _⟩) rfl (by kernel_rfl) (by kernel_rfl) (by kernel_rfl) (fun _ _ _ h => h) (yieldsIf_load_mid (by kernel_rfl) 40 _ rfl _ 0 rfl _ _ (fun w hw => VX.range (HJ.out.2.1 _ hw)) Tryz.underlying40 rfl (by kernel_rfl)) (by assumption) ?_
      try simp only [Act.put, List.setIfInBounds_toArray, List.set_cons_zero, List.set_cons_succ]
      refine wpAnyH_take (i := 6) (oi := ⟨some 133, _, _, _, _, _⟩) (v := ?_) rfl (by kernel_rfl) (by kernel_rfl) (by kernel_rfl) (fun _ _ _ h => h) (Or.inl ⟨by kernel_rfl, ?_⟩) (by assumption) ?_
      case refine_2 => (intro w hSw; go_simp; try (with_reducible rfl))
      try simp only [Act.put, List.setIfInBounds_toArray, List.set_cons_zero, List.set_cons_succ]
      refine wpAnyH_take (i := 8) (oi := ⟨some 135, _, _, _, _, _⟩) rfl (by kernel_rfl) (by kernel_rfl) (by kernel_rfl) (fun _ _ _ h => h) (yieldsIf_load_mid (by kernel_rfl) 40 _ rfl _ 0 rfl _ _ (fun w hw => VX.range (HJ.out.2.2.1 _ hw)) Tryz.underlying40 rfl (by kernel_rfl)) (by assumption) ?_
      try simp only [Act.put, List.setIfInBounds_toArray, List.set_cons_zero, List.set_cons_succ]
      refine wpAnyH_take (i := 9) (oi := ⟨some 136, _, _, _, _, _⟩) (v := ?_) rfl (by kernel_rfl) (by kernel_rfl) (by kernel_rfl) (fun _ _ _ h => h) (Or.inl ⟨by kernel_rfl, ?_⟩) (by assumption) ?_
      case refine_2 => (intro w hSw; go_simp; try (with_reducible rfl))
      try simp only [Act.put, List.setIfInBounds_toArray, List.set_cons_zero, List.set_cons_succ]
      refine wpAnyH_ready (rs := [4]) (by kernel_rfl) (by simp) ?_
      refine AllReadyH.cons rfl (fun K hK => ?_) AllReadyH.nil
      go_simp
      (with_reducible refine (HC.out.2.2.2.2.1 _ hA).mono ?_)
      rintro e u ⟨rfl, hb, -⟩
      replace hA := HJ.out.1 _ _ hA hb
      clear hb
      clear hHeld
      refine hK.out _ _ (hA) (fun hHeld => ?_)
      clear hK K
      try simp only [Act.put, List.setIfInBounds_toArray, List.set_cons_zero, List.set_cons_succ]
      refine wpAnyH_ready (rs := [7]) (by kernel_rfl) (by simp) ?_
      refine AllReadyH.cons rfl (fun K hK => ?_) AllReadyH.nil
      go_simp
      (with_reducible refine (HC.out.2.2.2.2.2.1 _ hA).mono ?_)
      rintro e u ⟨rfl, hb, -⟩
      replace hA := HJ.out.1 _ _ hA hb
      clear hb
      clear hHeld
      refine hK.out _ _ (hA) (fun hHeld => ?_)
      clear hK K
      try simp only [Act.put, List.setIfInBounds_toArray, List.set_cons_zero, List.set_cons_succ]
      refine wpAnyH_ready (rs := [10]) (by kernel_rfl) (by simp) ?_
      refine AllReadyH.cons rfl (fun K hK => ?_) AllReadyH.nil
      go_simp
      (with_reducible refine (HC.out.2.2.2.2.2.2.1 _ hA).mono ?_)
      rintro e u ⟨rfl, hb, -⟩
      replace hA := HJ.out.1 _ _ hA hb
      clear hb
      clear hHeld
      refine hK.out _ _ (hA) (fun hHeld => ?_)
      clear hK K
      try simp only [Act.put, List.setIfInBounds_toArray, List.set_cons_zero, List.set_cons_succ]
      refine wpAnyH_take (i := 11) (oi := ⟨some 138, _, _, _, _, _⟩) (v := ?_) rfl (by kernel_rfl) (by kernel_rfl) (by kernel_rfl) (fun _ _ _ h => h) (Or.inl ⟨by kernel_rfl, ?_⟩) (by assumption) ?_
      case refine_2 => (intro w hSw; go_simp; try (with_reducible rfl))
      try simp only [Act.put, List.setIfInBounds_toArray, List.set_cons_zero, List.set_cons_succ]
      refine wpAnyH_take (i := 12) (oi := ⟨some 139, _, _, _, _, _⟩) (v := ?_) rfl (by kernel_rfl) (by kernel_rfl) (by kernel_rfl) (fun _ _ _ h => h) (Or.inl ⟨by kernel_rfl, ?_⟩) (by assumption) ?_
      case refine_2 => (intro w hSw; go_simp; try (with_reducible rfl))
      try simp only [Act.put, List.setIfInBounds_toArray, List.set_cons_zero, List.set_cons_succ]
      refine wpAnyH_take (i := 13) (oi := ⟨some 140, _, _, _, _, _⟩) (v := ?_) rfl (by kernel_rfl) (by kernel_rfl) (by kernel_rfl) (fun _ _ _ h => h) (Or.inl ⟨by kernel_rfl, ?_⟩) (by assumption) ?_
      case refine_2 => (intro w hSw; go_simp; try (with_reducible rfl))
      try simp only [Act.put, List.setIfInBounds_toArray, List.set_cons_zero, List.set_cons_succ]
      refine wpAnyH_take (i := 14) (oi := ⟨some 141, _, _, _, _, _⟩) (v := ?_) rfl (by kernel_rfl) (by kernel_rfl) (by kernel_rfl) (fun _ _ _ h => h) (Or.inl ⟨by kernel_rfl, ?_⟩) (by assumption) ?_
      case refine_2 => (intro w hSw; go_simp; try (with_reducible rfl))
      try simp only [Act.put, List.setIfInBounds_toArray, List.set_cons_zero, List.set_cons_succ]
      refine wpAnyH_take (i := 15) (oi := ⟨some 142, _, _, _, _, _⟩) rfl (by kernel_rfl) (by kernel_rfl) (by kernel_rfl) (fun _ _ _ h => h) (yieldsIf_load_mid (by kernel_rfl) 40 _ rfl _ 0 rfl _ _ (fun w hw => VX.range (HJ.out.2.2.2.1 _ hw)) Tryz.underlying40 rfl (by kernel_rfl)) (by assumption) ?_
      try simp only [Act.put, List.setIfInBounds_toArray, List.set_cons_zero, List.set_cons_succ]
      refine wpAnyH_take (i := 17) (oi := ⟨some 144, _, _, _, _, _⟩) rfl (by kernel_rfl) (by kernel_rfl) (by kernel_rfl) (fun _ _ _ h => h) (yieldsIf_load_mid (by kernel_rfl) 40 _ rfl _ 0 rfl _ _ (fun w hw => VX.range (HJ.out.2.1 _ hw)) Tryz.underlying40 rfl (by kernel_rfl)) (by assumption) ?_
      try simp only [Act.put, List.setIfInBounds_toArray, List.set_cons_zero, List.set_cons_succ]
      refine wpAnyH_take (i := 19) (oi := ⟨some 146, _, _, _, _, _⟩) rfl (by kernel_rfl) (by kernel_rfl) (by kernel_rfl) (fun _ _ _ h => h) (yieldsIf_load_mid (by kernel_rfl) 40 _ rfl _ 0 rfl _ _ (fun w hw => VX.range (HJ.out.2.2.1 _ hw)) Tryz.underlying40 rfl (by kernel_rfl)) (by assumption) ?_
      try simp only [Act.put, List.setIfInBounds_toArray, List.set_cons_zero, List.set_cons_succ]
      refine wpAnyH_ready (rs := [16]) (by kernel_rfl) (by simp) ?_
      refine AllReadyH.cons rfl (fun K hK => ?_) AllReadyH.nil
      go_simp
      (with_reducible refine (HC.out.2.2.2.2.2.2.2.1 _ hA).mono ?_)
      rintro e u ⟨rfl, hb⟩
      replace hA := HJ.out.1 _ _ hA hb
      clear hb
      clear hHeld
      refine hK.out _ _ (hA) (fun hHeld => ?_)
      clear hK K
      try simp only [Act.put, List.setIfInBounds_toArray, List.set_cons_zero, List.set_cons_succ]
      refine wpAnyH_ready (rs := [18]) (by kernel_rfl) (by simp) ?_
      refine AllReadyH.cons rfl (fun K hK => ?_) AllReadyH.nil
      go_simp
      (with_reducible refine (HC.out.2.2.2.2.2.2.2.2.1 _ hA).mono ?_)
      rintro e u ⟨rfl, hb⟩
      replace hA := HJ.out.1 _ _ hA hb
      clear hb
      clear hHeld
      refine hK.out _ _ (hA) (fun hHeld => ?_)
      clear hK K
      try simp only [Act.put, List.setIfInBounds_toArray, List.set_cons_zero, List.set_cons_succ]
      refine wpAnyH_ready (rs := [20]) (by kernel_rfl) (by simp) ?_
      refine AllReadyH.cons rfl (fun K hK => ?_) AllReadyH.nil
      go_simp
      (with_reducible refine (HC.out.2.2.2.2.2.2.2.2.2 _ hA).mono ?_)
      rintro e u ⟨rfl, hb⟩
      replace hA := HJ.out.1 _ _ hA hb
      clear hb
      clear hHeld
      refine hK.out _ _ (hA) (fun hHeld => ?_)
      clear hK K
      try simp only [Act.put, List.setIfInBounds_toArray, List.set_cons_zero, List.set_cons_succ]
      refine wpAnyH_take (i := 21) (oi := ⟨some 148, _, _, _, _, _⟩) (v := ?_) rfl (by kernel_rfl) (by kernel_rfl) (by kernel_rfl) (fun _ _ _ h => h) (Or.inl ⟨by kernel_rfl, ?_⟩) (by assumption) ?_
      case refine_2 => (intro w hSw; go_simp; try (with_reducible rfl))
      try simp only [Act.put, List.setIfInBounds_toArray, List.set_cons_zero, List.set_cons_succ]
      refine wpAnyH_take (i := 22) (oi := ⟨some 149, _, _, _, _, _⟩) (v := ?_) rfl (by kernel_rfl) (by kernel_rfl) (by kernel_rfl) (fun _ _ _ h => h) (Or.inl ⟨by kernel_rfl, ?_⟩) (by assumption) ?_
      case refine_2 => (intro w hSw; go_simp; try (with_reducible rfl))
      try simp only [Act.put, List.setIfInBounds_toArray, List.set_cons_zero, List.set_cons_succ]
      refine wpAnyH_take (i := 23) (oi := ⟨some 150, _, _, _, _, _⟩) (v := ?_) rfl (by kernel_rfl) (by kernel_rfl) (by kernel_rfl) (fun _ _ _ h => h) (Or.inl ⟨by kernel_rfl, ?_⟩) (by assumption) ?_
      case refine_2 => (intro w hSw; go_simp; try (with_reducible rfl))
      try simp only [Act.put, List.setIfInBounds_toArray, List.set_cons_zero, List.set_cons_succ]
      refine wpAnyH_take (i := 24) (oi := ⟨some 6, _, _, _, _, _⟩) (v := ?_) rfl (by kernel_rfl) (by kernel_rfl) (by kernel_rfl) (fun _ _ _ h => h) (Or.inl ⟨by kernel_rfl, ?_⟩) (by assumption) ?_
      case refine_2 => (intro w hSw; go_simp; try (with_reducible rfl))
      try simp only [Act.put, List.setIfInBounds_toArray, List.set_cons_zero, List.set_cons_succ]
      refine wpAnyH_done (by kernel_rfl) ?_ _
      clear hHeld
      have HB := Lib.hid (HJ.out.2.2.2.2 _ hA)
      clear hA
      go_wp2
      go_ret
      exact ⟨rfl, HB.out⟩

end Go.Proofs.YtpnjccomngdblaaGreat
