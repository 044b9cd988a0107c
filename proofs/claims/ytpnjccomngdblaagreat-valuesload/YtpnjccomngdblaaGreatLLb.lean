/- The contract of Load: a row that was sealed. -/
import Derived.Test.YtpnjccomngdblaaGreatLLa
set_option maxRecDepth 100000
namespace Go.Proofs.YtpnjccomngdblaaGreat
open Go.RowKit
open M
attribute [local go_sem ↓] Go.wp_at_zero Go.wp_at_succ

variable {w u w' : World} {b c : Nat} {F : FQ} {E : Option Addr} {ss : List ByteArray} {l : List Int} {s : Nat}
theorem LD.drew {bx r : Nat} (h : LD w bx r F l s u) : LD w bx r F l s u.drew := h.kept ((Below.refl _ _).drew)
theorem MBx.kp {X : Nat → Prop} {u' : World} (h : MBx u b F) (hk : Kp X u u') (hx : ¬ X b) : MBx u' b F := by
  have cl : ∀ o, u'.cell? ⟨b, o, none⟩ = u.cell? ⟨b, o, none⟩ := fun o => hk.cell (p := ⟨b, o, none⟩) h.lt hx
  exact ⟨by rw [cl]; exact h.c0, by rw [cl]; exact h.c1, by rw [cl]; exact h.c2, by rw [cl]; exact h.c3, by rw [cl]; exact h.c4, by rw [cl]; exact h.c5, by rw [cl]; exact h.c6, by rw [cl]; exact h.c7, by rw [cl]; exact h.c8, by rw [cl]; exact h.c9, by rw [cl]; exact h.c10, by rw [cl]; exact h.c11, by rw [cl]; exact h.c12, by rw [cl]; exact h.c13, by rw [cl]; exact h.c14, by rw [cl]; exact h.c15, by rw [cl]; exact h.c16⟩
theorem LD.box {bx r : Nat} (h : LD w bx r F l s u) : MBx u bx F := h.mx.box
set_option linter.unusedSimpArgs false in
set_option maxHeartbeats 8000000 in
theorem vload_ok (h : FMI w F (rowV ss) 257) : Calls Tryz.prog 33 #[.agg #[.int .i64 (F.N : Int), .int .i64 F.Z, .slice F.wa F.wW F.wc, .int .i64 (F.R.n : Int), .slice F.R.a F.R.m F.R.c, .int .i64 (F.R.cn : Int), .int .i64 (F.R.cW : Int), .int .i64 (F.R.cL : Int), .slice F.R.a2 F.R.m2 F.R.c2, .int .i64 (F.S.n : Int), .int .i64 (F.S.W : Int), .int .i64 (F.S.L : Int), .slice F.S.a F.S.m F.S.c, .int .i64 (F.P.n : Int), .int .i64 (F.P.W : Int), .int .i64 (F.P.L : Int), .slice F.P.a F.P.m F.P.c]] w fun e u' => ∃ E c, e = .returned (.tuple #[.agg #[.int .i64 (F.N : Int), .int .i64 F.Z, .slice F.wa F.wW F.wc, .int .i64 (F.R.n : Int), .slice F.R.a F.R.m F.R.c, .int .i64 (F.R.cn : Int), .int .i64 (F.R.cW : Int), .int .i64 (F.R.cL : Int), .slice F.R.a2 F.R.m2 F.R.c2, .int .i64 (F.S.n : Int), .int .i64 (F.S.W : Int), .int .i64 (F.S.L : Int), .slice F.S.a F.S.m F.S.c, .int .i64 (F.P.n : Int), .int .i64 (F.P.W : Int), .int .i64 (F.P.L : Int), .slice F.P.a F.P.m F.P.c, .slice E ss.length c], .int .i64 0]) ∧ VI u' F E ss ∧ Below w.heap.size w u' := by
  have hL := LD.start h
  have hlen := h.len
  have hold := h.wx.old
  obtain ⟨w2, hw2⟩ : ∃ w2, w2 = (w.alloc (.cells #[.int .i64 (F.N : Int), .int .i64 F.Z, .slice F.wa F.wW F.wc, .int .i64 (F.R.n : Int), .slice F.R.a F.R.m F.R.c, .int .i64 (F.R.cn : Int), .int .i64 (F.R.cW : Int), .int .i64 (F.R.cL : Int), .slice F.R.a2 F.R.m2 F.R.c2, .int .i64 (F.S.n : Int), .int .i64 (F.S.W : Int), .int .i64 (F.S.L : Int), .slice F.S.a F.S.m F.S.c, .int .i64 (F.P.n : Int), .int .i64 (F.P.W : Int), .int .i64 (F.P.L : Int), .slice F.P.a F.P.m F.P.c] 37)).alloc (.cells #[.int .i64 0, .int .i64 0, .slice none 0 0, .int .i64 0, .slice none 0 0, .int .i64 0, .int .i64 0, .int .i64 0, .slice none 0 0, .int .i64 0, .int .i64 0, .int .i64 0, .slice none 0 0, .int .i64 0, .int .i64 0, .int .i64 0, .slice none 0 0, .slice none 0 0] 40) := ⟨_, rfl⟩
  rw [← hw2] at hL
  have hsz := fun (u : World) (hu : LD w w.heap.size (w.heap.size + 1) F (rowV ss) 257 u) => fsize_any hu.mx.fm
  have hfl := fun (u : World) (hu : LD w w.heap.size (w.heap.size + 1) F (rowV ss) 257 u) => flen_any hu.mx.fm
  have hen := fun (u : World) (hu : LD w w.heap.size (w.heap.size + 1) F (rowV ss) 257 u) => vended_any hu.mx.fm
  have hfd := fun (u : World) (hu : LD w w.heap.size (w.heap.size + 1) F (rowV ss) 257 u) (D : Nat) (hD : NumsAt .i64 u (some ⟨D, 0, none⟩) [0]) => find_own hu.mx.fm (some ⟨D, 0, none⟩) 1 1 [0] hD rfl (by omega)
  simp only [fnd_end] at hfd
  simp only [endB_row] at hen
  obtain ⟨s, hs⟩ : ∃ s, s = 257 := ⟨_, rfl⟩
  rw [← hs] at hL
  simp only [← hs] at hsz hfl hen hfd
  obtain ⟨n, hln⟩ : ∃ n, (rowV ss).length = n := ⟨_, rfl⟩
  simp only [hln] at hfl hlen
  have HL := Lib.hid hL
  have HC := Lib.hid (And.intro hsz (And.intro hfl (And.intro hen (And.intro hfd (And.intro hold hs)))))
  clear hL hsz hfl hen hfd hln hold h
  have q1 : ((s : Int) != 257) = false := by simp; omega
  have q2 : ¬ (1048576 : Int) < (n : Int) := by omega
  have q3 : (1048576 < (n : Int)) = False := by simp; omega
  clear hs
  go_enter Tryz.func33, Tryz.ntmps33
  go_upto_region 1 with fail
  rw [← hw2]
  clear hw2
  obtain ⟨bx, hbx⟩ : ∃ bx, w.heap.size = bx := ⟨_, rfl⟩
  simp only [hbx] at HL HC ⊢
  have HR := Lib.hid hbx
  clear hbx
  obtain ⟨r, hr⟩ : ∃ r, bx + 1 = r := ⟨_, rfl⟩
  simp only [hr] at HL HC ⊢
  have HR2 := Lib.hid hr
  clear hr
  go_upto_region 3 with (first | (refine load36 HL.out.mx.box _ (by with_reducible rfl) rfl rfl ?_) | (go_at_call 24; (with_reducible refine (HC.out.1 _ HL.out).mono ?_); rintro e z3 ⟨rfl, hb3⟩; have H3 := Lib.hid (HL.out.kept hb3); clear hb3 HL) | (refine load36 H3.out.mx.box _ (by with_reducible rfl) rfl rfl ?_) | (go_at_call 36; (with_reducible refine (HC.out.2.1 _ H3.out).mono ?_); rintro e z4 ⟨rfl, hb4⟩; have H4 := Lib.hid (H3.out.kept hb4); clear hb4 H3) | (refine load36 H4.out.mx.box _ (by with_reducible rfl) rfl rfl ?_) | (go_at_call 57; (with_reducible refine (HC.out.2.2.1 _ H4.out).mono ?_); rintro e z5 ⟨rfl, hb5⟩; have H5 := Lib.hid (H4.out.kept hb5); clear hb5 H4))
  have hA := H5.out

  try simp only [List.append_eq, List.cons_append, List.nil_append]
  refine wp_region_held_drew (S := fun w' => MBx w' bx F) (by kernel_rfl) (hA.drew.box) (fun hHeld => ?_)
  replace hA := hA.drew
  refine wpAnyH_take (i := 0) (oi := ⟨some 18, _, _, _, _, _⟩) rfl (by kernel_rfl) (by kernel_rfl) (by kernel_rfl) (fun _ _ _ h => h) (yieldsIf_load_mid (by kernel_rfl) 37 _ rfl _ 0 rfl _ _ (fun w hw => MBx.range hw) Tryz.underlying37 rfl (by kernel_rfl)) (by assumption) ?_
  try simp only [Act.put, List.setIfInBounds_toArray, List.set_cons_zero, List.set_cons_succ]
  refine wpAnyH_take (i := 1) (oi := ⟨some 19, _, _, _, _, _⟩) rfl (by kernel_rfl) (by kernel_rfl) (by kernel_rfl) (fun _ _ _ h => h) (yieldsIf_load_mid (by kernel_rfl) 37 _ rfl _ 0 rfl _ _ (fun w hw => MBx.range hw) Tryz.underlying37 rfl (by kernel_rfl)) (by assumption) ?_
  try simp only [Act.put, List.setIfInBounds_toArray, List.set_cons_zero, List.set_cons_succ]
  refine wpAnyH_ready (rs := [2]) (by kernel_rfl) (by simp) ?_
  refine AllReadyH.cons rfl (fun K hK => ?_) AllReadyH.nil
  go_simp
  have hn3 : NumsAt .i64 (z5.alloc (.cells #[.int .i64 0] 3)).drew (some ⟨z5.heap.size, 0, none⟩) [0] := (nums_one z5 0).kept ((Below.refl _ _).drew)
  replace hA := (H5.out.kept (al z5 (.cells #[.int .i64 0] 3))).drew
  clear hHeld
  refine hK.out _ _ (hA.box) (fun hHeld => ?_)
  clear hK K
  try simp only [Act.put, List.setIfInBounds_toArray, List.set_cons_zero, List.set_cons_succ]
  refine wpAnyH_ready (rs := [3]) (by kernel_rfl) (by simp) ?_
  refine AllReadyH.cons rfl (fun K hK => ?_) AllReadyH.nil
  go_simp
  (with_reducible refine (HC.out.2.2.2.1 _ hA _ hn3).mono ?_)
  rintro e u8 ⟨v8, rfl, hI8⟩
  have hI9 := hI8.1
  rw [end_len] at hI9
  obtain ⟨E, ec, rfl, hN8, -, -, -, -⟩ := nums_of_own hI9
  have hno := fun (b : Nat) (o : Nat) (e : E = some ⟨b, o, none⟩) => (hI9.lt b (by rw [e]; rfl)).1
  have hrl := hA.ty.lt
  replace hA := hA.kept hI8.2
  clear hI8 hI9
  clear hHeld
  refine hK.out _ _ (hA.box) (fun hHeld => ?_)
  clear hK K
  try simp only [Act.put, List.setIfInBounds_toArray, List.set_cons_zero, List.set_cons_succ]
  refine wpAnyH_take (i := 4) (oi := ⟨some 22, _, _, _, _, _⟩) (v := ?_) rfl (by kernel_rfl) (by kernel_rfl) (by kernel_rfl) (fun _ _ _ h => h) (Or.inl ⟨by kernel_rfl, ?_⟩) (by assumption) ?_
  case refine_2 => (intro w hSw; go_simp; try (with_reducible rfl))
  try simp only [Act.put, List.setIfInBounds_toArray, List.set_cons_zero, List.set_cons_succ]
  refine wpAnyH_ready (rs := [5]) (by kernel_rfl) (by simp) ?_
  refine AllReadyH.cons rfl (fun K hK => ?_) AllReadyH.nil
  refine store40R F E ss.length ec r (.tmp 2) (.tmp 22) ?h1 ?h2 ?h3 ?h4 hA.th ?_
  case h1 => kernel_rfl
  case h2 => kernel_rfl
  case h3 => rfl
  case h4 => rfl
  have hrange := World.rangeAt_setCells_same u8 r 0 [.int .i64 (F.N : Int), .int .i64 F.Z, .slice F.wa F.wW F.wc, .int .i64 (F.R.n : Int), .slice F.R.a F.R.m F.R.c, .int .i64 (F.R.cn : Int), .int .i64 (F.R.cW : Int), .int .i64 (F.R.cL : Int), .slice F.R.a2 F.R.m2 F.R.c2, .int .i64 (F.S.n : Int), .int .i64 (F.S.W : Int), .int .i64 (F.S.L : Int), .slice F.S.a F.S.m F.S.c, .int .i64 (F.P.n : Int), .int .i64 (F.P.W : Int), .int .i64 (F.P.L : Int), .slice F.P.a F.P.m F.P.c, .slice E ss.length ec] hA.th
  have hk := setCells_kp r [.int .i64 (F.N : Int), .int .i64 F.Z, .slice F.wa F.wW F.wc, .int .i64 (F.R.n : Int), .slice F.R.a F.R.m F.R.c, .int .i64 (F.R.cn : Int), .int .i64 (F.R.cW : Int), .int .i64 (F.R.cL : Int), .slice F.R.a2 F.R.m2 F.R.c2, .int .i64 (F.S.n : Int), .int .i64 (F.S.W : Int), .int .i64 (F.S.L : Int), .slice F.S.a F.S.m F.S.c, .int .i64 (F.P.n : Int), .int .i64 (F.P.W : Int), .int .i64 (F.P.L : Int), .slice F.P.a F.P.m F.P.c, .slice E ss.length ec] 0 u8
  have e1 := HR.out
  have e2 := HR2.out
  have hF7 := hA.mx.fm.typs hk (fun b e => ⟨40, by decide, by rw [e]; exact hA.ty⟩) (fun hw p e ek => by have := HC.out.2.2.2.2.1 hw p e; omega)
  have hE7 := NumsAt.kp hN8 hk (fun b o e ek => by have := hno b o e; omega)
  have hb8 : Below w.heap.size w (u8.setCells r 0 [.int .i64 (F.N : Int), .int .i64 F.Z, .slice F.wa F.wW F.wc, .int .i64 (F.R.n : Int), .slice F.R.a F.R.m F.R.c, .int .i64 (F.R.cn : Int), .int .i64 (F.R.cW : Int), .int .i64 (F.R.cL : Int), .slice F.R.a2 F.R.m2 F.R.c2, .int .i64 (F.S.n : Int), .int .i64 (F.S.W : Int), .int .i64 (F.S.L : Int), .slice F.S.a F.S.m F.S.c, .int .i64 (F.P.n : Int), .int .i64 (F.P.W : Int), .int .i64 (F.P.L : Int), .slice F.P.a F.P.m F.P.c, .slice E ss.length ec]) := Below.setCells' (by omega) _ 0 hA.mx.bel
  have hx8 := hA.box.kp hk (by omega)
  have hA := MX.mk hx8 hF7 hb8
  generalize u8.setCells r 0 [.int .i64 (F.N : Int), .int .i64 F.Z, .slice F.wa F.wW F.wc, .int .i64 (F.R.n : Int), .slice F.R.a F.R.m F.R.c, .int .i64 (F.R.cn : Int), .int .i64 (F.R.cW : Int), .int .i64 (F.R.cL : Int), .slice F.R.a2 F.R.m2 F.R.c2, .int .i64 (F.S.n : Int), .int .i64 (F.S.W : Int), .int .i64 (F.S.L : Int), .slice F.S.a F.S.m F.S.c, .int .i64 (F.P.n : Int), .int .i64 (F.P.W : Int), .int .i64 (F.P.L : Int), .slice F.P.a F.P.m F.P.c, .slice E ss.length ec] = u9 at *
  clear hHeld
  refine hK.out _ _ (hA.box) (fun hHeld => ?_)
  clear hK K
  try simp only [Act.put, List.setIfInBounds_toArray, List.set_cons_zero, List.set_cons_succ]
  refine wpAnyH_take (i := 6) (oi := ⟨some 3, _, _, _, _, _⟩) (v := ?_) rfl (by kernel_rfl) (by kernel_rfl) (by kernel_rfl) (fun _ _ _ h => h) (Or.inl ⟨by kernel_rfl, ?_⟩) (by assumption) ?_
  case refine_2 => (intro w hSw; go_simp; try (with_reducible rfl))
  try simp only [Act.put, List.setIfInBounds_toArray, List.set_cons_zero, List.set_cons_succ]
  refine wpAnyH_done (by kernel_rfl) ?_ _
  clear hHeld
  go_wp2_with fail
  refine bodyPost_ret (v := .tuple #[.agg #[.int .i64 (F.N : Int), .int .i64 F.Z, .slice F.wa F.wW F.wc, .int .i64 (F.R.n : Int), .slice F.R.a F.R.m F.R.c, .int .i64 (F.R.cn : Int), .int .i64 (F.R.cW : Int), .int .i64 (F.R.cL : Int), .slice F.R.a2 F.R.m2 F.R.c2, .int .i64 (F.S.n : Int), .int .i64 (F.S.W : Int), .int .i64 (F.S.L : Int), .slice F.S.a F.S.m F.S.c, .int .i64 (F.P.n : Int), .int .i64 (F.P.W : Int), .int .i64 (F.P.L : Int), .slice F.P.a F.P.m F.P.c, .slice E ss.length ec], .int .i64 0]) (results_v2 (b := r) (F := F) Tryz.results33 _ ?hp ?hq hrange) ?hd ?_
  case hp => rfl
  case hq => rfl
  case hd => rfl
  exact ⟨E, ⟨ec, rfl⟩, ⟨by rw [← HC.out.2.2.2.2.2]; exact hF7, hE7⟩, by rw [← HR.out]; exact hb8⟩

end Go.Proofs.YtpnjccomngdblaaGreat
