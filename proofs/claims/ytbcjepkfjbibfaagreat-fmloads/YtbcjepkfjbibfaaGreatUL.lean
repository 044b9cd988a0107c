/- The walk of FmLoads. -/
import Derived.Test.YtbcjepkfjbibfaaGreatUC
set_option maxRecDepth 100000
namespace Go.Proofs.YtbcjepkfjbibfaaGreat
open Go.RowKit
open M
attribute [local go_sem ↓] Go.wp_at_zero Go.wp_at_succ

set_option maxHeartbeats 1000000 in
theorem list_own (a0 : Option Addr) (m cap : Nat) (l : List Bool) (w : World) (h : RowAt w (.slice a0 m cap) l) (hl : l.length ≤ 1000000000) :
    Calls Tryz.prog 21 #[.agg #[.int .i64 (l.length : Int), .slice a0 m cap]] w fun e w' => ∃ v, e = .returned v ∧ w'.ownsRow w.heap.size 4 1 v l.length (l.map Value.bool) ∧ Below w.heap.size w w' := by
  obtain ⟨i0, hi, hz0, hz1, hz2⟩ := info_parts info4
  have hst := fun lb (h1 : w.heap.size ≤ lb) (h2 : w.heap.size ≠ lb) => list_step w w.heap.size lb (.slice a0 m cap) l h hl (by omega) h1 h2
  have HS := Lib.hid hst
  clear hst h
  generalize hn : l.length = n at *
  have HN := Lib.hid hn
  clear hn
  go_enter Tryz.func21, Tryz.ntmps21
  go_wp2_with (first | (at_make; refine wpList_make_own _ rfl _ _ 44 rfl w.heap.size 4 i0 (.bool false) 1 Tryz.underlying44 hi hz0 hz1 _ _ _ n rfl rfl rfl ?b2 ?b3 ?b4 ?_))
  case b2 => rw [hz2]; omega
  case b3 => unfold maxLen; omega
  case b4 => simp
  intro w1 hown hgrow
  have hsz := hgrow.size
  simp only [World.size_alloc] at hsz
  have hlt1 := (hown.lt (w.heap.size + 1) rfl).2
  have hbel : Below w.heap.size w w1 := (((Below.refl _ _).alloc (Nat.le_refl _) _).trans ((below_grown hgrow).mono (by simp)))
  have hbx : w1.cell? ⟨w.heap.size, 1, none⟩ = some (.slice a0 m cap) := by rw [hgrow.cell_far _ (by simp) (by simp)]; simp
  have hlt0 : w.heap.size < w1.heap.size := by omega
  have hb0 : w1.cell? ⟨w.heap.size, 0, none⟩ = some (.int .i64 (n : Int)) := by rw [hgrow.cell_far _ (by simp) (by simp)]; simp
  have hI : ListI w w.heap.size w1.heap.size (.slice a0 m cap) l 0 (w1.alloc (.cells #[.slice (some ⟨w.heap.size + 1, 0, none⟩) 0 n] 44)) := by
    refine ⟨.slice (some ⟨w.heap.size + 1, 0, none⟩) 0 n, ?_, ?_, ?_, ?_, ?_, ?_, ?_, ?_, ?_⟩
    · simp
    · simp
    · simpa using hown.alloc _
    · simp [Value.ownBlock]; omega
    · simp [Value.ownBlock]
    · rw [cell_old _ _ _ _ (by omega)]; exact hbx
    · simp
    · simp; omega
    · exact hbel.alloc (by omega) _
  have HI := Lib.hid (And.intro hI (HS.out w1.heap.size (by omega) (by omega)))
  clear hI hown hgrow hbel hbx HS
  go_wp2_with fail
  refine (eachPiece_int 53 _ _ 0 n _ _ _ ent53 (by omega) hl rfl rfl HI.out.1 HI.out.2).mono ?_
  rintro e w' ⟨rfl, v, r1, r2, r3, r4, r5, r6, r7, r8, r9⟩
  have R3 := Lib.hid r3
  have R9 := Lib.hid r9
  clear r3 r9 r4 r5 r6
  go_wp2
  go_ret
  have e2 : l.length = n := HN.out
  subst e2
  refine ⟨v, rfl, ?_, R9.out⟩
  have := R3.out
  rw [List.take_length] at this
  exact this

section
variable {w u : World} {F : FQ} {l : List Int} {size : Nat}
theorem bel_born (h : Below w.heap.size w u) : Below w.heap.size w (u.alloc (.cells #[.int .i64 0, .int .i64 0, .slice none 0 0, .int .i64 0, .slice none 0 0, .int .i64 0, .int .i64 0, .int .i64 0, .slice none 0 0, .int .i64 0, .int .i64 0, .int .i64 0, .slice none 0 0, .int .i64 0, .int .i64 0, .int .i64 0, .slice none 0 0] 36)) ∧ (u.alloc (.cells #[.int .i64 0, .int .i64 0, .slice none 0 0, .int .i64 0, .slice none 0 0, .int .i64 0, .int .i64 0, .int .i64 0, .slice none 0 0, .int .i64 0, .int .i64 0, .int .i64 0, .slice none 0 0, .int .i64 0, .int .i64 0, .int .i64 0, .slice none 0 0] 36)).there u.heap.size 0 17 ∧ Typ (u.alloc (.cells #[.int .i64 0, .int .i64 0, .slice none 0 0, .int .i64 0, .slice none 0 0, .int .i64 0, .int .i64 0, .int .i64 0, .slice none 0 0, .int .i64 0, .int .i64 0, .int .i64 0, .slice none 0 0, .int .i64 0, .int .i64 0, .int .i64 0, .slice none 0 0] 36)) u.heap.size 36 ∧ w.heap.size ≤ u.heap.size :=
  ⟨h.trans ((al _ _).mono h.size), there_new u, ⟨_, _, heap_alloc_new u _⟩, h.size⟩
/-- Load of the parts of a row. -/
theorem load_same (h : FMI u F l size) (h1 : 1 ≤ size) : Calls Tryz.prog 37 #[.agg #[.int .i64 (F.N : Int), .int .i64 F.Z, .slice F.wa F.wW F.wc], .agg #[.int .i64 (F.R.n : Int), .slice F.R.a F.R.m F.R.c], .agg #[.int .i64 (F.S.n : Int), .int .i64 (F.S.W : Int), .int .i64 (F.S.L : Int), .slice F.S.a F.S.m F.S.c]] u fun e u' => ∃ F2 : FQ, e = .returned (.tuple #[.agg #[.int .i64 (F2.N : Int), .int .i64 F2.Z, .slice F2.wa F2.wW F2.wc, .int .i64 (F2.R.n : Int), .slice F2.R.a F2.R.m F2.R.c, .int .i64 (F2.R.cn : Int), .int .i64 (F2.R.cW : Int), .int .i64 (F2.R.cL : Int), .slice F2.R.a2 F2.R.m2 F2.R.c2, .int .i64 (F2.S.n : Int), .int .i64 (F2.S.W : Int), .int .i64 (F2.S.L : Int), .slice F2.S.a F2.S.m F2.S.c, .int .i64 (F2.P.n : Int), .int .i64 (F2.P.W : Int), .int .i64 (F2.P.L : Int), .slice F2.P.a F2.P.m F2.P.c], .int .i64 0]) ∧ FMI u' F2 l size ∧ F2.wa = F.wa ∧ F2.wW = F.wW ∧ Below u.heap.size u u' := by
  have := load_row ⟨F.N, F.Z, F.wa, F.wW, F.wc, F.R.n, F.R.a, F.R.m, F.R.c, F.S⟩ l size (mkL l) (smL l) u h.wx (by show l.length + 1 = F.N; rw [h.N]) (by show F.N ≤ 1001; have := h.N; have := h.len; omega) h.sy h1 h.few h.Z h.pw h.rk.row h.rk.len marked_said h.smp
  refine this.mono ?_
  intro e u' hE
  unfold LoadEnd at hE
  rw [if_pos ⟨rfl, by unfold smpOk; rw [decide_eq_true ⟨h.sW.symm, rfl⟩]⟩] at hE
  obtain ⟨⟨F2, h1, h2, h3, h4⟩, hb⟩ := hE
  exact ⟨F2, h1, h2, h3, h4, hb⟩
/-- Load of the wave of a row, and of marks or samples of which one is not its own. -/
theorem load_bad (h : FMI u F l size) (h1 : 1 ≤ size) (nb : Nat) (ma : Option Addr) (mw mc : Nat) (J : IP) (mk : List Bool) (xs : List Int) (hM : RowAt u (.slice ma mw mc) mk) (hnb : mk.length = nb) (hJ : IRow u J.n J.W J.L J.a J.m J.c xs) (hne : mkL l = mk → smL l ≠ xs) :
    Calls Tryz.prog 37 #[.agg #[.int .i64 (F.N : Int), .int .i64 F.Z, .slice F.wa F.wW F.wc], .agg #[.int .i64 (nb : Int), .slice ma mw mc], .agg #[.int .i64 (J.n : Int), .int .i64 (J.W : Int), .int .i64 (J.L : Int), .slice J.a J.m J.c]] u fun e u' => e = .returned (.tuple #[.agg #[.int .i64 0, .int .i64 0, .slice none 0 0, .int .i64 0, .slice none 0 0, .int .i64 0, .int .i64 0, .int .i64 0, .slice none 0 0, .int .i64 0, .int .i64 0, .int .i64 0, .slice none 0 0, .int .i64 0, .int .i64 0, .int .i64 0, .slice none 0 0], .int .i64 10]) ∧ Below u.heap.size u u' := by
  have := load_row ⟨F.N, F.Z, F.wa, F.wW, F.wc, nb, ma, mw, mc, J⟩ l size mk xs u h.wx (by show l.length + 1 = F.N; rw [h.N]) (by show F.N ≤ 1001; have := h.N; have := h.len; omega) h.sy h1 h.few h.Z h.pw hM hnb marked_said hJ
  refine this.mono ?_
  intro e u' hE
  unfold LoadEnd at hE
  rw [if_neg (fun hh => by
    have h2 := hh.2
    unfold smpOk at h2
    rw [decide_eq_true_eq] at h2
    exact hne hh.1 h2.2)] at hE
  exact hE
end

theorem flip_ne {l : List Bool} {k : Nat} (hk : k < l.length) : l ≠ l.set k (!l.getD k false) := fun e => by
  have := congrArg (fun x => x.getD k false) e
  simp only [List.getD_eq_getElem?_getD, List.getElem?_set_self hk, Option.getD_some] at this
  cases h : l[k]?.getD false <;> rw [h] at this <;> cases this
theorem more_ne {l : List Int} {k : Nat} (hk : k < l.length) : l ≠ l.set k (l.getD k 0 + 1) := fun e => by
  have := congrArg (fun x => x.getD k 0) e
  simp only [List.getD_eq_getElem?_getD, List.getElem?_set_self hk, Option.getD_some] at this
  omega
theorem smL_pos (l : List Int) : 1 ≤ (smL l).length := by
  obtain ⟨r, hr⟩ := smN_more l 1 l.length
  have h1 : smN l 1 = [(l.length : Int)] := by
    rw [smN_succ, plA_zero]
    unfold mkB smN
    simp
  have : smL l = smN l (1 + l.length) := by unfold smL; rw [Nat.add_comm]
  rw [this, hr, h1]
  simp
theorem exL_100 (L : List Int) (h : L.length ≤ 100) : exL L 0 100 = L := by
  unfold exL
  have : lo L.length 0 = 0 := lo_at L.length 0 (by omega)
  rw [this, List.drop_zero, List.take_of_length_le (by show L.length ≤ 100; exact h)]
/-- A place brought among m. -/
theorem turn_in (x : Int) (m : Nat) (h : 1 ≤ m) (hm : m ≤ 1000) : IntKind.i64.wrap (x.tmod (m : Int) + (m : Int)) = x.tmod (m : Int) + (m : Int) ∧ ∃ a : Nat, a < m ∧ (x.tmod (m : Int) + (m : Int)).tmod (m : Int) = (a : Int) := by
  have t1 := Int.tmod_lt_of_pos x (b := (m : Int)) (by omega)
  have t2 := Int.lt_tmod_of_pos x (b := (m : Int)) (by omega)
  obtain ⟨y, hy⟩ : ∃ y, x.tmod (m : Int) = y := ⟨_, rfl⟩
  rw [hy] at t1 t2 ⊢
  have u1 := Int.tmod_lt_of_pos (y + (m : Int)) (b := (m : Int)) (by omega)
  have u2 := Int.tmod_nonneg (a := y + (m : Int)) (m : Int) (by omega)
  exact ⟨IntWalk.i64_in _ (by omega), ((y + (m : Int)).tmod (m : Int)).toNat, by omega, by omega⟩

/-- The same, with the row that was loaded in its box. -/
structure YG (w w3 : World) (bx : Nat) (F : FQ) (L : List Int) (s : Nat) (B : Option Addr) (g : Nat) (F2 : FQ) (u : World) : Prop where
  lg : LG9 w w3 bx F L s B u
  bx2 : MBx u g F2
  fm2 : FMI u F2 L s
theorem YG.kept {w w3 u u' : World} {bx s g : Nat} {F F2 : FQ} {L : List Int} {B : Option Addr} (h : YG w w3 bx F L s B g F2 u) (hb : Below u.heap.size u u') : YG w w3 bx F L s B g F2 u' :=
  ⟨h.lg.kept hb, h.bx2.kept hb, h.fm2.kept hb⟩

set_option linter.unusedSimpArgs false in
set_option maxHeartbeats 8000000 in
theorem loads_walk (A : Option Addr) (n0 c0 : Nat) (xs : List Int) (sz at_ : Int) (w : World) (hA : NumsAt .i64 w A xs) (hx : xs.length = n0) :
    Calls Tryz.prog 6 #[.slice A n0 c0, .int .i64 sz, .int .i64 at_] w fun e w' => e = .returned (.bool true) ∧ Below w.heap.size w w' := by
  have HX := Lib.hid (And.intro hA hx)
  clear hA hx
  go_enter Tryz.func6, Tryz.ntmps6
  go_wp2_with fail
  (with_reducible refine (awake_any _).mono ?_)
  rintro e u1 ⟨rfl, hb⟩
  have H5 := Lib.hid hb
  clear hb
  have hsy := symbols_any A n0 c0 xs sz u1 (HX.out.1.kept H5.out) HX.out.2
  have HS := Lib.hid hsy
  clear hsy
  go_wp2_with fail
  (with_reducible refine HS.out.mono ?_)
  rintro e u2 ⟨v, rfl, hI⟩
  obtain ⟨B, bc, rfl, hB, hbc, hsh⟩ := own_at hI
  obtain ⟨h1, h2, h3⟩ := kind8_in sz
  have hll := cutL_len (kind8 sz) xs (min n0 60) (by rw [HX.out.2]; omega)
  have hin := cutL_in (kind8 sz) xs (min n0 60) (by omega)
  obtain ⟨L, hL⟩ : ∃ L, cutL (kind8 sz) xs (min n0 60) = L := ⟨_, rfl⟩
  obtain ⟨s, hs⟩ : ∃ s, kind8 sz = s := ⟨_, rfl⟩
  rw [hL] at hB hll hin hbc ⊢
  rw [hs] at hin h1 h2 ⊢
  obtain ⟨n, hn⟩ : ∃ n, L.length = n := ⟨_, rfl⟩
  rw [hn] at hll hbc ⊢
  have hn60 : n ≤ 60 := by omega
  have hb2 := H5.out.trans (hI.2.mono H5.out.size)
  have hnw := fnew_any marked_said B n bc L s u2 hB hn (by omega) h1 (by omega) hin
  have HN := Lib.hid (And.intro hnw (And.intro hB (And.intro hb2 (And.intro hin (And.intro hn h1)))))
  have hsz : s ≤ 8 := h2
  clear hI hB hll hin hL hs hn hb2 hnw h1 h2 h3 H5 HS hsh hbc
  go_wp2_with fail
  (with_reducible refine HN.out.1.mono ?_)
  rintro e u3 ⟨F, rfl, hF, hb⟩
  have hb3 := HN.out.2.2.1.trans (hb.mono HN.out.2.2.1.size)
  have hB3 := HN.out.2.1.kept hb
  have hm3 := MX.boxed (w := u3) hF (Below.refl _ _)
  go_upto_region 4 with fail
  have hba := mbel u3 F
  obtain ⟨u4, hu4⟩ : ∃ u4, u3.alloc (.cells #[.int .i64 (F.N : Int), .int .i64 F.Z, .slice F.wa F.wW F.wc, .int .i64 (F.R.n : Int), .slice F.R.a F.R.m F.R.c, .int .i64 (F.R.cn : Int), .int .i64 (F.R.cW : Int), .int .i64 (F.R.cL : Int), .slice F.R.a2 F.R.m2 F.R.c2, .int .i64 (F.S.n : Int), .int .i64 (F.S.W : Int), .int .i64 (F.S.L : Int), .slice F.S.a F.S.m F.S.c, .int .i64 (F.P.n : Int), .int .i64 (F.P.W : Int), .int .i64 (F.P.L : Int), .slice F.P.a F.P.m F.P.c] 36) = u4 := ⟨_, rfl⟩
  rw [hu4] at hm3 hba
  rw [hu4]
  obtain ⟨bx, hbx⟩ : ∃ bx, u3.heap.size = bx := ⟨_, rfl⟩
  rw [hbx] at hm3
  simp only [hbx]
  have hG : LG9 w u3 bx F L s B u4 := ⟨hm3, hb3.trans (hba.mono hb3.size), hB3.kept hba, Nat.le_trans hb3.size hba.size⟩
  have H4 := Lib.hid hG
  have HL := Lib.hid HN.out.2.2.2.2
  clear hF hb hb3 hB3 hm3 hba hu4 hbx hG HN HX
  go_upto_region 6 with fail
  go_cut [12, 13] from 40 to 49 (fun v12 v13 wx => ∃ (g : Nat) (F2 : FQ), v12 = .pointer (some ⟨g, 0, none⟩) ∧ v13 = .int .i64 0 ∧ YG w u3 bx F L s B g F2 wx)
  case first =>
    have hA := Below.refl u4.heap.size u4
    try simp only [List.append_eq, List.cons_append, List.nil_append]
    refine wp_region_held_drew (S := fun w' => Below u4.heap.size u4 w') (by kernel_rfl) (hA.drew) (fun hHeld => ?_)
    replace hA := hA.drew
    refine wpAnyH_take (i := 0) (oi := ⟨some 41, _, _, _, _, _⟩) rfl (by kernel_rfl) (by kernel_rfl) (by kernel_rfl) (fun _ _ _ h => h) (yieldsIf_load_mid (by kernel_rfl) 36 _ rfl _ 0 rfl _ _ (fun w hw => MBx.range (H4.out.mx.box.kept hw)) Tryz.underlying36 rfl (by kernel_rfl)) (by assumption) ?_
    try simp only [Act.put, List.setIfInBounds_toArray, List.set_cons_zero, List.set_cons_succ]
    refine wpAnyH_take (i := 2) (oi := ⟨some 43, _, _, _, _, _⟩) rfl (by kernel_rfl) (by kernel_rfl) (by kernel_rfl) (fun _ _ _ h => h) (yieldsIf_load_mid (by kernel_rfl) 36 _ rfl _ 0 rfl _ _ (fun w hw => MBx.range (H4.out.mx.box.kept hw)) Tryz.underlying36 rfl (by kernel_rfl)) (by assumption) ?_
    try simp only [Act.put, List.setIfInBounds_toArray, List.set_cons_zero, List.set_cons_succ]
    refine wpAnyH_take (i := 4) (oi := ⟨some 45, _, _, _, _, _⟩) rfl (by kernel_rfl) (by kernel_rfl) (by kernel_rfl) (fun _ _ _ h => h) (yieldsIf_load_mid (by kernel_rfl) 36 _ rfl _ 0 rfl _ _ (fun w hw => MBx.range (H4.out.mx.box.kept hw)) Tryz.underlying36 rfl (by kernel_rfl)) (by assumption) ?_
    try simp only [Act.put, List.setIfInBounds_toArray, List.set_cons_zero, List.set_cons_succ]
    refine wpAnyH_ready (rs := [1, 10]) (by kernel_rfl) (by simp) ?_
    refine AllReadyH.cons rfl (fun K hK => ?_) (AllReadyH.cons rfl (fun K hK => ?_) AllReadyH.nil)
    · go_simp
      (with_reducible refine (gwave_any F _).mono ?_)
      rintro e u ⟨rfl, hb⟩
      try replace hth := there_kp hth hty.lt (Below.kp hb) (fun h => h)
      try replace hty := hty.kept hb
      try replace hrw := hrw.kept hb
      replace hA := hA.trans (hb.mono hA.size)
      clear hb
      clear hHeld
      refine hK.out _ _ (hA) (fun hHeld => ?_)
      clear hK K
      try simp only [Act.put, List.setIfInBounds_toArray, List.set_cons_zero, List.set_cons_succ]
      refine wpAnyH_ready (rs := [3, 10]) (by kernel_rfl) (by simp) ?_
      refine AllReadyH.cons rfl (fun K hK => ?_) (AllReadyH.cons rfl (fun K hK => ?_) AllReadyH.nil)
      · go_simp
        (with_reducible refine (gmarks_any F _).mono ?_)
        rintro e u ⟨rfl, hb⟩
        try replace hth := there_kp hth hty.lt (Below.kp hb) (fun h => h)
        try replace hty := hty.kept hb
        try replace hrw := hrw.kept hb
        replace hA := hA.trans (hb.mono hA.size)
        clear hb
        clear hHeld
        refine hK.out _ _ (hA) (fun hHeld => ?_)
        clear hK K
        try simp only [Act.put, List.setIfInBounds_toArray, List.set_cons_zero, List.set_cons_succ]
        refine wpAnyH_ready (rs := [5, 10]) (by kernel_rfl) (by simp) ?_
        refine AllReadyH.cons rfl (fun K hK => ?_) (AllReadyH.cons rfl (fun K hK => ?_) AllReadyH.nil)
        · go_simp
          (with_reducible refine (gsamples_any F _).mono ?_)
          rintro e u ⟨rfl, hb⟩
          try replace hth := there_kp hth hty.lt (Below.kp hb) (fun h => h)
          try replace hty := hty.kept hb
          try replace hrw := hrw.kept hb
          replace hA := hA.trans (hb.mono hA.size)
          clear hb
          clear hHeld
          refine hK.out _ _ (hA) (fun hHeld => ?_)
          clear hK K
          try simp only [Act.put, List.setIfInBounds_toArray, List.set_cons_zero, List.set_cons_succ]
          refine wpAnyH_ready (rs := [6, 10]) (by kernel_rfl) (by simp) ?_
          refine AllReadyH.cons rfl (fun K hK => ?_) (AllReadyH.cons rfl (fun K hK => ?_) AllReadyH.nil)
          · go_simp
            (with_reducible refine (load_same (H4.out.mx.fm.kept hA) HL.out.2).mono ?_)
            rintro e u ⟨F2, rfl, hF2, hFa, hFW, hb⟩
            have HFW := Lib.hid (And.intro hFa hFW)
            clear hFa hFW
            try replace hth := there_kp hth hty.lt (Below.kp hb) (fun h => h)
            try replace hty := hty.kept hb
            try replace hrw := hrw.kept hb
            replace hA := hA.trans (hb.mono hA.size)
            clear hb
            clear hHeld
            refine hK.out _ _ (hA) (fun hHeld => ?_)
            clear hK K
            try simp only [Act.put, List.setIfInBounds_toArray, List.set_cons_zero, List.set_cons_succ]
            refine wpAnyH_take (i := 7) (oi := ⟨some 40, _, _, _, _, _⟩) (v := ?_) rfl (by kernel_rfl) (by kernel_rfl) (by kernel_rfl) (fun _ _ _ h => h) (Or.inl ⟨by kernel_rfl, ?_⟩) (by assumption) ?_
            case refine_2 => (intro w hSw; go_simp; try (with_reducible rfl))
            try simp only [Act.put, List.setIfInBounds_toArray, List.set_cons_zero, List.set_cons_succ]
            refine wpAnyH_take (i := 8) (oi := ⟨some 48, _, _, _, _, _⟩) (v := ?_) rfl (by kernel_rfl) (by kernel_rfl) (by kernel_rfl) (fun _ _ _ h => h) (Or.inl ⟨by kernel_rfl, ?_⟩) (by assumption) ?_
            case refine_2 => (intro w hSw; go_simp; try (with_reducible rfl))
            try simp only [Act.put, List.setIfInBounds_toArray, List.set_cons_zero, List.set_cons_succ]
            refine wpAnyH_take (i := 9) (oi := ⟨some 49, _, _, _, _, _⟩) (v := ?_) rfl (by kernel_rfl) (by kernel_rfl) (by kernel_rfl) (fun _ _ _ h => h) (Or.inl ⟨by kernel_rfl, ?_⟩) (by assumption) ?_
            case refine_2 => (intro w hSw; go_simp; try (with_reducible rfl))
            try simp only [Act.put, List.setIfInBounds_toArray, List.set_cons_zero, List.set_cons_succ]
            refine wpAnyH_ready (rs := [10]) (by kernel_rfl) (by simp) ?_
            refine AllReadyH.cons rfl (fun K hK => ?_) AllReadyH.nil
            go_simp
            obtain ⟨hA', hth, hty, hgr⟩ := bel_born hA
            replace hA := hA'
            clear hA'
            try replace hF2 := hF2.kept (al _ (.cells #[.int .i64 0, .int .i64 0, .slice none 0 0, .int .i64 0, .slice none 0 0, .int .i64 0, .int .i64 0, .int .i64 0, .slice none 0 0, .int .i64 0, .int .i64 0, .int .i64 0, .slice none 0 0, .int .i64 0, .int .i64 0, .int .i64 0, .slice none 0 0] 36))
            try replace hrw := hrw.kept (al _ (.cells #[.int .i64 0, .int .i64 0, .slice none 0 0, .int .i64 0, .slice none 0 0, .int .i64 0, .int .i64 0, .int .i64 0, .slice none 0 0, .int .i64 0, .int .i64 0, .int .i64 0, .slice none 0 0, .int .i64 0, .int .i64 0, .int .i64 0, .slice none 0 0] 36))
            try simp only [drew_alloc, drew_size] at hA hth hty hgr
            try simp only [drew_alloc, drew_size] at hF2
            try simp only [drew_alloc, drew_size] at hrw
            clear hHeld
            refine hK.out _ _ (hA) (fun hHeld => ?_)
            clear hK K
            try simp only [Act.put, List.setIfInBounds_toArray, List.set_cons_zero, List.set_cons_succ]
            refine wpAnyH_ready (rs := [11]) (by kernel_rfl) (by simp) ?_
            refine AllReadyH.cons rfl (fun K hK => ?_) AllReadyH.nil
            refine store36R F2 _ _ _ (by rfl) rfl rfl rfl hth ?_
            have hbx := MBx.stored F2 hth
            replace hA := bel_box hgr F2 hA
            have hF3 := hF2.box hty F2 (fun h p e ek => by have := H4.out.mx.fm.wx.old (by rw [← HFW.out.2]; exact h) p (by rw [← HFW.out.1]; exact e); omega)
            clear hth hty hF2 HFW
            clear hHeld
            refine hK.out _ _ (hA) (fun hHeld => ?_)
            clear hK K
            try simp only [Act.put, List.setIfInBounds_toArray, List.set_cons_zero, List.set_cons_succ]
            refine wpAnyH_take (i := 12) (oi := ⟨some 13, _, _, _, _, _⟩) (v := ?_) rfl (by kernel_rfl) (by kernel_rfl) (by kernel_rfl) (fun _ _ _ h => h) (Or.inl ⟨by kernel_rfl, ?_⟩) (by assumption) ?_
            case refine_2 => (intro w hSw; go_simp; try (with_reducible rfl))
            try simp only [Act.put, List.setIfInBounds_toArray, List.set_cons_zero, List.set_cons_succ]
            refine wpAnyH_done (by kernel_rfl) ?_ _
            clear hHeld
            have HE := Lib.hid (show YG w u3 bx F L s B _ F2 _ from ⟨H4.out.kept hA, hbx, hF3⟩)
            clear hA hbx hF3 hgr
            go_wp2
            go_meet
            exact ⟨_, F2, rfl, rfl, HE.out⟩
          · go_simp
            obtain ⟨hA', hth, hty, hgr⟩ := bel_born hA
            replace hA := hA'
            clear hA'
            try replace hF2 := hF2.kept (al _ (.cells #[.int .i64 0, .int .i64 0, .slice none 0 0, .int .i64 0, .slice none 0 0, .int .i64 0, .int .i64 0, .int .i64 0, .slice none 0 0, .int .i64 0, .int .i64 0, .int .i64 0, .slice none 0 0, .int .i64 0, .int .i64 0, .int .i64 0, .slice none 0 0] 36))
            try replace hrw := hrw.kept (al _ (.cells #[.int .i64 0, .int .i64 0, .slice none 0 0, .int .i64 0, .slice none 0 0, .int .i64 0, .int .i64 0, .int .i64 0, .slice none 0 0, .int .i64 0, .int .i64 0, .int .i64 0, .slice none 0 0, .int .i64 0, .int .i64 0, .int .i64 0, .slice none 0 0] 36))
            try simp only [drew_alloc, drew_size] at hA hth hty hgr
            try simp only [drew_alloc, drew_size] at hF2
            try simp only [drew_alloc, drew_size] at hrw
            clear hHeld
            refine hK.out _ _ (hA) (fun hHeld => ?_)
            clear hK K
            try simp only [Act.put, List.setIfInBounds_toArray, List.set_cons_zero, List.set_cons_succ]
            refine wpAnyH_ready (rs := [6]) (by kernel_rfl) (by simp) ?_
            refine AllReadyH.cons rfl (fun K hK => ?_) AllReadyH.nil
            go_simp
            (with_reducible refine (load_same (H4.out.mx.fm.kept hA) HL.out.2).mono ?_)
            rintro e u ⟨F2, rfl, hF2, hFa, hFW, hb⟩
            have HFW := Lib.hid (And.intro hFa hFW)
            clear hFa hFW
            try replace hth := there_kp hth hty.lt (Below.kp hb) (fun h => h)
            try replace hty := hty.kept hb
            try replace hrw := hrw.kept hb
            replace hA := hA.trans (hb.mono hA.size)
            clear hb
            clear hHeld
            refine hK.out _ _ (hA) (fun hHeld => ?_)
            clear hK K
            try simp only [Act.put, List.setIfInBounds_toArray, List.set_cons_zero, List.set_cons_succ]
            refine wpAnyH_take (i := 7) (oi := ⟨some 40, _, _, _, _, _⟩) (v := ?_) rfl (by kernel_rfl) (by kernel_rfl) (by kernel_rfl) (fun _ _ _ h => h) (Or.inl ⟨by kernel_rfl, ?_⟩) (by assumption) ?_
            case refine_2 => (intro w hSw; go_simp; try (with_reducible rfl))
            try simp only [Act.put, List.setIfInBounds_toArray, List.set_cons_zero, List.set_cons_succ]
            refine wpAnyH_take (i := 8) (oi := ⟨some 48, _, _, _, _, _⟩) (v := ?_) rfl (by kernel_rfl) (by kernel_rfl) (by kernel_rfl) (fun _ _ _ h => h) (Or.inl ⟨by kernel_rfl, ?_⟩) (by assumption) ?_
            case refine_2 => (intro w hSw; go_simp; try (with_reducible rfl))
            try simp only [Act.put, List.setIfInBounds_toArray, List.set_cons_zero, List.set_cons_succ]
            refine wpAnyH_take (i := 9) (oi := ⟨some 49, _, _, _, _, _⟩) (v := ?_) rfl (by kernel_rfl) (by kernel_rfl) (by kernel_rfl) (fun _ _ _ h => h) (Or.inl ⟨by kernel_rfl, ?_⟩) (by assumption) ?_
            case refine_2 => (intro w hSw; go_simp; try (with_reducible rfl))
            try simp only [Act.put, List.setIfInBounds_toArray, List.set_cons_zero, List.set_cons_succ]
            refine wpAnyH_ready (rs := [11]) (by kernel_rfl) (by simp) ?_
            refine AllReadyH.cons rfl (fun K hK => ?_) AllReadyH.nil
            refine store36R F2 _ _ _ (by rfl) rfl rfl rfl hth ?_
            have hbx := MBx.stored F2 hth
            replace hA := bel_box hgr F2 hA
            have hF3 := hF2.box hty F2 (fun h p e ek => by have := H4.out.mx.fm.wx.old (by rw [← HFW.out.2]; exact h) p (by rw [← HFW.out.1]; exact e); omega)
            clear hth hty hF2 HFW
            clear hHeld
            refine hK.out _ _ (hA) (fun hHeld => ?_)
            clear hK K
            try simp only [Act.put, List.setIfInBounds_toArray, List.set_cons_zero, List.set_cons_succ]
            refine wpAnyH_take (i := 12) (oi := ⟨some 13, _, _, _, _, _⟩) (v := ?_) rfl (by kernel_rfl) (by kernel_rfl) (by kernel_rfl) (fun _ _ _ h => h) (Or.inl ⟨by kernel_rfl, ?_⟩) (by assumption) ?_
            case refine_2 => (intro w hSw; go_simp; try (with_reducible rfl))
            try simp only [Act.put, List.setIfInBounds_toArray, List.set_cons_zero, List.set_cons_succ]
            refine wpAnyH_done (by kernel_rfl) ?_ _
            clear hHeld
            have HE := Lib.hid (show YG w u3 bx F L s B _ F2 _ from ⟨H4.out.kept hA, hbx, hF3⟩)
            clear hA hbx hF3 hgr
            go_wp2
            go_meet
            exact ⟨_, F2, rfl, rfl, HE.out⟩
        · go_simp
          obtain ⟨hA', hth, hty, hgr⟩ := bel_born hA
          replace hA := hA'
          clear hA'
          try replace hF2 := hF2.kept (al _ (.cells #[.int .i64 0, .int .i64 0, .slice none 0 0, .int .i64 0, .slice none 0 0, .int .i64 0, .int .i64 0, .int .i64 0, .slice none 0 0, .int .i64 0, .int .i64 0, .int .i64 0, .slice none 0 0, .int .i64 0, .int .i64 0, .int .i64 0, .slice none 0 0] 36))
          try replace hrw := hrw.kept (al _ (.cells #[.int .i64 0, .int .i64 0, .slice none 0 0, .int .i64 0, .slice none 0 0, .int .i64 0, .int .i64 0, .int .i64 0, .slice none 0 0, .int .i64 0, .int .i64 0, .int .i64 0, .slice none 0 0, .int .i64 0, .int .i64 0, .int .i64 0, .slice none 0 0] 36))
          try simp only [drew_alloc, drew_size] at hA hth hty hgr
          try simp only [drew_alloc, drew_size] at hF2
          try simp only [drew_alloc, drew_size] at hrw
          clear hHeld
          refine hK.out _ _ (hA) (fun hHeld => ?_)
          clear hK K
          try simp only [Act.put, List.setIfInBounds_toArray, List.set_cons_zero, List.set_cons_succ]
          refine wpAnyH_ready (rs := [5]) (by kernel_rfl) (by simp) ?_
          refine AllReadyH.cons rfl (fun K hK => ?_) AllReadyH.nil
          go_simp
          (with_reducible refine (gsamples_any F _).mono ?_)
          rintro e u ⟨rfl, hb⟩
          try replace hth := there_kp hth hty.lt (Below.kp hb) (fun h => h)
          try replace hty := hty.kept hb
          try replace hrw := hrw.kept hb
          replace hA := hA.trans (hb.mono hA.size)
          clear hb
          clear hHeld
          refine hK.out _ _ (hA) (fun hHeld => ?_)
          clear hK K
          try simp only [Act.put, List.setIfInBounds_toArray, List.set_cons_zero, List.set_cons_succ]
          refine wpAnyH_ready (rs := [6]) (by kernel_rfl) (by simp) ?_
          refine AllReadyH.cons rfl (fun K hK => ?_) AllReadyH.nil
          go_simp
          (with_reducible refine (load_same (H4.out.mx.fm.kept hA) HL.out.2).mono ?_)
          rintro e u ⟨F2, rfl, hF2, hFa, hFW, hb⟩
          have HFW := Lib.hid (And.intro hFa hFW)
          clear hFa hFW
          try replace hth := there_kp hth hty.lt (Below.kp hb) (fun h => h)
          try replace hty := hty.kept hb
          try replace hrw := hrw.kept hb
          replace hA := hA.trans (hb.mono hA.size)
          clear hb
          clear hHeld
          refine hK.out _ _ (hA) (fun hHeld => ?_)
          clear hK K
          try simp only [Act.put, List.setIfInBounds_toArray, List.set_cons_zero, List.set_cons_succ]
          refine wpAnyH_take (i := 7) (oi := ⟨some 40, _, _, _, _, _⟩) (v := ?_) rfl (by kernel_rfl) (by kernel_rfl) (by kernel_rfl) (fun _ _ _ h => h) (Or.inl ⟨by kernel_rfl, ?_⟩) (by assumption) ?_
          case refine_2 => (intro w hSw; go_simp; try (with_reducible rfl))
          try simp only [Act.put, List.setIfInBounds_toArray, List.set_cons_zero, List.set_cons_succ]
          refine wpAnyH_take (i := 8) (oi := ⟨some 48, _, _, _, _, _⟩) (v := ?_) rfl (by kernel_rfl) (by kernel_rfl) (by kernel_rfl) (fun _ _ _ h => h) (Or.inl ⟨by kernel_rfl, ?_⟩) (by assumption) ?_
          case refine_2 => (intro w hSw; go_simp; try (with_reducible rfl))
          try simp only [Act.put, List.setIfInBounds_toArray, List.set_cons_zero, List.set_cons_succ]
          refine wpAnyH_take (i := 9) (oi := ⟨some 49, _, _, _, _, _⟩) (v := ?_) rfl (by kernel_rfl) (by kernel_rfl) (by kernel_rfl) (fun _ _ _ h => h) (Or.inl ⟨by kernel_rfl, ?_⟩) (by assumption) ?_
          case refine_2 => (intro w hSw; go_simp; try (with_reducible rfl))
          try simp only [Act.put, List.setIfInBounds_toArray, List.set_cons_zero, List.set_cons_succ]
          refine wpAnyH_ready (rs := [11]) (by kernel_rfl) (by simp) ?_
          refine AllReadyH.cons rfl (fun K hK => ?_) AllReadyH.nil
          refine store36R F2 _ _ _ (by rfl) rfl rfl rfl hth ?_
          have hbx := MBx.stored F2 hth
          replace hA := bel_box hgr F2 hA
          have hF3 := hF2.box hty F2 (fun h p e ek => by have := H4.out.mx.fm.wx.old (by rw [← HFW.out.2]; exact h) p (by rw [← HFW.out.1]; exact e); omega)
          clear hth hty hF2 HFW
          clear hHeld
          refine hK.out _ _ (hA) (fun hHeld => ?_)
          clear hK K
          try simp only [Act.put, List.setIfInBounds_toArray, List.set_cons_zero, List.set_cons_succ]
          refine wpAnyH_take (i := 12) (oi := ⟨some 13, _, _, _, _, _⟩) (v := ?_) rfl (by kernel_rfl) (by kernel_rfl) (by kernel_rfl) (fun _ _ _ h => h) (Or.inl ⟨by kernel_rfl, ?_⟩) (by assumption) ?_
          case refine_2 => (intro w hSw; go_simp; try (with_reducible rfl))
          try simp only [Act.put, List.setIfInBounds_toArray, List.set_cons_zero, List.set_cons_succ]
          refine wpAnyH_done (by kernel_rfl) ?_ _
          clear hHeld
          have HE := Lib.hid (show YG w u3 bx F L s B _ F2 _ from ⟨H4.out.kept hA, hbx, hF3⟩)
          clear hA hbx hF3 hgr
          go_wp2
          go_meet
          exact ⟨_, F2, rfl, rfl, HE.out⟩
      · go_simp
        obtain ⟨hA', hth, hty, hgr⟩ := bel_born hA
        replace hA := hA'
        clear hA'
        try replace hF2 := hF2.kept (al _ (.cells #[.int .i64 0, .int .i64 0, .slice none 0 0, .int .i64 0, .slice none 0 0, .int .i64 0, .int .i64 0, .int .i64 0, .slice none 0 0, .int .i64 0, .int .i64 0, .int .i64 0, .slice none 0 0, .int .i64 0, .int .i64 0, .int .i64 0, .slice none 0 0] 36))
        try replace hrw := hrw.kept (al _ (.cells #[.int .i64 0, .int .i64 0, .slice none 0 0, .int .i64 0, .slice none 0 0, .int .i64 0, .int .i64 0, .int .i64 0, .slice none 0 0, .int .i64 0, .int .i64 0, .int .i64 0, .slice none 0 0, .int .i64 0, .int .i64 0, .int .i64 0, .slice none 0 0] 36))
        try simp only [drew_alloc, drew_size] at hA hth hty hgr
        try simp only [drew_alloc, drew_size] at hF2
        try simp only [drew_alloc, drew_size] at hrw
        clear hHeld
        refine hK.out _ _ (hA) (fun hHeld => ?_)
        clear hK K
        try simp only [Act.put, List.setIfInBounds_toArray, List.set_cons_zero, List.set_cons_succ]
        refine wpAnyH_ready (rs := [3]) (by kernel_rfl) (by simp) ?_
        refine AllReadyH.cons rfl (fun K hK => ?_) AllReadyH.nil
        go_simp
        (with_reducible refine (gmarks_any F _).mono ?_)
        rintro e u ⟨rfl, hb⟩
        try replace hth := there_kp hth hty.lt (Below.kp hb) (fun h => h)
        try replace hty := hty.kept hb
        try replace hrw := hrw.kept hb
        replace hA := hA.trans (hb.mono hA.size)
        clear hb
        clear hHeld
        refine hK.out _ _ (hA) (fun hHeld => ?_)
        clear hK K
        try simp only [Act.put, List.setIfInBounds_toArray, List.set_cons_zero, List.set_cons_succ]
        refine wpAnyH_ready (rs := [5]) (by kernel_rfl) (by simp) ?_
        refine AllReadyH.cons rfl (fun K hK => ?_) AllReadyH.nil
        go_simp
        (with_reducible refine (gsamples_any F _).mono ?_)
        rintro e u ⟨rfl, hb⟩
        try replace hth := there_kp hth hty.lt (Below.kp hb) (fun h => h)
        try replace hty := hty.kept hb
        try replace hrw := hrw.kept hb
        replace hA := hA.trans (hb.mono hA.size)
        clear hb
        clear hHeld
        refine hK.out _ _ (hA) (fun hHeld => ?_)
        clear hK K
        try simp only [Act.put, List.setIfInBounds_toArray, List.set_cons_zero, List.set_cons_succ]
        refine wpAnyH_ready (rs := [6]) (by kernel_rfl) (by simp) ?_
        refine AllReadyH.cons rfl (fun K hK => ?_) AllReadyH.nil
        go_simp
        (with_reducible refine (load_same (H4.out.mx.fm.kept hA) HL.out.2).mono ?_)
        rintro e u ⟨F2, rfl, hF2, hFa, hFW, hb⟩
        have HFW := Lib.hid (And.intro hFa hFW)
        clear hFa hFW
        try replace hth := there_kp hth hty.lt (Below.kp hb) (fun h => h)
        try replace hty := hty.kept hb
        try replace hrw := hrw.kept hb
        replace hA := hA.trans (hb.mono hA.size)
        clear hb
        clear hHeld
        refine hK.out _ _ (hA) (fun hHeld => ?_)
        clear hK K
        try simp only [Act.put, List.setIfInBounds_toArray, List.set_cons_zero, List.set_cons_succ]
        refine wpAnyH_take (i := 7) (oi := ⟨some 40, _, _, _, _, _⟩) (v := ?_) rfl (by kernel_rfl) (by kernel_rfl) (by kernel_rfl) (fun _ _ _ h => h) (Or.inl ⟨by kernel_rfl, ?_⟩) (by assumption) ?_
        case refine_2 => (intro w hSw; go_simp; try (with_reducible rfl))
        try simp only [Act.put, List.setIfInBounds_toArray, List.set_cons_zero, List.set_cons_succ]
        refine wpAnyH_take (i := 8) (oi := ⟨some 48, _, _, _, _, _⟩) (v := ?_) rfl (by kernel_rfl) (by kernel_rfl) (by kernel_rfl) (fun _ _ _ h => h) (Or.inl ⟨by kernel_rfl, ?_⟩) (by assumption) ?_
        case refine_2 => (intro w hSw; go_simp; try (with_reducible rfl))
        try simp only [Act.put, List.setIfInBounds_toArray, List.set_cons_zero, List.set_cons_succ]
        refine wpAnyH_take (i := 9) (oi := ⟨some 49, _, _, _, _, _⟩) (v := ?_) rfl (by kernel_rfl) (by kernel_rfl) (by kernel_rfl) (fun _ _ _ h => h) (Or.inl ⟨by kernel_rfl, ?_⟩) (by assumption) ?_
        case refine_2 => (intro w hSw; go_simp; try (with_reducible rfl))
        try simp only [Act.put, List.setIfInBounds_toArray, List.set_cons_zero, List.set_cons_succ]
        refine wpAnyH_ready (rs := [11]) (by kernel_rfl) (by simp) ?_
        refine AllReadyH.cons rfl (fun K hK => ?_) AllReadyH.nil
        refine store36R F2 _ _ _ (by rfl) rfl rfl rfl hth ?_
        have hbx := MBx.stored F2 hth
        replace hA := bel_box hgr F2 hA
        have hF3 := hF2.box hty F2 (fun h p e ek => by have := H4.out.mx.fm.wx.old (by rw [← HFW.out.2]; exact h) p (by rw [← HFW.out.1]; exact e); omega)
        clear hth hty hF2 HFW
        clear hHeld
        refine hK.out _ _ (hA) (fun hHeld => ?_)
        clear hK K
        try simp only [Act.put, List.setIfInBounds_toArray, List.set_cons_zero, List.set_cons_succ]
        refine wpAnyH_take (i := 12) (oi := ⟨some 13, _, _, _, _, _⟩) (v := ?_) rfl (by kernel_rfl) (by kernel_rfl) (by kernel_rfl) (fun _ _ _ h => h) (Or.inl ⟨by kernel_rfl, ?_⟩) (by assumption) ?_
        case refine_2 => (intro w hSw; go_simp; try (with_reducible rfl))
        try simp only [Act.put, List.setIfInBounds_toArray, List.set_cons_zero, List.set_cons_succ]
        refine wpAnyH_done (by kernel_rfl) ?_ _
        clear hHeld
        have HE := Lib.hid (show YG w u3 bx F L s B _ F2 _ from ⟨H4.out.kept hA, hbx, hF3⟩)
        clear hA hbx hF3 hgr
        go_wp2
        go_meet
        exact ⟨_, F2, rfl, rfl, HE.out⟩
    · go_simp
      obtain ⟨hA', hth, hty, hgr⟩ := bel_born hA
      replace hA := hA'
      clear hA'
      try replace hF2 := hF2.kept (al _ (.cells #[.int .i64 0, .int .i64 0, .slice none 0 0, .int .i64 0, .slice none 0 0, .int .i64 0, .int .i64 0, .int .i64 0, .slice none 0 0, .int .i64 0, .int .i64 0, .int .i64 0, .slice none 0 0, .int .i64 0, .int .i64 0, .int .i64 0, .slice none 0 0] 36))
      try replace hrw := hrw.kept (al _ (.cells #[.int .i64 0, .int .i64 0, .slice none 0 0, .int .i64 0, .slice none 0 0, .int .i64 0, .int .i64 0, .int .i64 0, .slice none 0 0, .int .i64 0, .int .i64 0, .int .i64 0, .slice none 0 0, .int .i64 0, .int .i64 0, .int .i64 0, .slice none 0 0] 36))
      try simp only [drew_alloc, drew_size] at hA hth hty hgr
      try simp only [drew_alloc, drew_size] at hF2
      try simp only [drew_alloc, drew_size] at hrw
      clear hHeld
      refine hK.out _ _ (hA) (fun hHeld => ?_)
      clear hK K
      try simp only [Act.put, List.setIfInBounds_toArray, List.set_cons_zero, List.set_cons_succ]
      refine wpAnyH_ready (rs := [1]) (by kernel_rfl) (by simp) ?_
      refine AllReadyH.cons rfl (fun K hK => ?_) AllReadyH.nil
      go_simp
      (with_reducible refine (gwave_any F _).mono ?_)
      rintro e u ⟨rfl, hb⟩
      try replace hth := there_kp hth hty.lt (Below.kp hb) (fun h => h)
      try replace hty := hty.kept hb
      try replace hrw := hrw.kept hb
      replace hA := hA.trans (hb.mono hA.size)
      clear hb
      clear hHeld
      refine hK.out _ _ (hA) (fun hHeld => ?_)
      clear hK K
      try simp only [Act.put, List.setIfInBounds_toArray, List.set_cons_zero, List.set_cons_succ]
      refine wpAnyH_ready (rs := [3]) (by kernel_rfl) (by simp) ?_
      refine AllReadyH.cons rfl (fun K hK => ?_) AllReadyH.nil
      go_simp
      (with_reducible refine (gmarks_any F _).mono ?_)
      rintro e u ⟨rfl, hb⟩
      try replace hth := there_kp hth hty.lt (Below.kp hb) (fun h => h)
      try replace hty := hty.kept hb
      try replace hrw := hrw.kept hb
      replace hA := hA.trans (hb.mono hA.size)
      clear hb
      clear hHeld
      refine hK.out _ _ (hA) (fun hHeld => ?_)
      clear hK K
      try simp only [Act.put, List.setIfInBounds_toArray, List.set_cons_zero, List.set_cons_succ]
      refine wpAnyH_ready (rs := [5]) (by kernel_rfl) (by simp) ?_
      refine AllReadyH.cons rfl (fun K hK => ?_) AllReadyH.nil
      go_simp
      (with_reducible refine (gsamples_any F _).mono ?_)
      rintro e u ⟨rfl, hb⟩
      try replace hth := there_kp hth hty.lt (Below.kp hb) (fun h => h)
      try replace hty := hty.kept hb
      try replace hrw := hrw.kept hb
      replace hA := hA.trans (hb.mono hA.size)
      clear hb
      clear hHeld
      refine hK.out _ _ (hA) (fun hHeld => ?_)
      clear hK K
      try simp only [Act.put, List.setIfInBounds_toArray, List.set_cons_zero, List.set_cons_succ]
      refine wpAnyH_ready (rs := [6]) (by kernel_rfl) (by simp) ?_
      refine AllReadyH.cons rfl (fun K hK => ?_) AllReadyH.nil
      go_simp
      (with_reducible refine (load_same (H4.out.mx.fm.kept hA) HL.out.2).mono ?_)
      rintro e u ⟨F2, rfl, hF2, hFa, hFW, hb⟩
      have HFW := Lib.hid (And.intro hFa hFW)
      clear hFa hFW
      try replace hth := there_kp hth hty.lt (Below.kp hb) (fun h => h)
      try replace hty := hty.kept hb
      try replace hrw := hrw.kept hb
      replace hA := hA.trans (hb.mono hA.size)
      clear hb
      clear hHeld
      refine hK.out _ _ (hA) (fun hHeld => ?_)
      clear hK K
      try simp only [Act.put, List.setIfInBounds_toArray, List.set_cons_zero, List.set_cons_succ]
      refine wpAnyH_take (i := 7) (oi := ⟨some 40, _, _, _, _, _⟩) (v := ?_) rfl (by kernel_rfl) (by kernel_rfl) (by kernel_rfl) (fun _ _ _ h => h) (Or.inl ⟨by kernel_rfl, ?_⟩) (by assumption) ?_
      case refine_2 => (intro w hSw; go_simp; try (with_reducible rfl))
      try simp only [Act.put, List.setIfInBounds_toArray, List.set_cons_zero, List.set_cons_succ]
      refine wpAnyH_take (i := 8) (oi := ⟨some 48, _, _, _, _, _⟩) (v := ?_) rfl (by kernel_rfl) (by kernel_rfl) (by kernel_rfl) (fun _ _ _ h => h) (Or.inl ⟨by kernel_rfl, ?_⟩) (by assumption) ?_
      case refine_2 => (intro w hSw; go_simp; try (with_reducible rfl))
      try simp only [Act.put, List.setIfInBounds_toArray, List.set_cons_zero, List.set_cons_succ]
      refine wpAnyH_take (i := 9) (oi := ⟨some 49, _, _, _, _, _⟩) (v := ?_) rfl (by kernel_rfl) (by kernel_rfl) (by kernel_rfl) (fun _ _ _ h => h) (Or.inl ⟨by kernel_rfl, ?_⟩) (by assumption) ?_
      case refine_2 => (intro w hSw; go_simp; try (with_reducible rfl))
      try simp only [Act.put, List.setIfInBounds_toArray, List.set_cons_zero, List.set_cons_succ]
      refine wpAnyH_ready (rs := [11]) (by kernel_rfl) (by simp) ?_
      refine AllReadyH.cons rfl (fun K hK => ?_) AllReadyH.nil
      refine store36R F2 _ _ _ (by rfl) rfl rfl rfl hth ?_
      have hbx := MBx.stored F2 hth
      replace hA := bel_box hgr F2 hA
      have hF3 := hF2.box hty F2 (fun h p e ek => by have := H4.out.mx.fm.wx.old (by rw [← HFW.out.2]; exact h) p (by rw [← HFW.out.1]; exact e); omega)
      clear hth hty hF2 HFW
      clear hHeld
      refine hK.out _ _ (hA) (fun hHeld => ?_)
      clear hK K
      try simp only [Act.put, List.setIfInBounds_toArray, List.set_cons_zero, List.set_cons_succ]
      refine wpAnyH_take (i := 12) (oi := ⟨some 13, _, _, _, _, _⟩) (v := ?_) rfl (by kernel_rfl) (by kernel_rfl) (by kernel_rfl) (fun _ _ _ h => h) (Or.inl ⟨by kernel_rfl, ?_⟩) (by assumption) ?_
      case refine_2 => (intro w hSw; go_simp; try (with_reducible rfl))
      try simp only [Act.put, List.setIfInBounds_toArray, List.set_cons_zero, List.set_cons_succ]
      refine wpAnyH_done (by kernel_rfl) ?_ _
      clear hHeld
      have HE := Lib.hid (show YG w u3 bx F L s B _ F2 _ from ⟨H4.out.kept hA, hbx, hF3⟩)
      clear hA hbx hF3 hgr
      go_wp2
      go_meet
      exact ⟨_, F2, rfl, rfl, HE.out⟩
  case rest =>
    obtain ⟨g, F2, rfl, rfl, hY⟩ := hcut
    have H6 := Lib.hid hY
    clear hY H4
    go_wp2_with (refine load36 H6.out.bx2 _ (by with_reducible rfl) rfl rfl ?_)
    (with_reducible refine (extract_any H6.out.fm2 0 100 (by omega) (by omega)).mono ?_)
    rintro e u7 ⟨D, rfl, hD, hb⟩
    rw [exL_100 L (by rw [HL.out.1]; omega)] at hD ⊢
    rw [HL.out.1]
    have h7 := H6.out.kept hb
    have hs := rsame_any (some ⟨D, 0, none⟩) B n n n bc L L u7 hD h7.lg.nums HL.out.1 HL.out.1 (by omega)
    rw [decide_eq_true rfl] at hs
    have H7 := Lib.hid (And.intro hs h7)
    clear hs hD hb h7 H6
    go_wp2_with fail
    (with_reducible refine H7.out.1.mono ?_)
    rintro e u8 ⟨rfl, hb⟩
    have H8 := Lib.hid (H7.out.2.kept hb)
    clear hb H7
    go_wp2_with (refine load36 H8.out.bx2 _ (by with_reducible rfl) rfl rfl ?_)
    (with_reducible refine (fsize_any H8.out.fm2).mono ?_)
    rintro e u9 ⟨rfl, hb⟩
    have H9 := Lib.hid (H8.out.lg.kept hb)
    clear hb H8
    go_wp2_with (refine load36 H9.out.mx.box _ (by with_reducible rfl) rfl rfl ?_)
    (with_reducible refine (gmarks_any F _).mono ?_)
    rintro e u10 ⟨rfl, hb⟩
    have h10 := H9.out.kept hb
    have hli := list_own F.R.a F.R.m F.R.c (mkL L) u10 h10.mx.fm.rk.row (by rw [mkL_len, HL.out.1]; omega)
    rw [h10.mx.fm.rk.len] at hli
    have hRn : F.R.n = n + 1 := by rw [← h10.mx.fm.rk.len, mkL_len, HL.out.1]
    have H10 := Lib.hid (And.intro hli (And.intro h10 hRn))
    clear hb hli h10 hRn H9
    go_wp2_with fail
    (with_reducible refine H10.out.1.mono ?_)
    rintro e u11 ⟨v, rfl, hO, hb⟩
    rw [H10.out.2.2] at hO
    obtain ⟨m, hm⟩ : ∃ m, n + 1 = m := ⟨_, rfl⟩
    rw [hm] at hO
    have hm1 : 1 ≤ m ∧ m ≤ 61 := by omega
    obtain ⟨D, dc, rfl, -⟩ := World.ownsRow.form hO (by omega)
    have hml : (mkL L).length = m := by rw [mkL_len, HL.out.1, hm]
    obtain ⟨t1, k, hk, t2⟩ := turn_in at_ m hm1.1 (by omega)
    have t0 : ((m : Int) == 0) = false := by simp; omega
    have t0' : (m : Int) ≠ 0 := by omega
    obtain ⟨b, hbv⟩ : ∃ b, (mkL L).getD k false = b := ⟨_, rfl⟩
    have ck : u11.cell? ⟨D, k, none⟩ = some (.bool b) := by
      rw [World.ownsRow.cellAt hO k (by omega), ← hbv]
      simp [List.getD_eq_getElem?_getD, show k < (mkL L).length by omega]
    have fk : u11.frozen? ⟨D, k, none⟩ = false := World.ownsRow.frozenAt hO k
    have hDl := hO.lt D rfl
    have hO2 := (World.ownsRow.stored hO k (.bool (!b))).1
    have hb11 := H10.out.2.1.kept hb
    obtain ⟨mk, hmk⟩ : ∃ mk, (mkL L).set k (!b) = mk := ⟨_, rfl⟩
    have hmkl : mk.length = m := by rw [← hmk, List.length_set, hml]
    have hne : mkL L ≠ mk := by rw [← hmk, ← hbv]; exact flip_ne (by omega)
    rw [← List.map_set, hmk] at hO2
    have hB2 : BoolsAt (u11.setCell ⟨D, k, none⟩ (.bool (!b))) (some ⟨D, 0, none⟩) mk := by
      rw [← hmkl] at hO2
      obtain ⟨a', c', e', h'⟩ := bools_of_own hO2
      injection e' with e1 e2 e3
      rw [← e1] at h'
      exact h'
    have hb12 : Below u10.heap.size u10 (u11.setCell ⟨D, k, none⟩ (.bool (!b))) := hb.setCell (p := ⟨D, k, none⟩) hDl.1 _
    have h12 := H10.out.2.1.kept hb12
    have H12 := Lib.hid (And.intro h12 (And.intro hB2 (And.intro hmkl (And.intro hne hm))))
    have q1 : IntKind.i64.wrap ((n : Int) + 1) = (m : Int) := by rw [show (n : Int) + 1 = (m : Int) by omega]; exact IntWalk.i64_in _ (by omega)
    have q2 : (k : Int) < (m : Int) := by omega
    have q3 : (0 : Int) ≤ (k : Int) := by omega
    clear hO hO2 hDl hbv hmk hmkl hne hB2 hb12 h12 hb11 hb hml H10 hm
    go_upto_region 15 with fail
    generalize u11.setCell ⟨D, k, none⟩ (.bool (!b)) = u12 at *
    clear ck fk t0 t0' t1 t2 q1 q2 q3
    have hmkc : ∀ u, Below u12.heap.size u12 u → Calls Tryz.prog 38 #[.slice (some ⟨D, 0, none⟩) m dc] u fun e u' => ∃ ma mw mc, e = .returned (.agg #[.int .i64 (m : Int), .slice ma mw mc]) ∧ RowAt u' (.slice ma mw mc) mk ∧ Below u.heap.size u u' := fun u hb => by
      have := make_any (some ⟨D, 0, none⟩) dc mk u (H12.out.2.1.kept hb) (by rw [H12.out.2.2.1]; omega)
      rw [H12.out.2.2.1] at this
      exact this.mono fun e u' ⟨h1, h2, h3⟩ => ⟨_, _, _, h1, h2, h3⟩
    have hlm : ∀ u ma mw mc, Below u12.heap.size u12 u → RowAt u (.slice ma mw mc) mk → Calls Tryz.prog 37 #[.agg #[.int .i64 (F.N : Int), .int .i64 F.Z, .slice F.wa F.wW F.wc], .agg #[.int .i64 (m : Int), .slice ma mw mc], .agg #[.int .i64 (F.S.n : Int), .int .i64 (F.S.W : Int), .int .i64 (F.S.L : Int), .slice F.S.a F.S.m F.S.c]] u fun e u' => e = .returned (.tuple #[.agg #[.int .i64 0, .int .i64 0, .slice none 0 0, .int .i64 0, .slice none 0 0, .int .i64 0, .int .i64 0, .int .i64 0, .slice none 0 0, .int .i64 0, .int .i64 0, .int .i64 0, .slice none 0 0, .int .i64 0, .int .i64 0, .int .i64 0, .slice none 0 0], .int .i64 10]) ∧ Below u.heap.size u u' := fun u ma mw mc hb hr =>
      load_bad (H12.out.1.mx.fm.kept hb) HL.out.2 m ma mw mc F.S mk (smL L) hr H12.out.2.2.1 (H12.out.1.mx.fm.kept hb).smp (fun e => absurd e H12.out.2.2.2.1)
    have HQ := Lib.hid (And.intro hmkc hlm)
    clear hmkc hlm
    go_cut [17, 18] from 93 to 102 (fun _ v18 wx => v18 = .int .i64 10 ∧ LG9 w u3 bx F L s B wx)
    case first =>
      have hA := Below.refl u12.heap.size u12
      try simp only [List.append_eq, List.cons_append, List.nil_append]
      refine wp_region_held_drew (S := fun w' => Below u12.heap.size u12 w') (by kernel_rfl) (hA.drew) (fun hHeld => ?_)
      replace hA := hA.drew
      refine wpAnyH_take (i := 0) (oi := ⟨some 94, _, _, _, _, _⟩) rfl (by kernel_rfl) (by kernel_rfl) (by kernel_rfl) (fun _ _ _ h => h) (yieldsIf_load_mid (by kernel_rfl) 36 _ rfl _ 0 rfl _ _ (fun w hw => MBx.range (H12.out.1.mx.box.kept hw)) Tryz.underlying36 rfl (by kernel_rfl)) (by assumption) ?_
      try simp only [Act.put, List.setIfInBounds_toArray, List.set_cons_zero, List.set_cons_succ]
      refine wpAnyH_take (i := 2) (oi := ⟨some 96, _, _, _, _, _⟩) (v := ?_) rfl (by kernel_rfl) (by kernel_rfl) (by kernel_rfl) (fun _ _ _ h => h) (Or.inl ⟨by kernel_rfl, ?_⟩) (by assumption) ?_
      case refine_2 => (intro w hSw; go_simp; try (with_reducible rfl))
      try simp only [Act.put, List.setIfInBounds_toArray, List.set_cons_zero, List.set_cons_succ]
      refine wpAnyH_take (i := 4) (oi := ⟨some 98, _, _, _, _, _⟩) rfl (by kernel_rfl) (by kernel_rfl) (by kernel_rfl) (fun _ _ _ h => h) (yieldsIf_load_mid (by kernel_rfl) 36 _ rfl _ 0 rfl _ _ (fun w hw => MBx.range (H12.out.1.mx.box.kept hw)) Tryz.underlying36 rfl (by kernel_rfl)) (by assumption) ?_
      try simp only [Act.put, List.setIfInBounds_toArray, List.set_cons_zero, List.set_cons_succ]
      refine wpAnyH_ready (rs := [1, 10]) (by kernel_rfl) (by simp) ?_
      refine AllReadyH.cons rfl (fun K hK => ?_) (AllReadyH.cons rfl (fun K hK => ?_) AllReadyH.nil)
      · go_simp
        (with_reducible refine (gwave_any F _).mono ?_)
        rintro e u ⟨rfl, hb⟩
        try replace hth := there_kp hth hty.lt (Below.kp hb) (fun h => h)
        try replace hty := hty.kept hb
        try replace hrw := hrw.kept hb
        replace hA := hA.trans (hb.mono hA.size)
        clear hb
        clear hHeld
        refine hK.out _ _ (hA) (fun hHeld => ?_)
        clear hK K
        try simp only [Act.put, List.setIfInBounds_toArray, List.set_cons_zero, List.set_cons_succ]
        refine wpAnyH_ready (rs := [3, 10]) (by kernel_rfl) (by simp) ?_
        refine AllReadyH.cons rfl (fun K hK => ?_) (AllReadyH.cons rfl (fun K hK => ?_) AllReadyH.nil)
        · go_simp
          (with_reducible refine (HQ.out.1 _ hA).mono ?_)
          rintro e u ⟨ma, mw, mc, rfl, hrw, hb⟩
          try replace hth := there_kp hth hty.lt (Below.kp hb) (fun h => h)
          try replace hty := hty.kept hb
          try replace hrw := hrw.kept hb
          replace hA := hA.trans (hb.mono hA.size)
          clear hb
          clear hHeld
          refine hK.out _ _ (hA) (fun hHeld => ?_)
          clear hK K
          try simp only [Act.put, List.setIfInBounds_toArray, List.set_cons_zero, List.set_cons_succ]
          refine wpAnyH_ready (rs := [5, 10]) (by kernel_rfl) (by simp) ?_
          refine AllReadyH.cons rfl (fun K hK => ?_) (AllReadyH.cons rfl (fun K hK => ?_) AllReadyH.nil)
          · go_simp
            (with_reducible refine (gsamples_any F _).mono ?_)
            rintro e u ⟨rfl, hb⟩
            try replace hth := there_kp hth hty.lt (Below.kp hb) (fun h => h)
            try replace hty := hty.kept hb
            try replace hrw := hrw.kept hb
            replace hA := hA.trans (hb.mono hA.size)
            clear hb
            clear hHeld
            refine hK.out _ _ (hA) (fun hHeld => ?_)
            clear hK K
            try simp only [Act.put, List.setIfInBounds_toArray, List.set_cons_zero, List.set_cons_succ]
            refine wpAnyH_ready (rs := [6, 10]) (by kernel_rfl) (by simp) ?_
            refine AllReadyH.cons rfl (fun K hK => ?_) (AllReadyH.cons rfl (fun K hK => ?_) AllReadyH.nil)
            · go_simp
              (with_reducible refine (HQ.out.2 _ _ _ _ hA hrw).mono ?_)
              rintro e u ⟨rfl, hb⟩
              clear hrw
              try replace hth := there_kp hth hty.lt (Below.kp hb) (fun h => h)
              try replace hty := hty.kept hb
              try replace hrw := hrw.kept hb
              replace hA := hA.trans (hb.mono hA.size)
              clear hb
              clear hHeld
              refine hK.out _ _ (hA) (fun hHeld => ?_)
              clear hK K
              try simp only [Act.put, List.setIfInBounds_toArray, List.set_cons_zero, List.set_cons_succ]
              refine wpAnyH_take (i := 7) (oi := ⟨some 93, _, _, _, _, _⟩) (v := ?_) rfl (by kernel_rfl) (by kernel_rfl) (by kernel_rfl) (fun _ _ _ h => h) (Or.inl ⟨by kernel_rfl, ?_⟩) (by assumption) ?_
              case refine_2 => (intro w hSw; go_simp; try (with_reducible rfl))
              try simp only [Act.put, List.setIfInBounds_toArray, List.set_cons_zero, List.set_cons_succ]
              refine wpAnyH_take (i := 8) (oi := ⟨some 101, _, _, _, _, _⟩) (v := ?_) rfl (by kernel_rfl) (by kernel_rfl) (by kernel_rfl) (fun _ _ _ h => h) (Or.inl ⟨by kernel_rfl, ?_⟩) (by assumption) ?_
              case refine_2 => (intro w hSw; go_simp; try (with_reducible rfl))
              try simp only [Act.put, List.setIfInBounds_toArray, List.set_cons_zero, List.set_cons_succ]
              refine wpAnyH_take (i := 9) (oi := ⟨some 102, _, _, _, _, _⟩) (v := ?_) rfl (by kernel_rfl) (by kernel_rfl) (by kernel_rfl) (fun _ _ _ h => h) (Or.inl ⟨by kernel_rfl, ?_⟩) (by assumption) ?_
              case refine_2 => (intro w hSw; go_simp; try (with_reducible rfl))
              try simp only [Act.put, List.setIfInBounds_toArray, List.set_cons_zero, List.set_cons_succ]
              refine wpAnyH_ready (rs := [10]) (by kernel_rfl) (by simp) ?_
              refine AllReadyH.cons rfl (fun K hK => ?_) AllReadyH.nil
              go_simp
              obtain ⟨hA', hth, hty, hgr⟩ := bel_born hA
              replace hA := hA'
              clear hA'
              try replace hF2 := hF2.kept (al _ (.cells #[.int .i64 0, .int .i64 0, .slice none 0 0, .int .i64 0, .slice none 0 0, .int .i64 0, .int .i64 0, .int .i64 0, .slice none 0 0, .int .i64 0, .int .i64 0, .int .i64 0, .slice none 0 0, .int .i64 0, .int .i64 0, .int .i64 0, .slice none 0 0] 36))
              try replace hrw := hrw.kept (al _ (.cells #[.int .i64 0, .int .i64 0, .slice none 0 0, .int .i64 0, .slice none 0 0, .int .i64 0, .int .i64 0, .int .i64 0, .slice none 0 0, .int .i64 0, .int .i64 0, .int .i64 0, .slice none 0 0, .int .i64 0, .int .i64 0, .int .i64 0, .slice none 0 0] 36))
              try simp only [drew_alloc, drew_size] at hA hth hty hgr
              try simp only [drew_alloc, drew_size] at hF2
              try simp only [drew_alloc, drew_size] at hrw
              clear hHeld
              refine hK.out _ _ (hA) (fun hHeld => ?_)
              clear hK K
              try simp only [Act.put, List.setIfInBounds_toArray, List.set_cons_zero, List.set_cons_succ]
              refine wpAnyH_ready (rs := [11]) (by kernel_rfl) (by simp) ?_
              refine AllReadyH.cons rfl (fun K hK => ?_) AllReadyH.nil
              refine store36R FQN _ _ _ (by rfl) rfl rfl rfl hth ?_
              replace hA := bel_box hgr FQN hA
              clear hth hty
              clear hHeld
              refine hK.out _ _ (hA) (fun hHeld => ?_)
              clear hK K
              try simp only [Act.put, List.setIfInBounds_toArray, List.set_cons_zero, List.set_cons_succ]
              refine wpAnyH_take (i := 12) (oi := ⟨some 18, _, _, _, _, _⟩) (v := ?_) rfl (by kernel_rfl) (by kernel_rfl) (by kernel_rfl) (fun _ _ _ h => h) (Or.inl ⟨by kernel_rfl, ?_⟩) (by assumption) ?_
              case refine_2 => (intro w hSw; go_simp; try (with_reducible rfl))
              try simp only [Act.put, List.setIfInBounds_toArray, List.set_cons_zero, List.set_cons_succ]
              refine wpAnyH_done (by kernel_rfl) ?_ _
              clear hHeld
              have HE := Lib.hid (H12.out.1.kept hA)
              clear hA hgr
              go_wp2
              go_meet
              exact ⟨rfl, HE.out⟩
            · go_simp
              obtain ⟨hA', hth, hty, hgr⟩ := bel_born hA
              replace hA := hA'
              clear hA'
              try replace hF2 := hF2.kept (al _ (.cells #[.int .i64 0, .int .i64 0, .slice none 0 0, .int .i64 0, .slice none 0 0, .int .i64 0, .int .i64 0, .int .i64 0, .slice none 0 0, .int .i64 0, .int .i64 0, .int .i64 0, .slice none 0 0, .int .i64 0, .int .i64 0, .int .i64 0, .slice none 0 0] 36))
              try replace hrw := hrw.kept (al _ (.cells #[.int .i64 0, .int .i64 0, .slice none 0 0, .int .i64 0, .slice none 0 0, .int .i64 0, .int .i64 0, .int .i64 0, .slice none 0 0, .int .i64 0, .int .i64 0, .int .i64 0, .slice none 0 0, .int .i64 0, .int .i64 0, .int .i64 0, .slice none 0 0] 36))
              try simp only [drew_alloc, drew_size] at hA hth hty hgr
              try simp only [drew_alloc, drew_size] at hF2
              try simp only [drew_alloc, drew_size] at hrw
              clear hHeld
              refine hK.out _ _ (hA) (fun hHeld => ?_)
              clear hK K
              try simp only [Act.put, List.setIfInBounds_toArray, List.set_cons_zero, List.set_cons_succ]
              refine wpAnyH_ready (rs := [6]) (by kernel_rfl) (by simp) ?_
              refine AllReadyH.cons rfl (fun K hK => ?_) AllReadyH.nil
              go_simp
              (with_reducible refine (HQ.out.2 _ _ _ _ hA hrw).mono ?_)
              rintro e u ⟨rfl, hb⟩
              clear hrw
              try replace hth := there_kp hth hty.lt (Below.kp hb) (fun h => h)
              try replace hty := hty.kept hb
              try replace hrw := hrw.kept hb
              replace hA := hA.trans (hb.mono hA.size)
              clear hb
              clear hHeld
              refine hK.out _ _ (hA) (fun hHeld => ?_)
              clear hK K
              try simp only [Act.put, List.setIfInBounds_toArray, List.set_cons_zero, List.set_cons_succ]
              refine wpAnyH_take (i := 7) (oi := ⟨some 93, _, _, _, _, _⟩) (v := ?_) rfl (by kernel_rfl) (by kernel_rfl) (by kernel_rfl) (fun _ _ _ h => h) (Or.inl ⟨by kernel_rfl, ?_⟩) (by assumption) ?_
              case refine_2 => (intro w hSw; go_simp; try (with_reducible rfl))
              try simp only [Act.put, List.setIfInBounds_toArray, List.set_cons_zero, List.set_cons_succ]
              refine wpAnyH_take (i := 8) (oi := ⟨some 101, _, _, _, _, _⟩) (v := ?_) rfl (by kernel_rfl) (by kernel_rfl) (by kernel_rfl) (fun _ _ _ h => h) (Or.inl ⟨by kernel_rfl, ?_⟩) (by assumption) ?_
              case refine_2 => (intro w hSw; go_simp; try (with_reducible rfl))
              try simp only [Act.put, List.setIfInBounds_toArray, List.set_cons_zero, List.set_cons_succ]
              refine wpAnyH_take (i := 9) (oi := ⟨some 102, _, _, _, _, _⟩) (v := ?_) rfl (by kernel_rfl) (by kernel_rfl) (by kernel_rfl) (fun _ _ _ h => h) (Or.inl ⟨by kernel_rfl, ?_⟩) (by assumption) ?_
              case refine_2 => (intro w hSw; go_simp; try (with_reducible rfl))
              try simp only [Act.put, List.setIfInBounds_toArray, List.set_cons_zero, List.set_cons_succ]
              refine wpAnyH_ready (rs := [11]) (by kernel_rfl) (by simp) ?_
              refine AllReadyH.cons rfl (fun K hK => ?_) AllReadyH.nil
              refine store36R FQN _ _ _ (by rfl) rfl rfl rfl hth ?_
              replace hA := bel_box hgr FQN hA
              clear hth hty
              clear hHeld
              refine hK.out _ _ (hA) (fun hHeld => ?_)
              clear hK K
              try simp only [Act.put, List.setIfInBounds_toArray, List.set_cons_zero, List.set_cons_succ]
              refine wpAnyH_take (i := 12) (oi := ⟨some 18, _, _, _, _, _⟩) (v := ?_) rfl (by kernel_rfl) (by kernel_rfl) (by kernel_rfl) (fun _ _ _ h => h) (Or.inl ⟨by kernel_rfl, ?_⟩) (by assumption) ?_
              case refine_2 => (intro w hSw; go_simp; try (with_reducible rfl))
              try simp only [Act.put, List.setIfInBounds_toArray, List.set_cons_zero, List.set_cons_succ]
              refine wpAnyH_done (by kernel_rfl) ?_ _
              clear hHeld
              have HE := Lib.hid (H12.out.1.kept hA)
              clear hA hgr
              go_wp2
              go_meet
              exact ⟨rfl, HE.out⟩
          · go_simp
            obtain ⟨hA', hth, hty, hgr⟩ := bel_born hA
            replace hA := hA'
            clear hA'
            try replace hF2 := hF2.kept (al _ (.cells #[.int .i64 0, .int .i64 0, .slice none 0 0, .int .i64 0, .slice none 0 0, .int .i64 0, .int .i64 0, .int .i64 0, .slice none 0 0, .int .i64 0, .int .i64 0, .int .i64 0, .slice none 0 0, .int .i64 0, .int .i64 0, .int .i64 0, .slice none 0 0] 36))
            try replace hrw := hrw.kept (al _ (.cells #[.int .i64 0, .int .i64 0, .slice none 0 0, .int .i64 0, .slice none 0 0, .int .i64 0, .int .i64 0, .int .i64 0, .slice none 0 0, .int .i64 0, .int .i64 0, .int .i64 0, .slice none 0 0, .int .i64 0, .int .i64 0, .int .i64 0, .slice none 0 0] 36))
            try simp only [drew_alloc, drew_size] at hA hth hty hgr
            try simp only [drew_alloc, drew_size] at hF2
            try simp only [drew_alloc, drew_size] at hrw
            clear hHeld
            refine hK.out _ _ (hA) (fun hHeld => ?_)
            clear hK K
            try simp only [Act.put, List.setIfInBounds_toArray, List.set_cons_zero, List.set_cons_succ]
            refine wpAnyH_ready (rs := [5]) (by kernel_rfl) (by simp) ?_
            refine AllReadyH.cons rfl (fun K hK => ?_) AllReadyH.nil
            go_simp
            (with_reducible refine (gsamples_any F _).mono ?_)
            rintro e u ⟨rfl, hb⟩
            try replace hth := there_kp hth hty.lt (Below.kp hb) (fun h => h)
            try replace hty := hty.kept hb
            try replace hrw := hrw.kept hb
            replace hA := hA.trans (hb.mono hA.size)
            clear hb
            clear hHeld
            refine hK.out _ _ (hA) (fun hHeld => ?_)
            clear hK K
            try simp only [Act.put, List.setIfInBounds_toArray, List.set_cons_zero, List.set_cons_succ]
            refine wpAnyH_ready (rs := [6]) (by kernel_rfl) (by simp) ?_
            refine AllReadyH.cons rfl (fun K hK => ?_) AllReadyH.nil
            go_simp
            (with_reducible refine (HQ.out.2 _ _ _ _ hA hrw).mono ?_)
            rintro e u ⟨rfl, hb⟩
            clear hrw
            try replace hth := there_kp hth hty.lt (Below.kp hb) (fun h => h)
            try replace hty := hty.kept hb
            try replace hrw := hrw.kept hb
            replace hA := hA.trans (hb.mono hA.size)
            clear hb
            clear hHeld
            refine hK.out _ _ (hA) (fun hHeld => ?_)
            clear hK K
            try simp only [Act.put, List.setIfInBounds_toArray, List.set_cons_zero, List.set_cons_succ]
            refine wpAnyH_take (i := 7) (oi := ⟨some 93, _, _, _, _, _⟩) (v := ?_) rfl (by kernel_rfl) (by kernel_rfl) (by kernel_rfl) (fun _ _ _ h => h) (Or.inl ⟨by kernel_rfl, ?_⟩) (by assumption) ?_
            case refine_2 => (intro w hSw; go_simp; try (with_reducible rfl))
            try simp only [Act.put, List.setIfInBounds_toArray, List.set_cons_zero, List.set_cons_succ]
            refine wpAnyH_take (i := 8) (oi := ⟨some 101, _, _, _, _, _⟩) (v := ?_) rfl (by kernel_rfl) (by kernel_rfl) (by kernel_rfl) (fun _ _ _ h => h) (Or.inl ⟨by kernel_rfl, ?_⟩) (by assumption) ?_
            case refine_2 => (intro w hSw; go_simp; try (with_reducible rfl))
            try simp only [Act.put, List.setIfInBounds_toArray, List.set_cons_zero, List.set_cons_succ]
            refine wpAnyH_take (i := 9) (oi := ⟨some 102, _, _, _, _, _⟩) (v := ?_) rfl (by kernel_rfl) (by kernel_rfl) (by kernel_rfl) (fun _ _ _ h => h) (Or.inl ⟨by kernel_rfl, ?_⟩) (by assumption) ?_
            case refine_2 => (intro w hSw; go_simp; try (with_reducible rfl))
            try simp only [Act.put, List.setIfInBounds_toArray, List.set_cons_zero, List.set_cons_succ]
            refine wpAnyH_ready (rs := [11]) (by kernel_rfl) (by simp) ?_
            refine AllReadyH.cons rfl (fun K hK => ?_) AllReadyH.nil
            refine store36R FQN _ _ _ (by rfl) rfl rfl rfl hth ?_
            replace hA := bel_box hgr FQN hA
            clear hth hty
            clear hHeld
            refine hK.out _ _ (hA) (fun hHeld => ?_)
            clear hK K
            try simp only [Act.put, List.setIfInBounds_toArray, List.set_cons_zero, List.set_cons_succ]
            refine wpAnyH_take (i := 12) (oi := ⟨some 18, _, _, _, _, _⟩) (v := ?_) rfl (by kernel_rfl) (by kernel_rfl) (by kernel_rfl) (fun _ _ _ h => h) (Or.inl ⟨by kernel_rfl, ?_⟩) (by assumption) ?_
            case refine_2 => (intro w hSw; go_simp; try (with_reducible rfl))
            try simp only [Act.put, List.setIfInBounds_toArray, List.set_cons_zero, List.set_cons_succ]
            refine wpAnyH_done (by kernel_rfl) ?_ _
            clear hHeld
            have HE := Lib.hid (H12.out.1.kept hA)
            clear hA hgr
            go_wp2
            go_meet
            exact ⟨rfl, HE.out⟩
        · go_simp
          obtain ⟨hA', hth, hty, hgr⟩ := bel_born hA
          replace hA := hA'
          clear hA'
          try replace hF2 := hF2.kept (al _ (.cells #[.int .i64 0, .int .i64 0, .slice none 0 0, .int .i64 0, .slice none 0 0, .int .i64 0, .int .i64 0, .int .i64 0, .slice none 0 0, .int .i64 0, .int .i64 0, .int .i64 0, .slice none 0 0, .int .i64 0, .int .i64 0, .int .i64 0, .slice none 0 0] 36))
          try replace hrw := hrw.kept (al _ (.cells #[.int .i64 0, .int .i64 0, .slice none 0 0, .int .i64 0, .slice none 0 0, .int .i64 0, .int .i64 0, .int .i64 0, .slice none 0 0, .int .i64 0, .int .i64 0, .int .i64 0, .slice none 0 0, .int .i64 0, .int .i64 0, .int .i64 0, .slice none 0 0] 36))
          try simp only [drew_alloc, drew_size] at hA hth hty hgr
          try simp only [drew_alloc, drew_size] at hF2
          try simp only [drew_alloc, drew_size] at hrw
          clear hHeld
          refine hK.out _ _ (hA) (fun hHeld => ?_)
          clear hK K
          try simp only [Act.put, List.setIfInBounds_toArray, List.set_cons_zero, List.set_cons_succ]
          refine wpAnyH_ready (rs := [3]) (by kernel_rfl) (by simp) ?_
          refine AllReadyH.cons rfl (fun K hK => ?_) AllReadyH.nil
          go_simp
          (with_reducible refine (HQ.out.1 _ hA).mono ?_)
          rintro e u ⟨ma, mw, mc, rfl, hrw, hb⟩
          try replace hth := there_kp hth hty.lt (Below.kp hb) (fun h => h)
          try replace hty := hty.kept hb
          try replace hrw := hrw.kept hb
          replace hA := hA.trans (hb.mono hA.size)
          clear hb
          clear hHeld
          refine hK.out _ _ (hA) (fun hHeld => ?_)
          clear hK K
          try simp only [Act.put, List.setIfInBounds_toArray, List.set_cons_zero, List.set_cons_succ]
          refine wpAnyH_ready (rs := [5]) (by kernel_rfl) (by simp) ?_
          refine AllReadyH.cons rfl (fun K hK => ?_) AllReadyH.nil
          go_simp
          (with_reducible refine (gsamples_any F _).mono ?_)
          rintro e u ⟨rfl, hb⟩
          try replace hth := there_kp hth hty.lt (Below.kp hb) (fun h => h)
          try replace hty := hty.kept hb
          try replace hrw := hrw.kept hb
          replace hA := hA.trans (hb.mono hA.size)
          clear hb
          clear hHeld
          refine hK.out _ _ (hA) (fun hHeld => ?_)
          clear hK K
          try simp only [Act.put, List.setIfInBounds_toArray, List.set_cons_zero, List.set_cons_succ]
          refine wpAnyH_ready (rs := [6]) (by kernel_rfl) (by simp) ?_
          refine AllReadyH.cons rfl (fun K hK => ?_) AllReadyH.nil
          go_simp
          (with_reducible refine (HQ.out.2 _ _ _ _ hA hrw).mono ?_)
          rintro e u ⟨rfl, hb⟩
          clear hrw
          try replace hth := there_kp hth hty.lt (Below.kp hb) (fun h => h)
          try replace hty := hty.kept hb
          try replace hrw := hrw.kept hb
          replace hA := hA.trans (hb.mono hA.size)
          clear hb
          clear hHeld
          refine hK.out _ _ (hA) (fun hHeld => ?_)
          clear hK K
          try simp only [Act.put, List.setIfInBounds_toArray, List.set_cons_zero, List.set_cons_succ]
          refine wpAnyH_take (i := 7) (oi := ⟨some 93, _, _, _, _, _⟩) (v := ?_) rfl (by kernel_rfl) (by kernel_rfl) (by kernel_rfl) (fun _ _ _ h => h) (Or.inl ⟨by kernel_rfl, ?_⟩) (by assumption) ?_
          case refine_2 => (intro w hSw; go_simp; try (with_reducible rfl))
          try simp only [Act.put, List.setIfInBounds_toArray, List.set_cons_zero, List.set_cons_succ]
          refine wpAnyH_take (i := 8) (oi := ⟨some 101, _, _, _, _, _⟩) (v := ?_) rfl (by kernel_rfl) (by kernel_rfl) (by kernel_rfl) (fun _ _ _ h => h) (Or.inl ⟨by kernel_rfl, ?_⟩) (by assumption) ?_
          case refine_2 => (intro w hSw; go_simp; try (with_reducible rfl))
          try simp only [Act.put, List.setIfInBounds_toArray, List.set_cons_zero, List.set_cons_succ]
          refine wpAnyH_take (i := 9) (oi := ⟨some 102, _, _, _, _, _⟩) (v := ?_) rfl (by kernel_rfl) (by kernel_rfl) (by kernel_rfl) (fun _ _ _ h => h) (Or.inl ⟨by kernel_rfl, ?_⟩) (by assumption) ?_
          case refine_2 => (intro w hSw; go_simp; try (with_reducible rfl))
          try simp only [Act.put, List.setIfInBounds_toArray, List.set_cons_zero, List.set_cons_succ]
          refine wpAnyH_ready (rs := [11]) (by kernel_rfl) (by simp) ?_
          refine AllReadyH.cons rfl (fun K hK => ?_) AllReadyH.nil
          refine store36R FQN _ _ _ (by rfl) rfl rfl rfl hth ?_
          replace hA := bel_box hgr FQN hA
          clear hth hty
          clear hHeld
          refine hK.out _ _ (hA) (fun hHeld => ?_)
          clear hK K
          try simp only [Act.put, List.setIfInBounds_toArray, List.set_cons_zero, List.set_cons_succ]
          refine wpAnyH_take (i := 12) (oi := ⟨some 18, _, _, _, _, _⟩) (v := ?_) rfl (by kernel_rfl) (by kernel_rfl) (by kernel_rfl) (fun _ _ _ h => h) (Or.inl ⟨by kernel_rfl, ?_⟩) (by assumption) ?_
          case refine_2 => (intro w hSw; go_simp; try (with_reducible rfl))
          try simp only [Act.put, List.setIfInBounds_toArray, List.set_cons_zero, List.set_cons_succ]
          refine wpAnyH_done (by kernel_rfl) ?_ _
          clear hHeld
          have HE := Lib.hid (H12.out.1.kept hA)
          clear hA hgr
          go_wp2
          go_meet
          exact ⟨rfl, HE.out⟩
      · go_simp
        obtain ⟨hA', hth, hty, hgr⟩ := bel_born hA
        replace hA := hA'
        clear hA'
        try replace hF2 := hF2.kept (al _ (.cells #[.int .i64 0, .int .i64 0, .slice none 0 0, .int .i64 0, .slice none 0 0, .int .i64 0, .int .i64 0, .int .i64 0, .slice none 0 0, .int .i64 0, .int .i64 0, .int .i64 0, .slice none 0 0, .int .i64 0, .int .i64 0, .int .i64 0, .slice none 0 0] 36))
        try replace hrw := hrw.kept (al _ (.cells #[.int .i64 0, .int .i64 0, .slice none 0 0, .int .i64 0, .slice none 0 0, .int .i64 0, .int .i64 0, .int .i64 0, .slice none 0 0, .int .i64 0, .int .i64 0, .int .i64 0, .slice none 0 0, .int .i64 0, .int .i64 0, .int .i64 0, .slice none 0 0] 36))
        try simp only [drew_alloc, drew_size] at hA hth hty hgr
        try simp only [drew_alloc, drew_size] at hF2
        try simp only [drew_alloc, drew_size] at hrw
        clear hHeld
        refine hK.out _ _ (hA) (fun hHeld => ?_)
        clear hK K
        try simp only [Act.put, List.setIfInBounds_toArray, List.set_cons_zero, List.set_cons_succ]
        refine wpAnyH_ready (rs := [1]) (by kernel_rfl) (by simp) ?_
        refine AllReadyH.cons rfl (fun K hK => ?_) AllReadyH.nil
        go_simp
        (with_reducible refine (gwave_any F _).mono ?_)
        rintro e u ⟨rfl, hb⟩
        try replace hth := there_kp hth hty.lt (Below.kp hb) (fun h => h)
        try replace hty := hty.kept hb
        try replace hrw := hrw.kept hb
        replace hA := hA.trans (hb.mono hA.size)
        clear hb
        clear hHeld
        refine hK.out _ _ (hA) (fun hHeld => ?_)
        clear hK K
        try simp only [Act.put, List.setIfInBounds_toArray, List.set_cons_zero, List.set_cons_succ]
        refine wpAnyH_ready (rs := [3]) (by kernel_rfl) (by simp) ?_
        refine AllReadyH.cons rfl (fun K hK => ?_) AllReadyH.nil
        go_simp
        (with_reducible refine (HQ.out.1 _ hA).mono ?_)
        rintro e u ⟨ma, mw, mc, rfl, hrw, hb⟩
        try replace hth := there_kp hth hty.lt (Below.kp hb) (fun h => h)
        try replace hty := hty.kept hb
        try replace hrw := hrw.kept hb
        replace hA := hA.trans (hb.mono hA.size)
        clear hb
        clear hHeld
        refine hK.out _ _ (hA) (fun hHeld => ?_)
        clear hK K
        try simp only [Act.put, List.setIfInBounds_toArray, List.set_cons_zero, List.set_cons_succ]
        refine wpAnyH_ready (rs := [5]) (by kernel_rfl) (by simp) ?_
        refine AllReadyH.cons rfl (fun K hK => ?_) AllReadyH.nil
        go_simp
        (with_reducible refine (gsamples_any F _).mono ?_)
        rintro e u ⟨rfl, hb⟩
        try replace hth := there_kp hth hty.lt (Below.kp hb) (fun h => h)
        try replace hty := hty.kept hb
        try replace hrw := hrw.kept hb
        replace hA := hA.trans (hb.mono hA.size)
        clear hb
        clear hHeld
        refine hK.out _ _ (hA) (fun hHeld => ?_)
        clear hK K
        try simp only [Act.put, List.setIfInBounds_toArray, List.set_cons_zero, List.set_cons_succ]
        refine wpAnyH_ready (rs := [6]) (by kernel_rfl) (by simp) ?_
        refine AllReadyH.cons rfl (fun K hK => ?_) AllReadyH.nil
        go_simp
        (with_reducible refine (HQ.out.2 _ _ _ _ hA hrw).mono ?_)
        rintro e u ⟨rfl, hb⟩
        clear hrw
        try replace hth := there_kp hth hty.lt (Below.kp hb) (fun h => h)
        try replace hty := hty.kept hb
        try replace hrw := hrw.kept hb
        replace hA := hA.trans (hb.mono hA.size)
        clear hb
        clear hHeld
        refine hK.out _ _ (hA) (fun hHeld => ?_)
        clear hK K
        try simp only [Act.put, List.setIfInBounds_toArray, List.set_cons_zero, List.set_cons_succ]
        refine wpAnyH_take (i := 7) (oi := ⟨some 93, _, _, _, _, _⟩) (v := ?_) rfl (by kernel_rfl) (by kernel_rfl) (by kernel_rfl) (fun _ _ _ h => h) (Or.inl ⟨by kernel_rfl, ?_⟩) (by assumption) ?_
        case refine_2 => (intro w hSw; go_simp; try (with_reducible rfl))
        try simp only [Act.put, List.setIfInBounds_toArray, List.set_cons_zero, List.set_cons_succ]
        refine wpAnyH_take (i := 8) (oi := ⟨some 101, _, _, _, _, _⟩) (v := ?_) rfl (by kernel_rfl) (by kernel_rfl) (by kernel_rfl) (fun _ _ _ h => h) (Or.inl ⟨by kernel_rfl, ?_⟩) (by assumption) ?_
        case refine_2 => (intro w hSw; go_simp; try (with_reducible rfl))
        try simp only [Act.put, List.setIfInBounds_toArray, List.set_cons_zero, List.set_cons_succ]
        refine wpAnyH_take (i := 9) (oi := ⟨some 102, _, _, _, _, _⟩) (v := ?_) rfl (by kernel_rfl) (by kernel_rfl) (by kernel_rfl) (fun _ _ _ h => h) (Or.inl ⟨by kernel_rfl, ?_⟩) (by assumption) ?_
        case refine_2 => (intro w hSw; go_simp; try (with_reducible rfl))
        try simp only [Act.put, List.setIfInBounds_toArray, List.set_cons_zero, List.set_cons_succ]
        refine wpAnyH_ready (rs := [11]) (by kernel_rfl) (by simp) ?_
        refine AllReadyH.cons rfl (fun K hK => ?_) AllReadyH.nil
        refine store36R FQN _ _ _ (by rfl) rfl rfl rfl hth ?_
        replace hA := bel_box hgr FQN hA
        clear hth hty
        clear hHeld
        refine hK.out _ _ (hA) (fun hHeld => ?_)
        clear hK K
        try simp only [Act.put, List.setIfInBounds_toArray, List.set_cons_zero, List.set_cons_succ]
        refine wpAnyH_take (i := 12) (oi := ⟨some 18, _, _, _, _, _⟩) (v := ?_) rfl (by kernel_rfl) (by kernel_rfl) (by kernel_rfl) (fun _ _ _ h => h) (Or.inl ⟨by kernel_rfl, ?_⟩) (by assumption) ?_
        case refine_2 => (intro w hSw; go_simp; try (with_reducible rfl))
        try simp only [Act.put, List.setIfInBounds_toArray, List.set_cons_zero, List.set_cons_succ]
        refine wpAnyH_done (by kernel_rfl) ?_ _
        clear hHeld
        have HE := Lib.hid (H12.out.1.kept hA)
        clear hA hgr
        go_wp2
        go_meet
        exact ⟨rfl, HE.out⟩
    case rest =>
      obtain ⟨rfl, hG⟩ := hcut
      have H13 := Lib.hid hG
      clear hG HQ H12
      go_wp2_with (refine load36 H13.out.mx.box _ (by with_reducible rfl) rfl rfl ?_)
      (with_reducible refine (gsamples_any F _).mono ?_)
      rintro e u13 ⟨rfl, hb⟩
      have H14 := Lib.hid (H13.out.kept hb)
      clear hb H13
      go_wp2_with fail
      (with_reducible refine (sl_mx H14.out.mx.fm).mono ?_)
      rintro e u14 ⟨g2, rfl, hO, hb⟩
      have hp := smL_pos L
      have hq := smL_len2 L
      have hsi := smL_in H14.out.mx.fm.i64 H14.out.mx.fm.nn
      rw [HL.out.1] at hq hsi
      obtain ⟨m2, hm2⟩ : ∃ m2, (smL L).length = m2 := ⟨_, rfl⟩
      rw [hm2] at hp hq hO ⊢
      obtain ⟨t1, j, hj, t2⟩ := turn_in at_ m2 hp (by omega)
      have t0 : ((m2 : Int) == 0) = false := by simp; omega
      have t0' : (m2 : Int) ≠ 0 := by omega
      have hzb := hsi _ (getD_mem (b := 0) (l := smL L) (i := j) (by omega))
      obtain ⟨z, hz⟩ : ∃ z, (smL L).getD j 0 = z := ⟨_, rfl⟩
      rw [hz] at hzb
      have cj : u14.cell? ⟨g2, j, none⟩ = some (.int .i64 z) := by
        rw [World.ownsRow.cellAt hO j (by omega), ← hz]
        simp [List.getD_eq_getElem?_getD, show j < (smL L).length by omega]
      have fj : u14.frozen? ⟨g2, j, none⟩ = false := World.ownsRow.frozenAt hO j
      have hDl := hO.lt g2 rfl
      have hO2 := (World.ownsRow.stored hO j (.int .i64 (z + 1))).1
      obtain ⟨ys, hys⟩ : ∃ ys, (smL L).set j (z + 1) = ys := ⟨_, rfl⟩
      have hysl : ys.length = m2 := by rw [← hys, List.length_set, hm2]
      have hne : smL L ≠ ys := by rw [← hys, ← hz]; exact more_ne (by omega)
      have hyb : ∀ x ∈ ys, 0 ≤ x ∧ x < 2 ^ 62 := fun x hx => by
        rw [← hys] at hx
        rcases List.mem_or_eq_of_mem_set hx with h | h
        · have := hsi x h; omega
        · omega
      rw [← List.map_set, hys] at hO2
      have hB2 : NumsAt .i64 (u14.setCell ⟨g2, j, none⟩ (.int .i64 (z + 1))) (some ⟨g2, 0, none⟩) ys := by
        obtain ⟨a', c', e', h', -⟩ := nums_of_own hO2
        injection e' with e1 e2 e3
        rw [← e1] at h'
        exact h'
      have h15 := H14.out.kept (hb.setCell (p := ⟨g2, j, none⟩) hDl.1 (.int .i64 (z + 1)))
      have H15 := Lib.hid (And.intro h15 (And.intro hB2 (And.intro hysl (And.intro hne hyb))))
      have q1 : IntKind.i64.wrap (z + 1) = z + 1 := IntWalk.i64_in _ (by omega)
      have q2 : (j : Int) < (m2 : Int) := by omega
      have q3 : (0 : Int) ≤ (j : Int) := by omega
      have hm60 : m2 ≤ 61 := by omega
      clear hO hO2 hDl hz hys hysl hne hyb hB2 h15 hb hm2 H14 hsi hzb
      go_upto_region 21 with fail
      generalize u14.setCell ⟨g2, j, none⟩ (.int .i64 (z + 1)) = u15 at *
      clear cj fj t0 t0' t1 t2 q1 q2 q3
      have hti := tight_row (some ⟨g2, 0, none⟩) m2 m2 ys u15 62 (Nat.le_refl _) H15.out.2.1 H15.out.2.2.1 (by omega) H15.out.2.2.2.2
      have HT := Lib.hid hti
      clear hti
      go_wp2_with fail
      (with_reducible refine HT.out.mono ?_)
      rintro e u16 ⟨g3, L3, m3, rfl, hI, hb⟩
      obtain ⟨W3, hW3⟩ : ∃ W3, wid (mostI ys).toNat = W3 := ⟨_, rfl⟩
      rw [hW3] at hI ⊢
      clear hW3
      go_upto_region 22 with fail
      have hib := IBx.new u16 m2 W3 L3 (.slice (some ⟨g3, 0, none⟩) m3 m3)
      have hba := al u16 (.cells #[.int .i64 (m2 : Int), .int .i64 (W3 : Int), .int .i64 (L3 : Int), .slice (some ⟨g3, 0, none⟩) m3 m3] 32)
      obtain ⟨u17, hu17⟩ : ∃ u17, u16.alloc (.cells #[.int .i64 (m2 : Int), .int .i64 (W3 : Int), .int .i64 (L3 : Int), .slice (some ⟨g3, 0, none⟩) m3 m3] 32) = u17 := ⟨_, rfl⟩
      rw [hu17] at hib hba
      rw [hu17]
      obtain ⟨b3, hb3⟩ : ∃ b3, u16.heap.size = b3 := ⟨_, rfl⟩
      rw [hb3] at hib
      simp only [hb3]
      have hb17 := hb.trans (hba.mono hb.size)
      have h17 := H15.out.1.kept hb17
      have hI17 := hI.kept hba
      have hls : ∀ u, Below u17.heap.size u17 u → Calls Tryz.prog 37 #[.agg #[.int .i64 (F.N : Int), .int .i64 F.Z, .slice F.wa F.wW F.wc], .agg #[.int .i64 (F.R.n : Int), .slice F.R.a F.R.m F.R.c], .agg #[.int .i64 (m2 : Int), .int .i64 (W3 : Int), .int .i64 (L3 : Int), .slice (some ⟨g3, 0, none⟩) m3 m3]] u fun e u' => e = .returned (.tuple #[.agg #[.int .i64 0, .int .i64 0, .slice none 0 0, .int .i64 0, .slice none 0 0, .int .i64 0, .int .i64 0, .int .i64 0, .slice none 0 0, .int .i64 0, .int .i64 0, .int .i64 0, .slice none 0 0, .int .i64 0, .int .i64 0, .int .i64 0, .slice none 0 0], .int .i64 10]) ∧ Below u.heap.size u u' := fun u hb =>
        load_bad (h17.mx.fm.kept hb) HL.out.2 F.R.n F.R.a F.R.m F.R.c ⟨m2, W3, L3, some ⟨g3, 0, none⟩, m3, m3⟩ (mkL L) ys (h17.mx.fm.kept hb).rk.row h17.mx.fm.rk.len (hI17.kept hb) (fun _ => H15.out.2.2.2.1)
      have H17 := Lib.hid (And.intro h17 (And.intro hib hls))
      clear hib hba hu17 hb3 hb17 h17 hI17 hI hb hls HT H15
      go_cut [23, 24] from 132 to 140 (fun _ v24 wx => v24 = .int .i64 10 ∧ Below w.heap.size w wx)
      case first =>
        have hA := Below.refl u17.heap.size u17
        try simp only [List.append_eq, List.cons_append, List.nil_append]
        refine wp_region_held_drew (S := fun w' => Below u17.heap.size u17 w') (by kernel_rfl) (hA.drew) (fun hHeld => ?_)
        replace hA := hA.drew
        refine wpAnyH_take (i := 0) (oi := ⟨some 133, _, _, _, _, _⟩) rfl (by kernel_rfl) (by kernel_rfl) (by kernel_rfl) (fun _ _ _ h => h) (yieldsIf_load_mid (by kernel_rfl) 36 _ rfl _ 0 rfl _ _ (fun w hw => MBx.range (H17.out.1.mx.box.kept hw)) Tryz.underlying36 rfl (by kernel_rfl)) (by assumption) ?_
        try simp only [Act.put, List.setIfInBounds_toArray, List.set_cons_zero, List.set_cons_succ]
        refine wpAnyH_take (i := 2) (oi := ⟨some 135, _, _, _, _, _⟩) rfl (by kernel_rfl) (by kernel_rfl) (by kernel_rfl) (fun _ _ _ h => h) (yieldsIf_load_mid (by kernel_rfl) 36 _ rfl _ 0 rfl _ _ (fun w hw => MBx.range (H17.out.1.mx.box.kept hw)) Tryz.underlying36 rfl (by kernel_rfl)) (by assumption) ?_
        try simp only [Act.put, List.setIfInBounds_toArray, List.set_cons_zero, List.set_cons_succ]
        refine wpAnyH_take (i := 4) (oi := ⟨some 137, _, _, _, _, _⟩) (v := ?_) rfl (by kernel_rfl) (by kernel_rfl) (by kernel_rfl) (fun _ _ _ h => h) (Or.inl ⟨by kernel_rfl, ?_⟩) (by assumption) ?_
        case refine_2 => (intro w hSw; have y := H17.out.2.1.kept hSw; have y0 := y.c0; have y1 := y.c1; have y2 := y.c2; have y3 := y.c3; go_simp; try (with_reducible rfl))
        try simp only [Act.put, List.setIfInBounds_toArray, List.set_cons_zero, List.set_cons_succ]
        refine wpAnyH_ready (rs := [1, 9]) (by kernel_rfl) (by simp) ?_
        refine AllReadyH.cons rfl (fun K hK => ?_) (AllReadyH.cons rfl (fun K hK => ?_) AllReadyH.nil)
        · go_simp
          (with_reducible refine (gwave_any F _).mono ?_)
          rintro e u ⟨rfl, hb⟩
          try replace hth := there_kp hth hty.lt (Below.kp hb) (fun h => h)
          try replace hty := hty.kept hb
          try replace hrw := hrw.kept hb
          replace hA := hA.trans (hb.mono hA.size)
          clear hb
          clear hHeld
          refine hK.out _ _ (hA) (fun hHeld => ?_)
          clear hK K
          try simp only [Act.put, List.setIfInBounds_toArray, List.set_cons_zero, List.set_cons_succ]
          refine wpAnyH_ready (rs := [3, 9]) (by kernel_rfl) (by simp) ?_
          refine AllReadyH.cons rfl (fun K hK => ?_) (AllReadyH.cons rfl (fun K hK => ?_) AllReadyH.nil)
          · go_simp
            (with_reducible refine (gmarks_any F _).mono ?_)
            rintro e u ⟨rfl, hb⟩
            try replace hth := there_kp hth hty.lt (Below.kp hb) (fun h => h)
            try replace hty := hty.kept hb
            try replace hrw := hrw.kept hb
            replace hA := hA.trans (hb.mono hA.size)
            clear hb
            clear hHeld
            refine hK.out _ _ (hA) (fun hHeld => ?_)
            clear hK K
            try simp only [Act.put, List.setIfInBounds_toArray, List.set_cons_zero, List.set_cons_succ]
            refine wpAnyH_ready (rs := [5, 9]) (by kernel_rfl) (by simp) ?_
            refine AllReadyH.cons rfl (fun K hK => ?_) (AllReadyH.cons rfl (fun K hK => ?_) AllReadyH.nil)
            · go_simp
              (with_reducible refine (H17.out.2.2 _ hA).mono ?_)
              rintro e u ⟨rfl, hb⟩
              try replace hth := there_kp hth hty.lt (Below.kp hb) (fun h => h)
              try replace hty := hty.kept hb
              try replace hrw := hrw.kept hb
              replace hA := hA.trans (hb.mono hA.size)
              clear hb
              clear hHeld
              refine hK.out _ _ (hA) (fun hHeld => ?_)
              clear hK K
              try simp only [Act.put, List.setIfInBounds_toArray, List.set_cons_zero, List.set_cons_succ]
              refine wpAnyH_take (i := 6) (oi := ⟨some 132, _, _, _, _, _⟩) (v := ?_) rfl (by kernel_rfl) (by kernel_rfl) (by kernel_rfl) (fun _ _ _ h => h) (Or.inl ⟨by kernel_rfl, ?_⟩) (by assumption) ?_
              case refine_2 => (intro w hSw; go_simp; try (with_reducible rfl))
              try simp only [Act.put, List.setIfInBounds_toArray, List.set_cons_zero, List.set_cons_succ]
              refine wpAnyH_take (i := 7) (oi := ⟨some 139, _, _, _, _, _⟩) (v := ?_) rfl (by kernel_rfl) (by kernel_rfl) (by kernel_rfl) (fun _ _ _ h => h) (Or.inl ⟨by kernel_rfl, ?_⟩) (by assumption) ?_
              case refine_2 => (intro w hSw; go_simp; try (with_reducible rfl))
              try simp only [Act.put, List.setIfInBounds_toArray, List.set_cons_zero, List.set_cons_succ]
              refine wpAnyH_take (i := 8) (oi := ⟨some 140, _, _, _, _, _⟩) (v := ?_) rfl (by kernel_rfl) (by kernel_rfl) (by kernel_rfl) (fun _ _ _ h => h) (Or.inl ⟨by kernel_rfl, ?_⟩) (by assumption) ?_
              case refine_2 => (intro w hSw; go_simp; try (with_reducible rfl))
              try simp only [Act.put, List.setIfInBounds_toArray, List.set_cons_zero, List.set_cons_succ]
              refine wpAnyH_ready (rs := [9]) (by kernel_rfl) (by simp) ?_
              refine AllReadyH.cons rfl (fun K hK => ?_) AllReadyH.nil
              go_simp
              obtain ⟨hA', hth, hty, hgr⟩ := bel_born hA
              replace hA := hA'
              clear hA'
              try replace hF2 := hF2.kept (al _ (.cells #[.int .i64 0, .int .i64 0, .slice none 0 0, .int .i64 0, .slice none 0 0, .int .i64 0, .int .i64 0, .int .i64 0, .slice none 0 0, .int .i64 0, .int .i64 0, .int .i64 0, .slice none 0 0, .int .i64 0, .int .i64 0, .int .i64 0, .slice none 0 0] 36))
              try replace hrw := hrw.kept (al _ (.cells #[.int .i64 0, .int .i64 0, .slice none 0 0, .int .i64 0, .slice none 0 0, .int .i64 0, .int .i64 0, .int .i64 0, .slice none 0 0, .int .i64 0, .int .i64 0, .int .i64 0, .slice none 0 0, .int .i64 0, .int .i64 0, .int .i64 0, .slice none 0 0] 36))
              try simp only [drew_alloc, drew_size] at hA hth hty hgr
              try simp only [drew_alloc, drew_size] at hF2
              try simp only [drew_alloc, drew_size] at hrw
              clear hHeld
              refine hK.out _ _ (hA) (fun hHeld => ?_)
              clear hK K
              try simp only [Act.put, List.setIfInBounds_toArray, List.set_cons_zero, List.set_cons_succ]
              refine wpAnyH_ready (rs := [10]) (by kernel_rfl) (by simp) ?_
              refine AllReadyH.cons rfl (fun K hK => ?_) AllReadyH.nil
              refine store36R FQN _ _ _ (by rfl) rfl rfl rfl hth ?_
              replace hA := bel_box hgr FQN hA
              clear hth hty
              clear hHeld
              refine hK.out _ _ (hA) (fun hHeld => ?_)
              clear hK K
              try simp only [Act.put, List.setIfInBounds_toArray, List.set_cons_zero, List.set_cons_succ]
              refine wpAnyH_take (i := 11) (oi := ⟨some 24, _, _, _, _, _⟩) (v := ?_) rfl (by kernel_rfl) (by kernel_rfl) (by kernel_rfl) (fun _ _ _ h => h) (Or.inl ⟨by kernel_rfl, ?_⟩) (by assumption) ?_
              case refine_2 => (intro w hSw; go_simp; try (with_reducible rfl))
              try simp only [Act.put, List.setIfInBounds_toArray, List.set_cons_zero, List.set_cons_succ]
              refine wpAnyH_done (by kernel_rfl) ?_ _
              clear hHeld
              have HE := Lib.hid (H17.out.1.kept hA).bel
              clear hA hgr
              go_wp2
              go_meet
              exact ⟨rfl, HE.out⟩
            · go_simp
              obtain ⟨hA', hth, hty, hgr⟩ := bel_born hA
              replace hA := hA'
              clear hA'
              try replace hF2 := hF2.kept (al _ (.cells #[.int .i64 0, .int .i64 0, .slice none 0 0, .int .i64 0, .slice none 0 0, .int .i64 0, .int .i64 0, .int .i64 0, .slice none 0 0, .int .i64 0, .int .i64 0, .int .i64 0, .slice none 0 0, .int .i64 0, .int .i64 0, .int .i64 0, .slice none 0 0] 36))
              try replace hrw := hrw.kept (al _ (.cells #[.int .i64 0, .int .i64 0, .slice none 0 0, .int .i64 0, .slice none 0 0, .int .i64 0, .int .i64 0, .int .i64 0, .slice none 0 0, .int .i64 0, .int .i64 0, .int .i64 0, .slice none 0 0, .int .i64 0, .int .i64 0, .int .i64 0, .slice none 0 0] 36))
              try simp only [drew_alloc, drew_size] at hA hth hty hgr
              try simp only [drew_alloc, drew_size] at hF2
              try simp only [drew_alloc, drew_size] at hrw
              clear hHeld
              refine hK.out _ _ (hA) (fun hHeld => ?_)
              clear hK K
              try simp only [Act.put, List.setIfInBounds_toArray, List.set_cons_zero, List.set_cons_succ]
              refine wpAnyH_ready (rs := [5]) (by kernel_rfl) (by simp) ?_
              refine AllReadyH.cons rfl (fun K hK => ?_) AllReadyH.nil
              go_simp
              (with_reducible refine (H17.out.2.2 _ hA).mono ?_)
              rintro e u ⟨rfl, hb⟩
              try replace hth := there_kp hth hty.lt (Below.kp hb) (fun h => h)
              try replace hty := hty.kept hb
              try replace hrw := hrw.kept hb
              replace hA := hA.trans (hb.mono hA.size)
              clear hb
              clear hHeld
              refine hK.out _ _ (hA) (fun hHeld => ?_)
              clear hK K
              try simp only [Act.put, List.setIfInBounds_toArray, List.set_cons_zero, List.set_cons_succ]
              refine wpAnyH_take (i := 6) (oi := ⟨some 132, _, _, _, _, _⟩) (v := ?_) rfl (by kernel_rfl) (by kernel_rfl) (by kernel_rfl) (fun _ _ _ h => h) (Or.inl ⟨by kernel_rfl, ?_⟩) (by assumption) ?_
              case refine_2 => (intro w hSw; go_simp; try (with_reducible rfl))
              try simp only [Act.put, List.setIfInBounds_toArray, List.set_cons_zero, List.set_cons_succ]
              refine wpAnyH_take (i := 7) (oi := ⟨some 139, _, _, _, _, _⟩) (v := ?_) rfl (by kernel_rfl) (by kernel_rfl) (by kernel_rfl) (fun _ _ _ h => h) (Or.inl ⟨by kernel_rfl, ?_⟩) (by assumption) ?_
              case refine_2 => (intro w hSw; go_simp; try (with_reducible rfl))
              try simp only [Act.put, List.setIfInBounds_toArray, List.set_cons_zero, List.set_cons_succ]
              refine wpAnyH_take (i := 8) (oi := ⟨some 140, _, _, _, _, _⟩) (v := ?_) rfl (by kernel_rfl) (by kernel_rfl) (by kernel_rfl) (fun _ _ _ h => h) (Or.inl ⟨by kernel_rfl, ?_⟩) (by assumption) ?_
              case refine_2 => (intro w hSw; go_simp; try (with_reducible rfl))
              try simp only [Act.put, List.setIfInBounds_toArray, List.set_cons_zero, List.set_cons_succ]
              refine wpAnyH_ready (rs := [10]) (by kernel_rfl) (by simp) ?_
              refine AllReadyH.cons rfl (fun K hK => ?_) AllReadyH.nil
              refine store36R FQN _ _ _ (by rfl) rfl rfl rfl hth ?_
              replace hA := bel_box hgr FQN hA
              clear hth hty
              clear hHeld
              refine hK.out _ _ (hA) (fun hHeld => ?_)
              clear hK K
              try simp only [Act.put, List.setIfInBounds_toArray, List.set_cons_zero, List.set_cons_succ]
              refine wpAnyH_take (i := 11) (oi := ⟨some 24, _, _, _, _, _⟩) (v := ?_) rfl (by kernel_rfl) (by kernel_rfl) (by kernel_rfl) (fun _ _ _ h => h) (Or.inl ⟨by kernel_rfl, ?_⟩) (by assumption) ?_
              case refine_2 => (intro w hSw; go_simp; try (with_reducible rfl))
              try simp only [Act.put, List.setIfInBounds_toArray, List.set_cons_zero, List.set_cons_succ]
              refine wpAnyH_done (by kernel_rfl) ?_ _
              clear hHeld
              have HE := Lib.hid (H17.out.1.kept hA).bel
              clear hA hgr
              go_wp2
              go_meet
              exact ⟨rfl, HE.out⟩
          · go_simp
            obtain ⟨hA', hth, hty, hgr⟩ := bel_born hA
            replace hA := hA'
            clear hA'
            try replace hF2 := hF2.kept (al _ (.cells #[.int .i64 0, .int .i64 0, .slice none 0 0, .int .i64 0, .slice none 0 0, .int .i64 0, .int .i64 0, .int .i64 0, .slice none 0 0, .int .i64 0, .int .i64 0, .int .i64 0, .slice none 0 0, .int .i64 0, .int .i64 0, .int .i64 0, .slice none 0 0] 36))
            try replace hrw := hrw.kept (al _ (.cells #[.int .i64 0, .int .i64 0, .slice none 0 0, .int .i64 0, .slice none 0 0, .int .i64 0, .int .i64 0, .int .i64 0, .slice none 0 0, .int .i64 0, .int .i64 0, .int .i64 0, .slice none 0 0, .int .i64 0, .int .i64 0, .int .i64 0, .slice none 0 0] 36))
            try simp only [drew_alloc, drew_size] at hA hth hty hgr
            try simp only [drew_alloc, drew_size] at hF2
            try simp only [drew_alloc, drew_size] at hrw
            clear hHeld
            refine hK.out _ _ (hA) (fun hHeld => ?_)
            clear hK K
            try simp only [Act.put, List.setIfInBounds_toArray, List.set_cons_zero, List.set_cons_succ]
            refine wpAnyH_ready (rs := [3]) (by kernel_rfl) (by simp) ?_
            refine AllReadyH.cons rfl (fun K hK => ?_) AllReadyH.nil
            go_simp
            (with_reducible refine (gmarks_any F _).mono ?_)
            rintro e u ⟨rfl, hb⟩
            try replace hth := there_kp hth hty.lt (Below.kp hb) (fun h => h)
            try replace hty := hty.kept hb
            try replace hrw := hrw.kept hb
            replace hA := hA.trans (hb.mono hA.size)
            clear hb
            clear hHeld
            refine hK.out _ _ (hA) (fun hHeld => ?_)
            clear hK K
            try simp only [Act.put, List.setIfInBounds_toArray, List.set_cons_zero, List.set_cons_succ]
            refine wpAnyH_ready (rs := [5]) (by kernel_rfl) (by simp) ?_
            refine AllReadyH.cons rfl (fun K hK => ?_) AllReadyH.nil
            go_simp
            (with_reducible refine (H17.out.2.2 _ hA).mono ?_)
            rintro e u ⟨rfl, hb⟩
            try replace hth := there_kp hth hty.lt (Below.kp hb) (fun h => h)
            try replace hty := hty.kept hb
            try replace hrw := hrw.kept hb
            replace hA := hA.trans (hb.mono hA.size)
            clear hb
            clear hHeld
            refine hK.out _ _ (hA) (fun hHeld => ?_)
            clear hK K
            try simp only [Act.put, List.setIfInBounds_toArray, List.set_cons_zero, List.set_cons_succ]
            refine wpAnyH_take (i := 6) (oi := ⟨some 132, _, _, _, _, _⟩) (v := ?_) rfl (by kernel_rfl) (by kernel_rfl) (by kernel_rfl) (fun _ _ _ h => h) (Or.inl ⟨by kernel_rfl, ?_⟩) (by assumption) ?_
            case refine_2 => (intro w hSw; go_simp; try (with_reducible rfl))
            try simp only [Act.put, List.setIfInBounds_toArray, List.set_cons_zero, List.set_cons_succ]
            refine wpAnyH_take (i := 7) (oi := ⟨some 139, _, _, _, _, _⟩) (v := ?_) rfl (by kernel_rfl) (by kernel_rfl) (by kernel_rfl) (fun _ _ _ h => h) (Or.inl ⟨by kernel_rfl, ?_⟩) (by assumption) ?_
            case refine_2 => (intro w hSw; go_simp; try (with_reducible rfl))
            try simp only [Act.put, List.setIfInBounds_toArray, List.set_cons_zero, List.set_cons_succ]
            refine wpAnyH_take (i := 8) (oi := ⟨some 140, _, _, _, _, _⟩) (v := ?_) rfl (by kernel_rfl) (by kernel_rfl) (by kernel_rfl) (fun _ _ _ h => h) (Or.inl ⟨by kernel_rfl, ?_⟩) (by assumption) ?_
            case refine_2 => (intro w hSw; go_simp; try (with_reducible rfl))
            try simp only [Act.put, List.setIfInBounds_toArray, List.set_cons_zero, List.set_cons_succ]
            refine wpAnyH_ready (rs := [10]) (by kernel_rfl) (by simp) ?_
            refine AllReadyH.cons rfl (fun K hK => ?_) AllReadyH.nil
            refine store36R FQN _ _ _ (by rfl) rfl rfl rfl hth ?_
            replace hA := bel_box hgr FQN hA
            clear hth hty
            clear hHeld
            refine hK.out _ _ (hA) (fun hHeld => ?_)
            clear hK K
            try simp only [Act.put, List.setIfInBounds_toArray, List.set_cons_zero, List.set_cons_succ]
            refine wpAnyH_take (i := 11) (oi := ⟨some 24, _, _, _, _, _⟩) (v := ?_) rfl (by kernel_rfl) (by kernel_rfl) (by kernel_rfl) (fun _ _ _ h => h) (Or.inl ⟨by kernel_rfl, ?_⟩) (by assumption) ?_
            case refine_2 => (intro w hSw; go_simp; try (with_reducible rfl))
            try simp only [Act.put, List.setIfInBounds_toArray, List.set_cons_zero, List.set_cons_succ]
            refine wpAnyH_done (by kernel_rfl) ?_ _
            clear hHeld
            have HE := Lib.hid (H17.out.1.kept hA).bel
            clear hA hgr
            go_wp2
            go_meet
            exact ⟨rfl, HE.out⟩
        · go_simp
          obtain ⟨hA', hth, hty, hgr⟩ := bel_born hA
          replace hA := hA'
          clear hA'
          try replace hF2 := hF2.kept (al _ (.cells #[.int .i64 0, .int .i64 0, .slice none 0 0, .int .i64 0, .slice none 0 0, .int .i64 0, .int .i64 0, .int .i64 0, .slice none 0 0, .int .i64 0, .int .i64 0, .int .i64 0, .slice none 0 0, .int .i64 0, .int .i64 0, .int .i64 0, .slice none 0 0] 36))
          try replace hrw := hrw.kept (al _ (.cells #[.int .i64 0, .int .i64 0, .slice none 0 0, .int .i64 0, .slice none 0 0, .int .i64 0, .int .i64 0, .int .i64 0, .slice none 0 0, .int .i64 0, .int .i64 0, .int .i64 0, .slice none 0 0, .int .i64 0, .int .i64 0, .int .i64 0, .slice none 0 0] 36))
          try simp only [drew_alloc, drew_size] at hA hth hty hgr
          try simp only [drew_alloc, drew_size] at hF2
          try simp only [drew_alloc, drew_size] at hrw
          clear hHeld
          refine hK.out _ _ (hA) (fun hHeld => ?_)
          clear hK K
          try simp only [Act.put, List.setIfInBounds_toArray, List.set_cons_zero, List.set_cons_succ]
          refine wpAnyH_ready (rs := [1]) (by kernel_rfl) (by simp) ?_
          refine AllReadyH.cons rfl (fun K hK => ?_) AllReadyH.nil
          go_simp
          (with_reducible refine (gwave_any F _).mono ?_)
          rintro e u ⟨rfl, hb⟩
          try replace hth := there_kp hth hty.lt (Below.kp hb) (fun h => h)
          try replace hty := hty.kept hb
          try replace hrw := hrw.kept hb
          replace hA := hA.trans (hb.mono hA.size)
          clear hb
          clear hHeld
          refine hK.out _ _ (hA) (fun hHeld => ?_)
          clear hK K
          try simp only [Act.put, List.setIfInBounds_toArray, List.set_cons_zero, List.set_cons_succ]
          refine wpAnyH_ready (rs := [3]) (by kernel_rfl) (by simp) ?_
          refine AllReadyH.cons rfl (fun K hK => ?_) AllReadyH.nil
          go_simp
          (with_reducible refine (gmarks_any F _).mono ?_)
          rintro e u ⟨rfl, hb⟩
          try replace hth := there_kp hth hty.lt (Below.kp hb) (fun h => h)
          try replace hty := hty.kept hb
          try replace hrw := hrw.kept hb
          replace hA := hA.trans (hb.mono hA.size)
          clear hb
          clear hHeld
          refine hK.out _ _ (hA) (fun hHeld => ?_)
          clear hK K
          try simp only [Act.put, List.setIfInBounds_toArray, List.set_cons_zero, List.set_cons_succ]
          refine wpAnyH_ready (rs := [5]) (by kernel_rfl) (by simp) ?_
          refine AllReadyH.cons rfl (fun K hK => ?_) AllReadyH.nil
          go_simp
          (with_reducible refine (H17.out.2.2 _ hA).mono ?_)
          rintro e u ⟨rfl, hb⟩
          try replace hth := there_kp hth hty.lt (Below.kp hb) (fun h => h)
          try replace hty := hty.kept hb
          try replace hrw := hrw.kept hb
          replace hA := hA.trans (hb.mono hA.size)
          clear hb
          clear hHeld
          refine hK.out _ _ (hA) (fun hHeld => ?_)
          clear hK K
          try simp only [Act.put, List.setIfInBounds_toArray, List.set_cons_zero, List.set_cons_succ]
          refine wpAnyH_take (i := 6) (oi := ⟨some 132, _, _, _, _, _⟩) (v := ?_) rfl (by kernel_rfl) (by kernel_rfl) (by kernel_rfl) (fun _ _ _ h => h) (Or.inl ⟨by kernel_rfl, ?_⟩) (by assumption) ?_
          case refine_2 => (intro w hSw; go_simp; try (with_reducible rfl))
          try simp only [Act.put, List.setIfInBounds_toArray, List.set_cons_zero, List.set_cons_succ]
          refine wpAnyH_take (i := 7) (oi := ⟨some 139, _, _, _, _, _⟩) (v := ?_) rfl (by kernel_rfl) (by kernel_rfl) (by kernel_rfl) (fun _ _ _ h => h) (Or.inl ⟨by kernel_rfl, ?_⟩) (by assumption) ?_
          case refine_2 => (intro w hSw; go_simp; try (with_reducible rfl))
          try simp only [Act.put, List.setIfInBounds_toArray, List.set_cons_zero, List.set_cons_succ]
          refine wpAnyH_take (i := 8) (oi := ⟨some 140, _, _, _, _, _⟩) (v := ?_) rfl (by kernel_rfl) (by kernel_rfl) (by kernel_rfl) (fun _ _ _ h => h) (Or.inl ⟨by kernel_rfl, ?_⟩) (by assumption) ?_
          case refine_2 => (intro w hSw; go_simp; try (with_reducible rfl))
          try simp only [Act.put, List.setIfInBounds_toArray, List.set_cons_zero, List.set_cons_succ]
          refine wpAnyH_ready (rs := [10]) (by kernel_rfl) (by simp) ?_
          refine AllReadyH.cons rfl (fun K hK => ?_) AllReadyH.nil
          refine store36R FQN _ _ _ (by rfl) rfl rfl rfl hth ?_
          replace hA := bel_box hgr FQN hA
          clear hth hty
          clear hHeld
          refine hK.out _ _ (hA) (fun hHeld => ?_)
          clear hK K
          try simp only [Act.put, List.setIfInBounds_toArray, List.set_cons_zero, List.set_cons_succ]
          refine wpAnyH_take (i := 11) (oi := ⟨some 24, _, _, _, _, _⟩) (v := ?_) rfl (by kernel_rfl) (by kernel_rfl) (by kernel_rfl) (fun _ _ _ h => h) (Or.inl ⟨by kernel_rfl, ?_⟩) (by assumption) ?_
          case refine_2 => (intro w hSw; go_simp; try (with_reducible rfl))
          try simp only [Act.put, List.setIfInBounds_toArray, List.set_cons_zero, List.set_cons_succ]
          refine wpAnyH_done (by kernel_rfl) ?_ _
          clear hHeld
          have HE := Lib.hid (H17.out.1.kept hA).bel
          clear hA hgr
          go_wp2
          go_meet
          exact ⟨rfl, HE.out⟩
      case rest =>
        obtain ⟨rfl, hb⟩ := hcut
        have HB := Lib.hid hb
        clear hb H17
        go_wp2
        go_ret
        exact ⟨rfl, HB.out⟩

end Go.Proofs.YtbcjepkfjbibfaaGreat
