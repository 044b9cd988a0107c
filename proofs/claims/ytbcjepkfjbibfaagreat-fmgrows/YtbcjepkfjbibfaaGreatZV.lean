/- The walk of FmGrows. -/
import Derived.Test.YtbcjepkfjbibfaaGreatZX
set_option maxRecDepth 100000
namespace Go.Proofs.YtbcjepkfjbibfaaGreat
open Go.RowKit
open M
attribute [local go_sem ↓] Go.wp_at_zero Go.wp_at_succ

/-- append of numbers, as one step of a region that draws. -/
theorem step_append_nums {w : World} {ops : Array Oper} {o : Oper} {a : Act} {K : Act → World → Prop} {Q : Exit → Act → World → Prop} {E : Prop} (hgd : o.guard = none) (s x : Operand)
    (ho : o.op = .call { callee := .builtin .append, args := #[s, x], argTypes := #[22, 22] }) (base : Nat) (v : Value) (n : Nat) (xs : List Value) (hs : a.eval s = v) (hown : w.ownsRow base 3 1 v n xs)
    (ad : Addr) (m c : Nat) (l : List Int) (hx : a.eval x = .slice (some ad) m c) (hl : l.length = m) (hA : NumsAt .i64 w (some ad) l) (h63 : n + m ≤ 1000000000) (hbase : base ≤ w.heap.size)
    (h : ∀ v' w', w'.ownsRow base 3 1 v' (n + m) (xs ++ l.map (Value.int .i64)) → w.grownBy w' v.ownBlock → K (a.put o.dst v') w') :
    if Region.wanted o (yielded ops a.tmps) = true then Oper.wp Tryz.prog o a w K Q else E := by
  have hw : Region.wanted o (yielded ops a.tmps) = true := by simp [Region.wanted, hgd]
  rw [if_pos hw]
  obtain ⟨i0, hi, hz0, hz1, hz2⟩ := info_parts info3
  obtain ⟨v', w', hr, h2, h3, -, -⟩ := run_append_own_at (P := Tryz.prog) w base 22 o.type 3 i0 (.int .i64 0) 1 8 Tryz.underlying22 hi hz0 hz1 hz2 rfl (by omega) v n xs hown ad m c (l.map (Value.int .i64)) (by simp [hl]) (by
    intro j u hu
    rcases hA with rfl | ⟨b, off, e, -, hc⟩
    · simp at hu
    · obtain rfl : ad = ⟨b, off, none⟩ := by simpa using e
      obtain ⟨hj, hju⟩ := List.getElem?_eq_some_iff.1 hu
      simp only [List.length_map] at hj
      have := hc j hj
      have ea : (⟨b, off, none⟩ : Addr).add j = ⟨b, off + j, none⟩ := by
        simp only [Addr.add]; split
        · rename_i h; simp_all
        · rfl
      rw [ea, this, ← hju]
      simp [List.getD_eq_getElem?_getD, hj]) (by
    intro u hu
    obtain ⟨k, -, rfl⟩ := List.mem_map.1 hu
    rfl) (by unfold maxLen; omega) (by omega) hbase
  unfold Oper.wp execOp
  simp only [ho, resolve, invoke, builtin, Sem.run_bind, Sem.run_pure, Result.andThen_ok, List.map_toArray, List.map_cons, List.map_nil, hs, hx, hr]
  exact h v' w' h2 h3

/-- What the law holds. -/
structure VG (w : World) (w3 : World) (bx : Nat) (F : FQ) (L : List Int) (s : Nat) (B : Option Addr) (u : World) : Prop where
  mx : MX w3 bx F L s u
  bel : Below w.heap.size w u
  nums : NumsAt .i64 u B L
  lt : w.heap.size ≤ u.heap.size
theorem VG.kept {w w3 u u' : World} {bx s : Nat} {F : FQ} {L : List Int} {B : Option Addr} (h : VG w w3 bx F L s B u) (hb : Below u.heap.size u u') : VG w w3 bx F L s B u' :=
  ⟨h.mx.kept hb, h.bel.trans (hb.mono h.lt), h.nums.kept hb, Nat.le_trans h.lt hb.size⟩
theorem VG.drew {w w3 u : World} {bx s : Nat} {F : FQ} {L : List Int} {B : Option Addr} (h : VG w w3 bx F L s B u) : VG w w3 bx F L s B u.drew := h.kept ((Below.refl _ _).drew)

theorem snoc_in {r : List Int} {s c : Nat} (h : ∀ x ∈ r, 0 ≤ x ∧ x < (s : Int)) (hc : c < s) : ∀ x ∈ r ++ [(c : Int)], 0 ≤ x ∧ x < (s : Int) := by
  intro x hx
  rcases List.mem_append.1 hx with hx | hx
  · exact h x hx
  · rw [List.mem_singleton.1 hx]; omega

set_option linter.unusedSimpArgs false in
set_option maxHeartbeats 8000000 in
theorem grows_walk (A : Option Addr) (n0 c0 : Nat) (xs : List Int) (sz : Int) (P : Option Addr) (np cp : Nat) (ps : List Int) (w : World) (hA : NumsAt .i64 w A xs) (hx : xs.length = n0) (hP : NumsAt .i64 w P ps) (hp : ps.length = np) (hpc : np ≤ cp) :
    Calls Tryz.prog 8 #[.slice A n0 c0, .int .i64 sz, .slice P np cp] w fun e w' => e = .returned (.bool true) ∧ Below w.heap.size w w' := by
  have HX := Lib.hid (And.intro hA (And.intro hx (And.intro hP (And.intro hp hpc))))
  clear hA hx hP hp hpc
  go_enter Tryz.func8, Tryz.ntmps8
  go_wp2_with fail
  (with_reducible refine (awake_any _).mono ?_)
  rintro e u1 ⟨rfl, hb⟩
  have H2 := Lib.hid hb
  clear hb
  have hsy := symbols_any A n0 c0 xs sz u1 (HX.out.1.kept H2.out) HX.out.2.1
  have HS := Lib.hid hsy
  clear hsy
  go_wp2_with fail
  (with_reducible refine HS.out.mono ?_)
  rintro e u2 ⟨v, rfl, hI⟩
  obtain ⟨B, bc, rfl, hB, hbc, hsh⟩ := own_at hI
  obtain ⟨h1, h2, h3⟩ := kind8_in sz
  have hll := cutL_len (kind8 sz) xs (min n0 60) (by rw [HX.out.2.1]; omega)
  have hin := cutL_in (kind8 sz) xs (min n0 60) (by omega)
  obtain ⟨L, hL⟩ : ∃ L, cutL (kind8 sz) xs (min n0 60) = L := ⟨_, rfl⟩
  obtain ⟨s, hs⟩ : ∃ s, kind8 sz = s := ⟨_, rfl⟩
  have HKS := Lib.hid hs
  rw [hL] at hB hll hin hbc ⊢
  rw [hs] at hin h1 h2 ⊢
  obtain ⟨n, hn⟩ : ∃ n, L.length = n := ⟨_, rfl⟩
  rw [hn] at hll hbc ⊢
  have hn60 : n ≤ 60 := by omega
  have hb2 := H2.out.trans (hI.2.mono H2.out.size)
  have hnw := fnew_any marked_said B n bc L s u2 hB hn (by omega) h1 (by omega) hin
  have HN := Lib.hid (And.intro hnw (And.intro hB (And.intro hb2 (And.intro hin (And.intro hn hsh)))))
  have hsz : s ≤ 8 := h2
  have hsz1 : 1 ≤ s := h1
  clear hI hB hll hin hL hs hn hb2 hnw h1 h2 h3 H2 HS hsh
  go_wp2_with fail
  (with_reducible refine HN.out.1.mono ?_)
  rintro e u3 ⟨F, rfl, hF, hb⟩
  have hb3 := HN.out.2.2.1.trans (hb.mono HN.out.2.2.1.size)
  have hB3 := HN.out.2.1.kept hb
  have hm3 := MX.boxed (w := u3) hF (Below.refl _ _)
  go_upto_region 4 with fail
  have hba := mbel u3 F
  obtain ⟨u4, hu4⟩ : ∃ u4, u3.alloc (.cells #[.int .i64 (F.N : Int), .int .i64 F.Z, .slice F.wa F.wW F.wc, .int .i64 (F.R.n : Int), .slice F.R.a F.R.m F.R.c, .int .i64 (F.R.cn : Int), .int .i64 (F.R.cW : Int), .int .i64 (F.R.cL : Int), .slice F.R.a2 F.R.m2 F.R.c2, .int .i64 (F.S.n : Int), .int .i64 (F.S.W : Int), .int .i64 (F.S.L : Int), .slice F.S.a F.S.m F.S.c, .int .i64 (F.P.n : Int), .int .i64 (F.P.W : Int), .int .i64 (F.P.L : Int), .slice F.P.a F.P.m F.P.c] 36) = u4 := ⟨_, rfl⟩
  rw [hu4] at hm3 hba
  rw [hu4]
  obtain ⟨bx, hbx⟩ : ∃ bx, u3.heap.size = bx := ⟨_, rfl⟩
  rw [hbx] at hm3
  simp only [hbx]
  have hG : VG w u3 bx F L s B u4 := ⟨hm3, hb3.trans (hba.mono hb3.size), hB3.kept hba, Nat.le_trans hb3.size hba.size⟩
  have H4 := Lib.hid hG
  have HL := Lib.hid (And.intro HN.out.2.2.2.1 (And.intro HN.out.2.2.2.2.1 HN.out.2.2.2.2.2))
  clear hF hb hb3 hB3 hm3 hba hu4 hbx hG HN
  have hfw := few_any P np cp 6 u4 HX.out.2.2.2.2
  rw [show ((6 : Nat) : Int) = (6 : Int) from rfl] at hfw
  have htk := (HX.out.2.2.1.kept H4.out.bel).take (min np 6)
  have htl : (ps.take (min np 6)).length = min np 6 := by rw [List.length_take, HX.out.2.2.2.1]; omega
  obtain ⟨qs, hq⟩ : ∃ qs, ps.take (min np 6) = qs := ⟨_, rfl⟩
  rw [hq] at htk htl
  obtain ⟨k, hk⟩ : ∃ k, min np 6 = k := ⟨_, rfl⟩
  rw [hk] at htl hfw
  have hk6 : k ≤ 6 := by omega
  have hsp := symbols_any P k cp qs sz u4 htk htl
  rw [show min k 60 = k by omega] at hsp
  have hrl := cutL_len (kind8 sz) qs k (by omega)
  have hrin := cutL_in (kind8 sz) qs k (by rw [HKS.out]; omega)
  rw [HKS.out] at hsp hrl hrin
  obtain ⟨r, hr⟩ : ∃ r, cutL s qs k = r := ⟨_, rfl⟩
  rw [hr] at hsp hrl hrin
  have H5 := Lib.hid (And.intro hfw (And.intro hsp (And.intro hrl hrin)))
  clear hfw htk htl hq hk hsp hrl hrin hr
  go_wp2_with fail
  (with_reducible refine H5.out.1.mono ?_)
  rintro e u5 ⟨rfl, rfl⟩
  go_wp2_with fail
  (with_reducible refine H5.out.2.1.mono ?_)
  rintro e u6 ⟨v, rfl, hI⟩
  obtain ⟨R, rc, rfl, hR, hrc, hrsh⟩ := own_at hI
  have hrl := H5.out.2.2.1
  rw [hrl] at hrc ⊢
  have hnone : R = none → k = 0 ∧ rc = 0 := fun e => by
    rcases hrsh with ⟨-, h⟩ | ⟨b, o, h⟩
    · exact ⟨by omega, h⟩
    · rw [h] at e; cases e
  have H6 := Lib.hid (And.intro (H4.out.kept hI.2) (And.intro hR (And.intro hrl (And.intro H5.out.2.2.2 hnone))))
  clear hI hR hrl hrc hnone hrsh H4 H5 HX
  have HP := Lib.hid (And.intro H6.out.2.2.1 (And.intro H6.out.2.2.2.1 H6.out.2.2.2.2))
  go_wp2
  go_loopw [14, 15, 16] (fun v14 v15 _ wr => ∃ c : Nat, c ≤ s ∧ v15 = .int .i64 (c : Int) ∧ v14 = .int .i64 (growN L r (c : Int) : Nat) ∧ VG w u3 bx F L s B wr ∧ NumsAt .i64 wr R r) (fun _ v15 _ _ => s - (intOf v15).toNat)
  case atStart => exact ⟨0, Nat.zero_le _, rfl, by rw [show ((0 : Nat) : Int) = 0 from rfl, grow_zero r (fun x hx => (HL.out.1 x hx).1)]; rfl, H6.out.1, H6.out.2.1⟩
  case round =>
    obtain ⟨c, hcs, rfl, rfl, hG, hR⟩ := hrel
    have hgl := grow_le (l := L) r (c : Int)
    rw [HL.out.2.1] at hgl
    by_cases hlt : c < s
    · have hgs := grow_succ (l := L) r (c : Int)
      have hgl2 := grow_le (l := L) r ((c : Int) + 1)
      rw [HL.out.2.1] at hgl2
      obtain ⟨g, hg⟩ : ∃ g, growN L r (c : Int) = g := ⟨_, rfl⟩
      obtain ⟨g2, hg2⟩ : ∃ g2, (fndL L (r ++ [(c : Int)])).length = g2 := ⟨_, rfl⟩
      rw [hg2, hg] at hgs
      rw [hg] at hgl ⊢
      rw [hgs] at hgl2
      have HI := Lib.hid (And.intro hG (And.intro hR (And.intro hgs hg2)))
      have q1 : (c : Int) < (s : Int) := by omega
      have qw : IntKind.i64.wrap ((g : Int) + (g2 : Int)) = ((g + g2 : Nat) : Int) := by rw [show (g : Int) + (g2 : Int) = ((g + g2 : Nat) : Int) by omega]; exact IntWalk.i64_in _ (by omega)
      clear hG hR hg hgs hg2 H6
      go_wp2_with (first
        | (at_builtin
           refine wpList_append_nums rfl (.tmp 46) (.tmp 47) rfl wr.heap.size (.slice none 0 0) 0 [] rfl (World.ownsRow_nil _ _ _ _) R k rc r rfl HP.out.1 HI.out.2.1 HP.out.2.2 ?c2 ?c3 ?_))
      case c2 => omega
      case c3 => exact Nat.le_refl _
      intro v' w5 hown hgrow _
      have hO : OwnI wr v' r w5 := OwnI.app (l := []) (l' := r) ⟨World.ownsRow_nil _ _ _ _, Below.refl _ _⟩ (by rw [HP.out.1]; simpa using hown) hgrow
      clear hown hgrow
      have hA := HI.out.1.kept hO.2
      go_wp2
      try simp only [List.append_eq, List.cons_append, List.nil_append]
      refine wp_region_held_drew (S := fun w' => VG w u3 bx F L s B w') (by kernel_rfl) (hA.drew) (fun hHeld => ?_)
      replace hA := hA.drew
      refine wpAnyH_take (i := 0) (oi := ⟨some 49, _, _, _, _, _⟩) (v := ?_) rfl (by kernel_rfl) (by kernel_rfl) (by kernel_rfl) (fun _ _ _ h => h) (Or.inl ⟨by kernel_rfl, ?_⟩) (by assumption) ?_
      case refine_2 => (intro w hSw; go_simp; try (with_reducible rfl))
      try simp only [Act.put, List.setIfInBounds_toArray, List.set_cons_zero, List.set_cons_succ]
      refine wpAnyH_take (i := 1) (oi := ⟨some 50, _, _, _, _, _⟩) rfl (by kernel_rfl) (by kernel_rfl) (by kernel_rfl) (fun _ _ _ h => h) (yieldsIf_load_mid (by kernel_rfl) 36 _ rfl _ 0 rfl [.int .i64 (F.N : Int), .int .i64 F.Z, .slice F.wa F.wW F.wc, .int .i64 (F.R.n : Int), .slice F.R.a F.R.m F.R.c, .int .i64 (F.R.cn : Int), .int .i64 (F.R.cW : Int), .int .i64 (F.R.cL : Int), .slice F.R.a2 F.R.m2 F.R.c2, .int .i64 (F.S.n : Int), .int .i64 (F.S.W : Int), .int .i64 (F.S.L : Int), .slice F.S.a F.S.m F.S.c, .int .i64 (F.P.n : Int), .int .i64 (F.P.W : Int), .int .i64 (F.P.L : Int), .slice F.P.a F.P.m F.P.c] _ (fun w hw => MBx.range (VG.mx hw).box) Tryz.underlying36 rfl (by kernel_rfl)) (by assumption) ?_
      try simp only [Act.put, List.setIfInBounds_toArray, List.set_cons_zero, List.set_cons_succ]
      refine wpAnyH_take (i := 2) (oi := ⟨some 51, _, _, _, _, _⟩) (v := ?_) rfl (by kernel_rfl) (by kernel_rfl) (by kernel_rfl) (fun _ _ _ h => h) (Or.inl ⟨by kernel_rfl, ?_⟩) (by assumption) ?_
      case refine_2 => (intro w hSw; go_simp; try (with_reducible rfl))
      try simp only [Act.put, List.setIfInBounds_toArray, List.set_cons_zero, List.set_cons_succ]
      refine wpAnyH_take (i := 3) (oi := ⟨some 52, _, _, _, _, _⟩) (v := ?_) rfl (by kernel_rfl) (by kernel_rfl) (by kernel_rfl) (fun _ _ _ h => h) (Or.inl ⟨by kernel_rfl, ?_⟩) (by assumption) ?_
      case refine_2 => (intro w hSw; go_simp; try (with_reducible rfl))
      try simp only [Act.put, List.setIfInBounds_toArray, List.set_cons_zero, List.set_cons_succ]
      refine wpAnyH_ready (rs := [4]) (by kernel_rfl) (by simp) ?_
      refine AllReadyH.cons rfl (fun K hK => ?_) AllReadyH.nil
      go_simp
      replace hA := hA.kept (al _ (.cells #[.int .i64 (c : Int)] 3))
      replace hO := (hO.kept ((Below.refl _ _).drew)).alloc (.cells #[.int .i64 (c : Int)] 3)
      clear hHeld
      refine hK.out _ _ (hA) (fun hHeld => ?_)
      clear hK K
      try simp only [Act.put, List.setIfInBounds_toArray, List.set_cons_zero, List.set_cons_succ]
      refine wpAnyH_ready (rs := [5]) (by kernel_rfl) (by simp) ?_
      refine AllReadyH.cons rfl (fun K hK => ?_) AllReadyH.nil
      refine step_append_nums rfl (.tmp 51) (.tmp 53) rfl wr.heap.size _ _ _ rfl hO.1 ⟨_, 0, none⟩ 1 1 [(c : Int)] rfl rfl (nums_one _ _) (by rw [HP.out.1]; omega) (show _ ≤ _ from hO.2.size) ?_
      intro v'' w6 hown hgrow
      replace hO := hO.app (l' := r ++ [(c : Int)]) (by simpa using hown) hgrow
      replace hA := HI.out.1.kept hO.2
      clear hown hgrow
      obtain ⟨C, cc, rfl, hC, -, -⟩ := own_at hO
      have hcl : (r ++ [(c : Int)]).length = k + 1 := by rw [List.length_append, HP.out.1]; rfl
      rw [hcl]
      clear hHeld
      refine hK.out _ _ (hA) (fun hHeld => ?_)
      clear hK K
      try simp only [Act.put, List.setIfInBounds_toArray, List.set_cons_zero, List.set_cons_succ]
      refine wpAnyH_ready (rs := [6]) (by kernel_rfl) (by simp) ?_
      refine AllReadyH.cons rfl (fun K hK => ?_) AllReadyH.nil
      go_simp
      (with_reducible refine (count_mx hA.mx C (k + 1) cc (r ++ [(c : Int)]) hC hcl (by omega)).mono ?_)
      rintro e u ⟨rfl, hb, -⟩
      rw [HI.out.2.2.2]
      replace hA := hA.kept hb
      replace hO := hO.2.trans (hb.mono hO.2.size)
      clear hb
      clear hHeld
      refine hK.out _ _ (hA) (fun hHeld => ?_)
      clear hK K
      try simp only [Act.put, List.setIfInBounds_toArray, List.set_cons_zero, List.set_cons_succ]
      refine wpAnyH_take (i := 7) (oi := ⟨some 56, _, _, _, _, _⟩) (v := ?_) rfl (by kernel_rfl) (by kernel_rfl) (by kernel_rfl) (fun _ _ _ h => h) (Or.inl ⟨by kernel_rfl, ?_⟩) (by assumption) ?_
      case refine_2 => (intro w hSw; go_simp; try (with_reducible rfl))
      try simp only [Act.put, List.setIfInBounds_toArray, List.set_cons_zero, List.set_cons_succ]
      refine wpAnyH_take (i := 8) (oi := ⟨some 14, _, _, _, _, _⟩) (v := ?_) rfl (by kernel_rfl) (by kernel_rfl) (by kernel_rfl) (fun _ _ _ h => h) (Or.inl ⟨by kernel_rfl, ?_⟩) (by assumption) ?_
      case refine_2 => (intro w hSw; go_simp; try (with_reducible rfl))
      try simp only [Act.put, List.setIfInBounds_toArray, List.set_cons_zero, List.set_cons_succ]
      refine wpAnyH_done (by kernel_rfl) ?_ _
      clear hHeld
      have HE := Lib.hid (And.intro hA hO)
      clear hA hO hC hcl
      go_wp2
      go_roundw
      case rel => exact ⟨c + 1, by omega, by go_num, by rw [show ((c + 1 : Nat) : Int) = (c : Int) + 1 by omega, HI.out.2.2.1]; first | rfl | go_num, HE.out.1, HI.out.2.1.kept HE.out.2⟩
      case measure => first | (simp [intOf]; done) | (simp [intOf]; omega)
    · obtain rfl : c = s := by omega
      obtain ⟨s, hss⟩ : ∃ s, s = c := ⟨_, rfl⟩
      subst hss
      obtain ⟨G, hGG⟩ : ∃ G, growN L r (s : Int) = G := ⟨_, rfl⟩
      rw [hGG] at hgl ⊢
      have HGR := Lib.hid hGG
      have H7 := Lib.hid (And.intro hG hR)
      have q1 : ¬ (s : Int) < (s : Int) := by omega
      have he0 : decide (k ≤ n) = endB L r 0 := by
        unfold endB
        rw [HP.out.1, HL.out.2.1, List.range_zero, List.all_nil, Bool.and_true]
      have HE0 := Lib.hid he0
      clear hG hR hGG H6 he0
      go_wp2
      go_loopw [17, 18] (fun v17 v18 wr => ∃ i : Nat, i ≤ k ∧ v18 = .int .i64 (i : Int) ∧ v17 = .bool (endB L r i) ∧ VG w u3 bx F L s B wr ∧ NumsAt .i64 wr R r) (fun _ v18 _ => k - (intOf v18).toNat)
      case atStart => exact ⟨0, Nat.zero_le _, rfl, by rw [← HE0.out], H7.out.1, H7.out.2⟩
      case round =>
        obtain ⟨i, hik, rfl, rfl, hG, hR⟩ := hrel
        have HF := Lib.hid (And.intro hG hR)
        obtain ⟨g, hg⟩ : ∃ g, endB L r i = g := ⟨_, rfl⟩
        rw [hg]
        by_cases hlt : i < k
        · have q2 : (i : Int) < (k : Int) := by omega
          cases g with
          | true =>
            have hle := endB_le hg
            rw [HP.out.1, HL.out.2.1] at hle
            have hsu := endB_succ (l := L) r i
            rw [hg, Bool.true_and, HP.out.1, HL.out.2.1] at hsu
            obtain ⟨j, hj⟩ : ∃ j, n - k + i = j := ⟨_, rfl⟩
            rw [hj] at hsu
            obtain ⟨b1, o1, e1, l1, c1⟩ := num_at hG.nums (i := j) (by rw [HL.out.2.1]; omega)
            obtain ⟨b2, o2, e2, l2, c2⟩ := num_at hR (i := i) (by rw [HP.out.1]; omega)
            have h64a := HL.out.1 _ (getD_mem (b := 0) (l := L) (i := j) (by rw [HL.out.2.1]; omega))
            have h64b := HP.out.2.1 _ (getD_mem (b := 0) (l := r) (i := i) (by rw [HP.out.1]; omega))
            obtain ⟨x, hx⟩ : ∃ x, L.getD j 0 = x := ⟨_, rfl⟩
            obtain ⟨y, hy⟩ : ∃ y, r.getD i 0 = y := ⟨_, rfl⟩
            rw [hx] at c1 hsu h64a
            rw [hy] at c2 hsu h64b
            have HSU := Lib.hid hsu
            subst e1 e2
            clear hg hG hR hsu hx hy h64a h64b
            have q3 : IntKind.i64.wrap ((n : Int) - (k : Int)) = ((n - k : Nat) : Int) := by rw [show (n : Int) - (k : Int) = ((n - k : Nat) : Int) by omega]; exact IntWalk.i64_in _ (by omega)
            have q4 : IntKind.i64.wrap (((n - k : Nat) : Int) + (i : Int)) = (j : Int) := by rw [show ((n - k : Nat) : Int) + (i : Int) = (j : Int) by omega]; exact IntWalk.i64_in _ (by omega)
            have q5 : (j : Int) < (n : Int) := by omega
            have q6 : (0 : Int) ≤ (j : Int) := by omega
            have q7 : (0 : Int) ≤ (i : Int) := by omega
            clear hj
            go_wp2
            go_quiet (fail)
            have HK := Lib.hid (below_drN wr nq)
            go_wp2
            go_roundw
            case rel => exact ⟨i + 1, by omega, by go_num, by rw [HSU.out]; first | rfl | trivial, HF.out.1.kept HK.out, HF.out.2.kept HK.out⟩
            case measure => first | (simp [intOf]; done) | (simp [intOf]; omega)
          | false =>
            have hen := endB_down hg (k - i)
            rw [show i + (k - i) = k by omega] at hen
            have HEN := Lib.hid hen
            clear hg hen hG hR H7 HE0
            have hge := grow_end (l := L) r (s : Int) (fun x hx => (HL.out.1 x hx).2)
            rw [HP.out.1, HEN.out, HGR.out, if_neg (by decide)] at hge
            have hcn := count_mx HF.out.1.mx R k rc r HF.out.2 HP.out.1 (by omega)
            rw [hge] at hcn
            have HC := Lib.hid hcn
            clear hge hcn
            go_wp2_with (refine load36 HF.out.1.mx.box _ (by with_reducible rfl) rfl rfl ?_)
            (with_reducible refine HC.out.mono ?_)
            rintro e u9 ⟨rfl, hb, -⟩
            have HB := Lib.hid (HF.out.1.bel.trans (hb.mono HF.out.1.lt))
            clear hb HF HC
            go_wp2
            go_ret
            exact ⟨rfl, HB.out⟩
        · obtain rfl : i = k := by omega
          obtain ⟨k, hkk⟩ : ∃ k, k = i := ⟨_, rfl⟩
          subst hkk
          have HEN := Lib.hid hg
          have q2 : ¬ (k : Int) < (k : Int) := by omega
          clear hg hG hR H7 HE0
          cases g with
          | true =>
            have hge := grow_end (l := L) r (s : Int) (fun x hx => (HL.out.1 x hx).2)
            rw [HP.out.1, HEN.out, HGR.out, if_pos rfl] at hge
            have hcn := count_mx HF.out.1.mx R k rc r HF.out.2 HP.out.1 (by omega)
            rw [hge] at hcn
            have qw2 : IntKind.i64.wrap ((G : Int) + 1) = ((G + 1 : Nat) : Int) := by rw [show (G : Int) + 1 = ((G + 1 : Nat) : Int) by omega]; exact IntWalk.i64_in _ (by omega)
            have HC := Lib.hid hcn
            clear hge hcn
            go_wp2_with (refine load36 HF.out.1.mx.box _ (by with_reducible rfl) rfl rfl ?_)
            (with_reducible refine HC.out.mono ?_)
            rintro e u9 ⟨rfl, hb, -⟩
            have HB := Lib.hid (HF.out.1.bel.trans (hb.mono HF.out.1.lt))
            clear hb HF HC
            go_wp2
            go_ret
            exact ⟨rfl, HB.out⟩
          | false =>
            have hge := grow_end (l := L) r (s : Int) (fun x hx => (HL.out.1 x hx).2)
            rw [HP.out.1, HEN.out, HGR.out, if_neg (by decide)] at hge
            have hcn := count_mx HF.out.1.mx R k rc r HF.out.2 HP.out.1 (by omega)
            rw [hge] at hcn
            have HC := Lib.hid hcn
            clear hge hcn
            go_wp2_with (refine load36 HF.out.1.mx.box _ (by with_reducible rfl) rfl rfl ?_)
            (with_reducible refine HC.out.mono ?_)
            rintro e u9 ⟨rfl, hb, -⟩
            have HB := Lib.hid (HF.out.1.bel.trans (hb.mono HF.out.1.lt))
            clear hb HF HC
            go_wp2
            go_ret
            exact ⟨rfl, HB.out⟩

end Go.Proofs.YtbcjepkfjbibfaaGreat
