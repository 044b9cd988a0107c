/- The contract of Extract. -/
import Derived.Test.YtpnjccomngdblaaGreatZE
import Derived.Test.YtpnjccomngdblaaGreatOO
import Derived.Deep.CutRange
import Derived.Deep.CutBlock
set_option maxRecDepth 100000
namespace Go.Proofs.YtpnjccomngdblaaGreat
open Go.RowKit
open M
attribute [local go_sem ↓] Go.wp_at_zero Go.wp_at_succ

variable {w u : World} {b : Nat} {F : FQ} {l : List Int} {size : Nat}

theorem mark_any (x : Nat) (w : World) (hx : x ≤ 1000000) : Calls Tryz.prog 40 #[.int .i64 (x : Int)] w fun e w' => e = .returned (.int .i64 (mfN x : Nat)) ∧ w' = w := by
  have e : (mfN x : Int) = ((x : Int) + 7) / 8 := by unfold mfN; omega
  obtain ⟨m, hm⟩ : ∃ m, mfN x = m := ⟨_, rfl⟩
  rw [hm] at e ⊢
  clear hm
  have q1 : IntKind.i64.wrap ((x : Int) + 8) = (x : Int) + 8 := IntWalk.i64_in _ (by omega)
  have q2 : IntKind.i64.wrap ((x : Int) + 8 - 1) = (x : Int) + 7 := by rw [show (x : Int) + 8 - 1 = (x : Int) + 7 by omega]; exact IntWalk.i64_in _ (by omega)
  have q3 : ((x : Int) + 7).tdiv 8 = (m : Int) := by rw [Int.tdiv_eq_ediv_of_nonneg (by omega)]; omega
  have q4 : IntKind.i64.wrap (m : Int) = (m : Int) := IntWalk.i64_in _ (by omega)
  have q5 : ((8 : Int) == 0) = false := rfl
  clear e
  go_enter Tryz.func40, Tryz.ntmps40
  go_wp2
  go_ret
  exact ⟨rfl, rfl⟩

theorem MBx.set (h : MBx w b F) {p : Addr} (hne : p.block ≠ b) (v : Value) : MBx (w.setCell p v) b F := by
  have cl : ∀ o, (w.setCell p v).cell? ⟨b, o, none⟩ = w.cell? ⟨b, o, none⟩ := fun o => World.cell?_setCell_other _ _ _ _ (fun e => hne (congrArg Addr.block e))
  exact ⟨by rw [cl]; exact h.c0, by rw [cl]; exact h.c1, by rw [cl]; exact h.c2, by rw [cl]; exact h.c3, by rw [cl]; exact h.c4, by rw [cl]; exact h.c5, by rw [cl]; exact h.c6, by rw [cl]; exact h.c7, by rw [cl]; exact h.c8, by rw [cl]; exact h.c9, by rw [cl]; exact h.c10, by rw [cl]; exact h.c11, by rw [cl]; exact h.c12, by rw [cl]; exact h.c13, by rw [cl]; exact h.c14, by rw [cl]; exact h.c15, by rw [cl]; exact h.c16⟩

/-- So many symbols from a place on. -/
def exL (l : List Int) (i m : Int) : List Int := (l.drop (lo l.length i)).take m.toNat
theorem exL_at (l : List Int) (i m : Int) (f k j : Nat) (hf : lo l.length i = f) (hk : (exL l i m).length = k) (hj : j < k) : (exL l i m).getD j 0 = l.getD (f + j) 0 := by
  unfold exL at hk ⊢
  rw [hf] at hk ⊢
  rw [List.length_take, List.length_drop] at hk
  have h1 : j < m.toNat := by omega
  simp [List.getD_eq_getElem?_getD, h1]
theorem exL_len (l : List Int) (i m : Int) : (exL l i m).length = min m.toNat (l.length - lo l.length i) := by
  unfold exL
  rw [List.length_take, List.length_drop]

/-- What is held while the symbols are written. -/
structure EX (u : World) (bx : Nat) (F : FQ) (l : List Int) (size D k : Nat) (d : Nat → Int) (wr : World) : Prop where
  mx : MX u bx F l size wr
  di : DI u D k d wr
  ne : D ≠ bx
theorem EX.kept {bx D k : Nat} {d : Nat → Int} {wr w' : World} (h : EX u bx F l size D k d wr) (hb : Below wr.heap.size wr w') : EX u bx F l size D k d w' := ⟨h.mx.kept hb, h.di.kept hb, h.ne⟩
theorem EX.drew {bx D k : Nat} {d : Nat → Int} {wr : World} (h : EX u bx F l size D k d wr) : EX u bx F l size D k d wr.drew := h.kept ((Below.refl _ _).drew)
theorem EX.set {bx D k : Nat} {d : Nat → Int} {wr : World} (h : EX u bx F l size D k d wr) (h0 : FMI u F l size) {i : Nat} (hi : i < k) (x : Int) : EX u bx F l size D k (fun j => if j = i then x else d j) (wr.setCell ⟨D, i, none⟩ (.int .i64 x)) :=
  ⟨⟨h.mx.box.set h.ne _, h0.kept (h.di.set hi x).bel, (h.di.set hi x).bel⟩, h.di.set hi x, h.ne⟩
theorem EX.congr {bx D k : Nat} {d d' : Nat → Int} {wr : World} (h : EX u bx F l size D k d wr) (hd : ∀ i, i < k → d i = d' i) : EX u bx F l size D k d' wr := ⟨h.mx, h.di.congr hd, h.ne⟩

theorem EX.via {bx D k N : Nat} {d : Nat → Int} {wr : World} {args : Array Value} {R : Ending} (h : EX u bx F l size D k d wr) (hc : ∀ w, MX w bx F l size wr → Calls Tryz.prog N args wr fun e u' => e = R ∧ MX w bx F l size u') :
    Calls Tryz.prog N args wr fun e u' => e = R ∧ EX u bx F l size D k d u' :=
  (hc wr ⟨h.mx.box, h.mx.fm, Below.refl _ _⟩).mono fun _ _ hh => ⟨hh.1, h.kept hh.2.bel⟩

set_option maxHeartbeats 4000000 in
theorem extract_any (h : FMI u F l size) (i m : Int) (hm : m ≤ 9223372036854775807) (hm2 : -9223372036854775808 ≤ m) : Calls Tryz.prog 20 #[.agg #[.int .i64 (F.N : Int), .int .i64 F.Z, .slice F.wa F.wW F.wc, .int .i64 (F.R.n : Int), .slice F.R.a F.R.m F.R.c, .int .i64 (F.R.cn : Int), .int .i64 (F.R.cW : Int), .int .i64 (F.R.cL : Int), .slice F.R.a2 F.R.m2 F.R.c2, .int .i64 (F.S.n : Int), .int .i64 (F.S.W : Int), .int .i64 (F.S.L : Int), .slice F.S.a F.S.m F.S.c, .int .i64 (F.P.n : Int), .int .i64 (F.P.W : Int), .int .i64 (F.P.L : Int), .slice F.P.a F.P.m F.P.c], .int .i64 i, .int .i64 m] u fun e u' =>
    ∃ D, e = .returned (.slice (some ⟨D, 0, none⟩) (exL l i m).length (exL l i m).length) ∧ NumsAt .i64 u' (some ⟨D, 0, none⟩) (exL l i m) ∧ Below u.heap.size u u' := by
  have hA := MX.new h
  have hnn := h.nn
  have h64 := h.i64
  have hl := h.len
  have hel := exL_len l i m
  have hea := exL_at l i m
  obtain ⟨E, hE⟩ : ∃ E, exL l i m = E := ⟨_, rfl⟩
  rw [hE] at hel ⊢
  simp only [hE] at hea
  clear hE
  obtain ⟨k, hk⟩ : ∃ k, E.length = k := ⟨_, rfl⟩
  obtain ⟨n, hn⟩ : ∃ n, l.length = n := ⟨_, rfl⟩
  obtain ⟨f, hf⟩ : ∃ f, lo l.length i = f := ⟨_, rfl⟩
  rw [hk, hf, hn] at hel
  have hea := hea f k
  have hea := fun j hj => hea j hf hk hj
  rw [hk]
  unfold lo at hf
  rw [hn] at hf hl
  have hfn : f ≤ n := by omega
  have hkn : f + k ≤ n := by omega
  have hf1 : i < 0 → f = 0 := by omega
  have hf2 : 0 ≤ i → i ≤ n → (f : Int) = i := by omega
  have hf3 : (n : Int) < i → f = n := by omega
  have hk1 : m < 0 → k = 0 := by omega
  have hk2 : 0 ≤ m → m ≤ (n : Int) - f → (k : Int) = m := by omega
  have hk3 : (n : Int) - f < m → (k : Int) = (n : Int) - f := by omega
  have HX := Lib.hid (And.intro hnn (And.intro h64 (And.intro hn (And.intro h (And.intro hea hk)))))
  have HF := Lib.hid (And.intro hf1 (And.intro hf2 hf3))
  have HK := Lib.hid (And.intro hk1 (And.intro hk2 hk3))
  have hfl : ∀ (bx : Nat) (w' : World), MX u bx F l size w' → Calls Tryz.prog 36 #[.agg #[.int .i64 (F.N : Int), .int .i64 F.Z, .slice F.wa F.wW F.wc, .int .i64 (F.R.n : Int), .slice F.R.a F.R.m F.R.c, .int .i64 (F.R.cn : Int), .int .i64 (F.R.cW : Int), .int .i64 (F.R.cL : Int), .slice F.R.a2 F.R.m2 F.R.c2, .int .i64 (F.S.n : Int), .int .i64 (F.S.W : Int), .int .i64 (F.S.L : Int), .slice F.S.a F.S.m F.S.c, .int .i64 (F.P.n : Int), .int .i64 (F.P.W : Int), .int .i64 (F.P.L : Int), .slice F.P.a F.P.m F.P.c]] w' fun e u' => e = .returned (.int .i64 (n : Int)) ∧ MX u bx F l size u' := fun bx w' hw => by rw [← hn]; exact flen_mx hw
  have HL := Lib.hid hfl
  have HA := Lib.hid hA
  clear h hnn h64 hA hel hea hf hk hn hf1 hf2 hf3 hk1 hk2 hk3 hfl
  obtain ⟨i0, hi, hz0, hz1, hz2⟩ := info_parts info3
  go_enter Tryz.func20, Tryz.ntmps20
  go_wp2
  obtain ⟨w0, hw0⟩ : ∃ w0, u.alloc (.cells #[.int .i64 (F.N : Int), .int .i64 F.Z, .slice F.wa F.wW F.wc, .int .i64 (F.R.n : Int), .slice F.R.a F.R.m F.R.c, .int .i64 (F.R.cn : Int), .int .i64 (F.R.cW : Int), .int .i64 (F.R.cL : Int), .slice F.R.a2 F.R.m2 F.R.c2, .int .i64 (F.S.n : Int), .int .i64 (F.S.W : Int), .int .i64 (F.S.L : Int), .slice F.S.a F.S.m F.S.c, .int .i64 (F.P.n : Int), .int .i64 (F.P.W : Int), .int .i64 (F.P.L : Int), .slice F.P.a F.P.m F.P.c] 37) = w0 := ⟨_, rfl⟩
  obtain ⟨bx, hbx⟩ : ∃ bx, u.heap.size = bx := ⟨_, rfl⟩
  rw [hw0, hbx] at HA
  simp only [hw0, hbx]
  clear hw0
  have HBX := Lib.hid hbx
  clear hbx
  have q1 : IntKind.i64.wrap ((n : Int) - (f : Int)) = (n : Int) - (f : Int) := IntWalk.i64_in _ (by omega)
  obtain ⟨y, hy⟩ : ∃ y, f + k = y := ⟨_, rfl⟩
  have q2 : IntKind.i64.wrap ((f : Int) + (k : Int)) = (y : Int) := by rw [← hy, Int.natCast_add]; exact IntWalk.i64_in _ (by omega)
  go_step3
  go_upto_region 1 with fail
  go_cut [1] from 14 to 18 (fun v1 wx => v1 = .int .i64 (f : Int) ∧ MX u bx F l size wx)
  case first =>
    go_wp2_with (first | (refine load36 HA.out.box _ rfl rfl rfl ?_) | (go_at_call 36; (with_reducible refine (HL.out bx _ HA.out).mono ?_); rintro e u1 ⟨rfl, hA⟩))
    all_goals go_meet
    all_goals
      refine ⟨?_, hA⟩
      obtain ⟨f1, f2, f3⟩ := HF.out
      simp only [Value.int.injEq, true_and]
      omega
  case rest =>
    obtain ⟨rfl, hA⟩ := hcut
    clear HA
    have HA := Lib.hid hA
    clear hA
    go_upto_region 2 with fail
    go_cut [2] from 19 to 25 (fun v2 wx => v2 = .int .i64 (k : Int) ∧ MX u bx F l size wx)
    case first =>
      go_wp2_with (first | (refine load36 HA.out.box _ rfl rfl rfl ?_) | (go_at_call 36; (with_reducible refine (HL.out bx _ HA.out).mono ?_); rintro e u1 ⟨rfl, hA⟩))
      all_goals go_meet
      all_goals
        refine ⟨?_, hA⟩
        obtain ⟨f1, f2, f3⟩ := HK.out
        simp only [Value.int.injEq, true_and]
        omega
    case rest =>
      obtain ⟨rfl, hA⟩ := hcut
      clear HA
      have HA := Lib.hid hA
      have hs1 := hA.bel.size
      clear hA
      go_wp2_with (first
        | (at_make; refine wpList_make_full _ rfl _ _ 38 rfl _ 3 i0 (.int .i64 0) 1 Tryz.underlying38 hi hz0 hz1 _ _ _ _ k rfl rfl rfl rfl ?b2 ?b3 (Nat.le_refl _) ?_))
      case b2 => rw [hz2]; omega
      case b3 => unfold maxLen; omega
      intro w1 hown hgrow
      have hD := DI.made HA.out.bel hown hgrow
      have hX : EX u bx F l size wc.heap.size k (fun _ => 0) w1 := ⟨HA.out.kept (below_grown hgrow), hD, by have := HA.out.box.lt; omega⟩
      have HD := Lib.hid hX
      clear hown hgrow hD hX hi hz0 hz1 hz2 hs1 HA
      obtain ⟨D, hDe⟩ : ∃ D, wc.heap.size = D := ⟨_, rfl⟩
      rw [hDe] at HD
      simp only [hDe]
      clear hDe
      have hmf : mfN y ≤ mfN n ∧ y ≤ 8 * mfN y := by unfold mfN; omega
      have hmk := fun w => mark_any y w (by omega)
      have hpc := pcL_at l (t := mfN y) (by rw [HX.out.2.2.1]; exact hmf.1)
      have hpl : mfN y < (pcL l).length := by rw [pcL_len, HX.out.2.2.1]; omega
      obtain ⟨t, ht⟩ : ∃ t, mfN y = t := ⟨_, rfl⟩
      rw [ht] at hmk hmf hpc hpl
      rw [HX.out.2.2.1] at hpc
      have htn : t ≤ 200 := by
        have : mfN n ≤ 200 := by unfold mfN; omega
        omega
      obtain ⟨g, hg⟩ : ∃ g, min (8 * t) n = g := ⟨_, rfl⟩
      rw [hg] at hpc
      have hgn : g ≤ n := by omega
      have hgf : y ≤ g := by omega
      have hat := fun (w' : World) (hw : EX u bx F l size D k (fun _ => 0) w') => hw.via fun w hx => plc_mx (t : Int) hx
      rw [atI_in _ _ hpl, hpc] at hat
      have hln := fun (w' : World) (hw : EX u bx F l size D k (fun _ => 0) w') => hw.via fun w hx => flen_mx hx
      rw [HX.out.2.2.1] at hln
      have HM := Lib.hid (And.intro hat hln)
      have HMK := Lib.hid hmk
      have HG := Lib.hid hg
      have hg1 : (n : Int) < (t : Int) * 8 → g = n := by omega
      have hg2 : ¬ (n : Int) < (t : Int) * 8 → (g : Int) = (t : Int) * 8 := by omega
      have HG2 := Lib.hid (And.intro hg1 hg2)
      have q3 : IntKind.i64.wrap ((t : Int) * 8) = (t : Int) * 8 := IntWalk.i64_in _ (by omega)
      clear hat hln hmk hg hmf hpc hpl ht hg1 hg2
      go_wp2_with fail
      (with_reducible refine (HMK.out _).mono ?_)
      rintro e u2 ⟨rfl, rfl⟩
      clear HMK
      go_upto_region 5 with fail
      go_cut [9, 10] from 32 to 40 (fun v9 v10 wx => v9 = .int .i64 (plR l g : Nat) ∧ v10 = .int .i64 (g : Int) ∧ EX u bx F l size D k (fun _ => 0) wx)
      case first =>
        have hA := HD.out
        by_cases hlt : (n : Int) < (t : Int) * 8
        · skip
          try simp only [List.append_eq, List.cons_append, List.nil_append]
          refine wp_region_held_drew (S := fun w' => EX u bx F l size D k (fun _ => 0) w') (by kernel_rfl) (hA.drew) (fun hHeld => ?_)
          replace hA := hA.drew
          refine wpAnyH_take (i := 0) (oi := ⟨some 32, _, _, _, _, _⟩) (v := ?_) rfl (by kernel_rfl) (by kernel_rfl) (by kernel_rfl) (fun _ _ _ h => h) (Or.inl ⟨by kernel_rfl, ?_⟩) (by assumption) ?_
          case refine_2 => (intro w hSw; go_simp; try (with_reducible rfl))
          try simp only [Act.put, List.setIfInBounds_toArray, List.set_cons_zero, List.set_cons_succ]
          refine wpAnyH_take (i := 1) (oi := ⟨some 33, _, _, _, _, _⟩) (v := ?_) rfl (by kernel_rfl) (by kernel_rfl) (by kernel_rfl) (fun _ _ _ h => h) (Or.inl ⟨by kernel_rfl, ?_⟩) (by assumption) ?_
          case refine_2 => (intro w hSw; obtain ⟨x0, x1, x2, x3, x4, x5, x6, x7, x8, x9, x10, x11, x12, x13, x14, x15, x16⟩ := (EX.mx hSw).box.cells; go_simp; try (with_reducible rfl))
          try simp only [Act.put, List.setIfInBounds_toArray, List.set_cons_zero, List.set_cons_succ]
          refine wpAnyH_take (i := 2) (oi := ⟨some 34, _, _, _, _, _⟩) (v := ?_) rfl (by kernel_rfl) (by kernel_rfl) (by kernel_rfl) (fun _ _ _ h => h) (Or.inl ⟨by kernel_rfl, ?_⟩) (by assumption) ?_
          case refine_2 => (intro w hSw; go_simp; try (with_reducible rfl))
          try simp only [Act.put, List.setIfInBounds_toArray, List.set_cons_zero, List.set_cons_succ]
          refine wpAnyH_take (i := 4) (oi := ⟨some 36, _, _, _, _, _⟩) (v := ?_) rfl (by kernel_rfl) (by kernel_rfl) (by kernel_rfl) (fun _ _ _ h => h) (Or.inl ⟨by kernel_rfl, ?_⟩) (by assumption) ?_
          case refine_2 => (intro w hSw; go_simp; try (with_reducible rfl))
          try simp only [Act.put, List.setIfInBounds_toArray, List.set_cons_zero, List.set_cons_succ]
          refine wpAnyH_take (i := 5) (oi := ⟨some 37, _, _, _, _, _⟩) (v := ?_) rfl (by kernel_rfl) (by kernel_rfl) (by kernel_rfl) (fun _ _ _ h => h) (Or.inl ⟨by kernel_rfl, ?_⟩) (by assumption) ?_
          case refine_2 => (intro w hSw; go_simp; try (with_reducible rfl))
          try simp only [Act.put, List.setIfInBounds_toArray, List.set_cons_zero, List.set_cons_succ]
          refine wpAnyH_take (i := 6) (oi := ⟨some 38, _, _, _, _, _⟩) rfl (by kernel_rfl) (by kernel_rfl) (by kernel_rfl) (fun _ _ _ h => h) (yieldsIf_load_mid (by kernel_rfl) 37 _ rfl _ 0 rfl [.int .i64 (F.N : Int), .int .i64 F.Z, .slice F.wa F.wW F.wc, .int .i64 (F.R.n : Int), .slice F.R.a F.R.m F.R.c, .int .i64 (F.R.cn : Int), .int .i64 (F.R.cW : Int), .int .i64 (F.R.cL : Int), .slice F.R.a2 F.R.m2 F.R.c2, .int .i64 (F.S.n : Int), .int .i64 (F.S.W : Int), .int .i64 (F.S.L : Int), .slice F.S.a F.S.m F.S.c, .int .i64 (F.P.n : Int), .int .i64 (F.P.W : Int), .int .i64 (F.P.L : Int), .slice F.P.a F.P.m F.P.c] _ (fun w hw => MBx.range (MX.box (EX.mx hw))) Tryz.underlying37 rfl (by kernel_rfl)) (by assumption) ?_
          try simp only [Act.put, List.setIfInBounds_toArray, List.set_cons_zero, List.set_cons_succ]
          refine wpAnyH_ready (rs := [3]) (by kernel_rfl) (by simp) ?_
          refine AllReadyH.cons rfl (fun K hK => ?_) AllReadyH.nil
          go_simp
          (with_reducible refine (HM.out.1 _ hA).mono ?_)
          rintro e u ⟨rfl, hA'⟩
          replace hA := hA'
          clear hA'
          clear hHeld
          refine hK.out _ _ (hA) (fun hHeld => ?_)
          clear hK K
          try simp only [Act.put, List.setIfInBounds_toArray, List.set_cons_zero, List.set_cons_succ]
          refine wpAnyH_ready (rs := [7]) (by kernel_rfl) (by simp) ?_
          refine AllReadyH.cons rfl (fun K hK => ?_) AllReadyH.nil
          go_simp
          (with_reducible refine (HM.out.2 _ hA).mono ?_)
          rintro e u ⟨rfl, hA'⟩
          replace hA := hA'
          clear hA'
          clear hHeld
          refine hK.out _ _ (hA) (fun hHeld => ?_)
          clear hK K
          try simp only [Act.put, List.setIfInBounds_toArray, List.set_cons_zero, List.set_cons_succ]
          refine wpAnyH_take (i := 8) (oi := ⟨some 40, _, _, _, _, _⟩) (v := ?_) rfl (by kernel_rfl) (by kernel_rfl) (by kernel_rfl) (fun _ _ _ h => h) (Or.inl ⟨by kernel_rfl, ?_⟩) (by assumption) ?_
          case refine_2 => (intro w hSw; go_simp; try (with_reducible rfl))
          try simp only [Act.put, List.setIfInBounds_toArray, List.set_cons_zero, List.set_cons_succ]
          refine wpAnyH_take (i := 9) (oi := ⟨some 9, _, _, _, _, _⟩) (v := ?_) rfl (by kernel_rfl) (by kernel_rfl) (by kernel_rfl) (fun _ _ _ h => h) (Or.inl ⟨by kernel_rfl, ?_⟩) (by assumption) ?_
          case refine_2 => (intro w hSw; go_simp; try (with_reducible rfl))
          try simp only [Act.put, List.setIfInBounds_toArray, List.set_cons_zero, List.set_cons_succ]
          refine wpAnyH_take (i := 10) (oi := ⟨some 10, _, _, _, _, _⟩) (v := ?_) rfl (by kernel_rfl) (by kernel_rfl) (by kernel_rfl) (fun _ _ _ h => h) (Or.inl ⟨by kernel_rfl, ?_⟩) (by assumption) ?_
          case refine_2 => (intro w hSw; go_simp; try (with_reducible rfl))
          try simp only [Act.put, List.setIfInBounds_toArray, List.set_cons_zero, List.set_cons_succ]
          refine wpAnyH_done (by kernel_rfl) ?_ _
          clear hHeld
          have HB := Lib.hid hA
          clear hA
          go_wp2
          all_goals go_meet
          all_goals exact ⟨rfl, by rw [HG2.out.1 hlt], HB.out⟩
        · skip
          try simp only [List.append_eq, List.cons_append, List.nil_append]
          refine wp_region_held_drew (S := fun w' => EX u bx F l size D k (fun _ => 0) w') (by kernel_rfl) (hA.drew) (fun hHeld => ?_)
          replace hA := hA.drew
          refine wpAnyH_take (i := 0) (oi := ⟨some 32, _, _, _, _, _⟩) (v := ?_) rfl (by kernel_rfl) (by kernel_rfl) (by kernel_rfl) (fun _ _ _ h => h) (Or.inl ⟨by kernel_rfl, ?_⟩) (by assumption) ?_
          case refine_2 => (intro w hSw; go_simp; try (with_reducible rfl))
          try simp only [Act.put, List.setIfInBounds_toArray, List.set_cons_zero, List.set_cons_succ]
          refine wpAnyH_take (i := 1) (oi := ⟨some 33, _, _, _, _, _⟩) (v := ?_) rfl (by kernel_rfl) (by kernel_rfl) (by kernel_rfl) (fun _ _ _ h => h) (Or.inl ⟨by kernel_rfl, ?_⟩) (by assumption) ?_
          case refine_2 => (intro w hSw; obtain ⟨x0, x1, x2, x3, x4, x5, x6, x7, x8, x9, x10, x11, x12, x13, x14, x15, x16⟩ := (EX.mx hSw).box.cells; go_simp; try (with_reducible rfl))
          try simp only [Act.put, List.setIfInBounds_toArray, List.set_cons_zero, List.set_cons_succ]
          refine wpAnyH_take (i := 2) (oi := ⟨some 34, _, _, _, _, _⟩) (v := ?_) rfl (by kernel_rfl) (by kernel_rfl) (by kernel_rfl) (fun _ _ _ h => h) (Or.inl ⟨by kernel_rfl, ?_⟩) (by assumption) ?_
          case refine_2 => (intro w hSw; go_simp; try (with_reducible rfl))
          try simp only [Act.put, List.setIfInBounds_toArray, List.set_cons_zero, List.set_cons_succ]
          refine wpAnyH_take (i := 4) (oi := ⟨some 36, _, _, _, _, _⟩) (v := ?_) rfl (by kernel_rfl) (by kernel_rfl) (by kernel_rfl) (fun _ _ _ h => h) (Or.inl ⟨by kernel_rfl, ?_⟩) (by assumption) ?_
          case refine_2 => (intro w hSw; go_simp; try (with_reducible rfl))
          try simp only [Act.put, List.setIfInBounds_toArray, List.set_cons_zero, List.set_cons_succ]
          refine wpAnyH_take (i := 5) (oi := ⟨some 37, _, _, _, _, _⟩) (v := ?_) rfl (by kernel_rfl) (by kernel_rfl) (by kernel_rfl) (fun _ _ _ h => h) (Or.inl ⟨by kernel_rfl, ?_⟩) (by assumption) ?_
          case refine_2 => (intro w hSw; go_simp; try (with_reducible rfl))
          try simp only [Act.put, List.setIfInBounds_toArray, List.set_cons_zero, List.set_cons_succ]
          refine wpAnyH_take (i := 6) (oi := ⟨some 38, _, _, _, _, _⟩) rfl (by kernel_rfl) (by kernel_rfl) (by kernel_rfl) (fun _ _ _ h => h) (yieldsIf_load_mid (by kernel_rfl) 37 _ rfl _ 0 rfl [.int .i64 (F.N : Int), .int .i64 F.Z, .slice F.wa F.wW F.wc, .int .i64 (F.R.n : Int), .slice F.R.a F.R.m F.R.c, .int .i64 (F.R.cn : Int), .int .i64 (F.R.cW : Int), .int .i64 (F.R.cL : Int), .slice F.R.a2 F.R.m2 F.R.c2, .int .i64 (F.S.n : Int), .int .i64 (F.S.W : Int), .int .i64 (F.S.L : Int), .slice F.S.a F.S.m F.S.c, .int .i64 (F.P.n : Int), .int .i64 (F.P.W : Int), .int .i64 (F.P.L : Int), .slice F.P.a F.P.m F.P.c] _ (fun w hw => MBx.range (MX.box (EX.mx hw))) Tryz.underlying37 rfl (by kernel_rfl)) (by assumption) ?_
          try simp only [Act.put, List.setIfInBounds_toArray, List.set_cons_zero, List.set_cons_succ]
          refine wpAnyH_ready (rs := [3]) (by kernel_rfl) (by simp) ?_
          refine AllReadyH.cons rfl (fun K hK => ?_) AllReadyH.nil
          go_simp
          (with_reducible refine (HM.out.1 _ hA).mono ?_)
          rintro e u ⟨rfl, hA'⟩
          replace hA := hA'
          clear hA'
          clear hHeld
          refine hK.out _ _ (hA) (fun hHeld => ?_)
          clear hK K
          try simp only [Act.put, List.setIfInBounds_toArray, List.set_cons_zero, List.set_cons_succ]
          refine wpAnyH_ready (rs := [7]) (by kernel_rfl) (by simp) ?_
          refine AllReadyH.cons rfl (fun K hK => ?_) AllReadyH.nil
          go_simp
          (with_reducible refine (HM.out.2 _ hA).mono ?_)
          rintro e u ⟨rfl, hA'⟩
          replace hA := hA'
          clear hA'
          clear hHeld
          refine hK.out _ _ (hA) (fun hHeld => ?_)
          clear hK K
          try simp only [Act.put, List.setIfInBounds_toArray, List.set_cons_zero, List.set_cons_succ]
          refine wpAnyH_take (i := 8) (oi := ⟨some 40, _, _, _, _, _⟩) (v := ?_) rfl (by kernel_rfl) (by kernel_rfl) (by kernel_rfl) (fun _ _ _ h => h) (Or.inl ⟨by kernel_rfl, ?_⟩) (by assumption) ?_
          case refine_2 => (intro w hSw; go_simp; try (with_reducible rfl))
          try simp only [Act.put, List.setIfInBounds_toArray, List.set_cons_zero, List.set_cons_succ]
          refine wpAnyH_take (i := 9) (oi := ⟨some 9, _, _, _, _, _⟩) (v := ?_) rfl (by kernel_rfl) (by kernel_rfl) (by kernel_rfl) (fun _ _ _ h => h) (Or.inl ⟨by kernel_rfl, ?_⟩) (by assumption) ?_
          case refine_2 => (intro w hSw; go_simp; try (with_reducible rfl))
          try simp only [Act.put, List.setIfInBounds_toArray, List.set_cons_zero, List.set_cons_succ]
          refine wpAnyH_take (i := 10) (oi := ⟨some 10, _, _, _, _, _⟩) (v := ?_) rfl (by kernel_rfl) (by kernel_rfl) (by kernel_rfl) (fun _ _ _ h => h) (Or.inl ⟨by kernel_rfl, ?_⟩) (by assumption) ?_
          case refine_2 => (intro w hSw; go_simp; try (with_reducible rfl))
          try simp only [Act.put, List.setIfInBounds_toArray, List.set_cons_zero, List.set_cons_succ]
          refine wpAnyH_done (by kernel_rfl) ?_ _
          clear hHeld
          have HB := Lib.hid hA
          clear hA
          go_wp2
          all_goals go_meet
          all_goals exact ⟨rfl, by rw [HG2.out.2 hlt], HB.out⟩
      case rest =>
        obtain ⟨rfl, rfl, hA⟩ := hcut
        clear HD HM HG HG2 q3
        have HA := Lib.hid hA
        clear hA
        have q4 : IntKind.i64.wrap ((g : Int) - 1) = (g : Int) - 1 := IntWalk.i64_in _ (by omega)
        go_wp2_with (refine load36 HA.out.mx.box _ rfl rfl rfl ?_)
        go_step3
        go_wp2
        go_loopw [9, 12, 13] (fun v9 v12 _ wr => ∃ e : Nat, f ≤ e ∧ e ≤ g ∧ v12 = .int .i64 ((e : Int) - 1) ∧ v9 = .int .i64 (plR l e : Nat) ∧ EX u bx F l size D k (fun j => if e ≤ f + j then l.getD (f + j) 0 else 0) wr) (fun _ v12 _ _ => (intOf v12 + 1).toNat)
        case atStart => exact ⟨g, by omega, Nat.le_refl _, rfl, rfl, HA.out.congr fun j hj => by rw [if_neg (by omega)]⟩
        case round =>
          obtain ⟨e, hfe, heg, rfl, rfl, hA⟩ := hrel
          clear HA q4
          by_cases hef : e = f
          · subst hef
            have HB := Lib.hid hA
            have q5 : ¬ (e : Int) ≤ (e : Int) - 1 := by omega
            clear hA
            go_wp2
            try rw [Exit.noGoto_ret]
            go_ret
            refine ⟨D, rfl, HB.out.di.nums HX.out.2.2.2.2.2 fun j hj => ?_, HB.out.di.bel⟩
            rw [if_pos (by omega), HX.out.2.2.2.2.1 j hj]
          · obtain ⟨q, rfl⟩ : ∃ q, e = q + 1 := ⟨e - 1, by omega⟩
            have hqn : q < l.length := by rw [HX.out.2.2.1]; omega
            have hpl := plR_ok HX.out.2.1 HX.out.1 (p := q + 1) (by omega)
            have htr := turn_R HX.out.2.1 HX.out.1 (q := q + 1) (by omega)
            rw [if_neg (by omega), Nat.add_sub_cancel] at htr
            obtain ⟨c, hc⟩ : ∃ c, l.getD q 0 + 1 = c := ⟨_, rfl⟩
            have hsy := HX.out.2.2.2.1.sy _ (getD_mem (b := 0) hqn)
            have hfw := HX.out.2.2.2.1.few
            obtain ⟨d, hd⟩ : ∃ d : Nat → Int, (fun j => if q + 1 ≤ f + j then l.getD (f + j) 0 else 0) = d := ⟨_, rfl⟩
            rw [hd] at hA
            have hat := fun (w' : World) (hw : EX u bx F l size D k d w') => hw.via fun w hx => at_mx (plR l (q + 1)) hpl.1 hx
            rw [htr, hc] at hat
            have hah := fun (w' : World) (hw : EX u bx F l size D k d w') => hw.via fun w hx => ahead_mx q c hc.symm hqn hx
            have HD := Lib.hid hd
            obtain ⟨r, hr⟩ : ∃ r, plR l (q + 1) = r := ⟨_, rfl⟩
            rw [hr] at hat hah ⊢
            have HM := Lib.hid (And.intro hat hah)
            have HA := Lib.hid hA
            obtain ⟨x0, x1, x2, -⟩ := hA.mx.box.cells
            have q5 : (f : Int) ≤ ((q + 1 : Nat) : Int) - 1 := by omega
            have q6 : ((q + 1 : Nat) : Int) - 1 = (q : Int) := by omega
            rw [q6] at q5 ⊢
            have q7 : IntKind.i64.wrap ((q : Int) - 1) = (q : Int) - 1 := IntWalk.i64_in _ (by omega)
            have hcc : l.getD q 0 = c - 1 := by omega
            have HC := Lib.hid hcc
            have q8 : IntKind.i64.wrap (c - 1) = c - 1 := IntWalk.i64_in _ (by omega)
            clear hpl htr hc hsy hfw hd hat hah hr hA hqn hcc q6
            go_wp2_with fail
            (with_reducible refine (HM.out.1 _ HA.out).mono ?_)
            clear x0 x1 x2
            rintro e u4 ⟨rfl, hA⟩
            have HA1 := Lib.hid hA
            clear hA HA
            go_wp2_with fail
            (with_reducible refine (HM.out.2 _ HA1.out).mono ?_)
            rintro e u5 ⟨rfl, hA⟩
            have HA2 := Lib.hid hA
            by_cases hqy : y ≤ q
            · have q9 : (y : Int) ≤ (q : Int) := by omega
              clear hA HA1
              go_wp2
              go_roundw
              case rel =>
                refine ⟨q, by omega, by omega, rfl, rfl, HA2.out.congr fun j hj => ?_⟩
                rw [← HD.out]
                show (if q + 1 ≤ f + j then _ else _) = _
                rw [if_neg (by omega), if_neg (by omega)]
              case measure => first | (simp [intOf]; done) | (simp [intOf]; omega)
            · have q9 : ¬ (y : Int) ≤ (q : Int) := by omega
              obtain ⟨o, ho⟩ : ∃ o, q - f = o := ⟨_, rfl⟩
              have hok : o < k := by omega
              have q10 : IntKind.i64.wrap ((q : Int) - (f : Int)) = (o : Int) := by rw [show (q : Int) - (f : Int) = (o : Int) by omega]; exact IntWalk.i64_in _ (by omega)
              have q11 : (o : Int) < (k : Int) := by omega
              have q12 : (0 : Int) ≤ (o : Int) := by omega
              have c1 := hA.di.cell o hok
              have z1 := hA.di.frz o hok
              have hset := hA.set HX.out.2.2.2.1 hok (c - 1)
              have HS := Lib.hid hset
              clear hA HA1 hset HA2
              go_wp2
              go_roundw
              case rel =>
                refine ⟨q, by omega, by omega, rfl, rfl, HS.out.congr fun j hj => ?_⟩
                by_cases e : j = o
                · rw [if_pos e, if_pos (by omega), e, show f + o = q by omega, HC.out]
                · rw [if_neg e, ← HD.out]
                  show (if q + 1 ≤ f + j then _ else _) = _
                  by_cases e2 : q ≤ f + j
                  · rw [if_pos e2, if_pos (by omega)]
                  · rw [if_neg e2, if_neg (by omega)]
              case measure => first | (simp [intOf]; done) | (simp [intOf]; omega)

end Go.Proofs.YtpnjccomngdblaaGreat
