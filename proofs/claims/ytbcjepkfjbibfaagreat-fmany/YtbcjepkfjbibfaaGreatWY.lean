/- The contract of List of rows of symbols: the walk. -/
import Derived.Test.YtbcjepkfjbibfaaGreatWX
set_option maxRecDepth 100000
namespace Go.Proofs.YtbcjepkfjbibfaaGreat
open Go.RowKit
open M
attribute [local go_sem ↓] Go.wp_at_zero Go.wp_at_succ

/-- What stands in the list when the first j of the places p have been gone over. -/
def stepF (l p : List Int) (s j i : Nat) : Int := if ((i : Nat) : Int) ∈ p.take j then keyP l s (i : Int) else keyP l (s + 1) (i : Int)
theorem stepF_zero (l p : List Int) (s i : Nat) : stepF l p s 0 i = keyP l (s + 1) (i : Int) := by unfold stepF; simp
theorem stepF_all (l p : List Int) (s j i : Nat) (hj : p.length ≤ j) (h : ((i : Nat) : Int) ∈ p) : stepF l p s j i = keyP l s (i : Int) := by
  unfold stepF; rw [List.take_of_length_le hj, if_pos h]
theorem stepF_old (l p : List Int) (s j i : Nat) (hn : p.Nodup) (hj : j < p.length) (h : p.getD j 0 = (i : Int)) : stepF l p s j i = keyP l (s + 1) (i : Int) := by
  unfold stepF
  rw [if_neg]
  intro hm
  have e : p = p.take j ++ (p.getD j 0 :: p.drop (j + 1)) := by
    have e1 : p.getD j 0 = p[j] := by simp [List.getD_eq_getElem?_getD, hj]
    rw [e1, List.getElem_cons_drop, List.take_append_drop]
  rw [e, List.nodup_append] at hn
  exact hn.2.2 _ hm _ (by rw [h]; exact List.mem_cons_self) rfl
theorem stepF_next (l p : List Int) (s j i i' : Nat) (hj : j < p.length) (h : p.getD j 0 = (i : Int)) : stepF l p s (j + 1) i' = if i' = i then keyP l s (i : Int) else stepF l p s j i' := by
  unfold stepF
  rw [List.take_add_one]
  have e1 : p[j]?.toList = [(i : Int)] := by rw [← h]; simp [List.getD_eq_getElem?_getD, hj]
  rw [e1]
  by_cases hi : i' = i
  · subst hi; simp
  · rw [if_neg hi]
    have : ((i' : Int) ∈ p.take j ++ [(i : Int)]) ↔ (i' : Int) ∈ p.take j := by simp; omega
    simp only [this]

theorem bool_at {w : World} {a : Option Addr} {l : List Bool} (h : BoolsAt w a l) {i : Nat} (hi : i < l.length) : ∃ b off, a = some ⟨b, off, none⟩ ∧ b < w.heap.size ∧ w.cell? ⟨b, off + i, none⟩ = some (.bool (l.getD i false)) := by
  rcases h with h | ⟨b, off, h1, h2, h3⟩
  · rw [h] at hi; simp at hi
  · exact ⟨b, off, h1, h2, h3 i hi⟩
theorem bools_set {u : World} {a : Option Addr} {l : List Bool} {ad : Addr} {x : Int} (h : BoolsAt u a l) (hc : u.cell? ad = some (.int .i64 x)) (v : Value) : BoolsAt (u.setCell ad v) a l := by
  rcases h with h | ⟨b, off, h1, h2, h3⟩
  · exact .inl h
  · refine .inr ⟨b, off, h1, by simpa using h2, fun j hj => ?_⟩
    rw [World.cell?_setCell_other _ _ _ _ (fun e => by have := h3 j hj; rw [← e, hc] at this; cases this)]
    exact h3 j hj

theorem shl_bit (x : Int) (h0 : 0 ≤ x) (h1 : x ≤ 1099511627776) : bits .or .i64 (x * 2) 1 = x * 2 + 1 := by
  obtain ⟨p, rfl⟩ : ∃ p : Nat, x = (p : Int) := ⟨x.toNat, by omega⟩
  have := or_bit p true (by omega)
  rw [show b2i true = 1 from rfl] at this
  rw [this]
  simp [bN]; omega

set_option maxHeartbeats 8000000 in
theorem wlist_any (l : List Int) (W : Nat) (a : Option Addr) (cap : Nat) (size : Int) (w : World) (h : WX w l W a) :
    Calls Tryz.prog 18 #[.agg #[.int .i64 (l.length : Int), .int .i64 size, .slice a W cap]] w fun e w' => ∃ v, e = .returned (.slice v l.length l.length) ∧ NumsAt .i64 w' v l ∧ Below w.heap.size w w' := by
  obtain ⟨i0, hi0, hz0, hz1, hz2⟩ := info_parts info3
  have hsm := h.small
  have hwi := h.wide
  have HW := Lib.hid h
  have hb0 := wbel w (.int .i64 (l.length : Int)) (.int .i64 size) (.slice a W cap)
  have hX := WBx.new w (l.length : Int) size (.slice a W cap)
  obtain ⟨n, hn⟩ : ∃ n, l.length = n := ⟨_, rfl⟩
  rw [hn] at hsm hb0 hX ⊢
  have HN := Lib.hid hn
  have HX := Lib.hid (And.intro hX hb0)
  clear h hn hX hb0
  go_enter Tryz.func18, Tryz.ntmps18
  go_wp2_with (first | (at_make; refine wpList_make_full _ rfl _ _ 22 rfl (w.heap.size + 1) 3 i0 (.int .i64 0) 1 Tryz.underlying22 hi0 hz0 hz1 _ _ _ _ n rfl rfl rfl rfl ?b2 ?b3 ?b4 ?_))
  case b2 => rw [hz2]; omega
  case b3 => unfold maxLen; omega
  case b4 => simp
  intro w2 hown hgrow
  rw [toList_madeCells_one] at hown
  have hbg := below_grown hgrow
  have hLH : LH w w2.heap.size n size (.slice a W cap) (fun _ => 0) (w2.alloc (.cells #[.slice (some ⟨w.heap.size + 1, 0, none⟩) n n] 22)) := by
    have hbn : Below w2.heap.size w2 (w2.alloc (.cells #[.slice (some ⟨w.heap.size + 1, 0, none⟩) n n] 22)) := (Below.refl _ _).alloc (Nat.le_refl _) _
    have hl := (hown.lt (w.heap.size + 1) rfl).2
    have hx2 := (HX.out.1.kept hbg).kept hbn
    refine ⟨hx2, by omega, by simp, ⟨fun i hi => ⟨?_, ?_⟩, ?_⟩, (HX.out.2.trans (hbg.mono HX.out.2.size)).trans (hbn.mono (by omega))⟩
    · rw [hbn.cell (p := ⟨w.heap.size + 1, i, none⟩) hl, hown.cellAt i (by omega)]
      simp [hi]
    · rw [hbn.frozen (p := ⟨w.heap.size + 1, i, none⟩) hl]
      exact hown.frozenAt i
    · simp; omega
  have hvl : w2.heap.size < (w2.alloc (.cells #[.slice (some ⟨w.heap.size + 1, 0, none⟩) n n] 22)).heap.size := by simp
  have HL := Lib.hid hLH
  have x0 := hLH.box.c0
  have hbs : w.heap.size ≤ (w2.alloc (.cells #[.slice (some ⟨w.heap.size + 1, 0, none⟩) n n] 22)).heap.size := hLH.bel.size
  clear hown hgrow hbg hLH HX
  go_wp2_with (first | (at_make; refine wpList_make_full _ rfl _ _ 22 rfl w.heap.size 3 i0 (.int .i64 0) 1 Tryz.underlying22 hi0 hz0 hz1 _ _ _ _ n rfl rfl rfl rfl ?b2 ?b3 ?b4 ?_))
  case b2 => rw [hz2]; omega
  case b3 => unfold maxLen; omega
  case b4 => exact hbs
  intro w4 hown hgrow
  generalize w2.alloc (.cells #[.slice (some ⟨w.heap.size + 1, 0, none⟩) n n] 22) = w3 at *
  have hbn4 := below_grown hgrow
  have hLH4 := HL.out.kept hbn4
  have hvb := HL.out.vb2
  have hlt4 : w2.heap.size + 1 < w4.heap.size := (hown.lt (w2.heap.size + 1) rfl).2
  have hArr : Arr w (w2.heap.size + 1) n (fun j => .int .i64 (j : Int)) 0 w4 := by
    refine ⟨by omega, fun o ho => ?_, fun j hj => absurd hj (by omega), hLH4.bel, hlt4⟩
    rcases hown.2 with ⟨e, -⟩ | ⟨g, cp, cur, e, hg, hh, k1, k2, k3, k4⟩
    · simp at e
    · simp only [Value.slice.injEq, Option.some.injEq, Addr.mk.injEq, and_true, true_and] at e
      obtain ⟨e1, e2⟩ := e
      subst e1 e2
      refine ⟨⟨cur[o]'(by omega), ?_⟩, ?_⟩
      · simp [World.cell?, hh, show o < cur.size by omega]
      · simp [World.frozen?, hh]
  have HA := Lib.hid (And.intro hArr hLH4)
  clear hown hgrow hbn4 hLH4 hArr hlt4 HL x0 hbs hvl
  generalize w2.heap.size = vb at *
  have hund : undef = Value.tuple #[] := rfl
  clear hund
  go_wp2
  go_loopw [19] (fun v19 wr => ∃ i : Nat, i ≤ n ∧ v19 = .int .i64 (i : Int) ∧ Arr w (vb + 1) n (fun j => .int .i64 (j : Int)) i wr ∧ LH w vb n size (.slice a W cap) (fun _ => 0) wr) (fun v19 _ => n - (intOf v19).toNat)
  case atStart => exact ⟨0, Nat.zero_le _, rfl, HA.out.1, HA.out.2⟩
  case round =>
    obtain ⟨i, hi, rfl, hA, hL⟩ := hrel
    clear HA
    by_cases hlt : i < n
    · obtain ⟨⟨y0, ey⟩, fy⟩ := hA.ex i hlt
      have HB := Lib.hid (And.intro (hA.put hlt) (hL.far (vb + 1) i (.int .i64 (i : Int)) (by omega)))
      have q1 : (i : Int) < (n : Int) := by omega
      have q2 : (0 : Int) ≤ (i : Int) := by omega
      clear hA hL
      go_wp2
      go_roundw
      case rel => exact ⟨i + 1, by omega, by go_num, HB.out.1, HB.out.2⟩
      case measure => simp [intOf]; omega
    · obtain rfl : i = n := by omega
      have hpl : NumsAt .i64 wr (some ⟨vb + 1, 0, none⟩) (plK l W 0) := by
        refine .inr ⟨vb + 1, 0, rfl, hA.lt, fun j hj => ?_⟩
        have hj' : j < i := by
          unfold plK rngI at hj
          simp at hj
          rw [← HN.out]; exact hj
        rw [Nat.zero_add, hA.at_ j hj']
        unfold plK rngI
        simp [List.getD_eq_getElem?_getD, show j < l.length by rw [HN.out]; exact hj']
      have hL2 : LH w vb i size (.slice a W cap) (fun j => keyP l (W - 0) (j : Int)) wr := hL.congr (fun j hj => by
        have := keyP_range l W W 0 HW.out.sy (by omega) (j : Int) (by rw [rngI_mem, HN.out]; omega)
        rw [Nat.sub_zero]
        simp at this
        omega)
      obtain ⟨x0, x1, x2⟩ := hL.box
      have hltA := hA.lt
      have HP := Lib.hid (And.intro hpl hL2)
      clear hpl hL2 hA hL
      go_wp2
      clear x0 x1 x2
      go_loopw [4, 30] (fun v4 v30 wr => ∃ (k : Nat) (a4 : Option Addr) (c4 : Nat), k ≤ W ∧ v30 = .int .i64 (k : Int) ∧ v4 = .slice a4 i c4 ∧ i ≤ c4 ∧ NumsAt .i64 wr a4 (plK l W k) ∧ (∀ b o, a4 = some ⟨b, o, none⟩ → vb < b) ∧ LH w vb i size (.slice a W cap) (fun j => keyP l (W - k) (j : Int)) wr) (fun _ v30 _ => W - (intOf v30).toNat)
      case atStart => exact ⟨0, some ⟨vb + 1, 0, none⟩, i, Nat.zero_le _, rfl, rfl, Nat.le_refl _, HP.out.1, fun b o e => by simp only [Option.some.injEq, Addr.mk.injEq] at e; omega, HP.out.2⟩
      case round =>
        obtain ⟨k, a4, c4, hk, rfl, rfl, hc4, hpl, ha4, hL⟩ := hrel
        clear HP
        by_cases hlt : k < W
        · obtain ⟨g, R, rfl, hx, hrk, hRn⟩ := HW.out.rs.at_ k hlt
          rw [rowsI_at l W k hlt] at hrk
          obtain ⟨x0, x1, x2, x3, x4, x5⟩ := hx.kept hL.bel
          obtain ⟨s, hs⟩ : ∃ s, s = W - 1 - k := ⟨_, rfl⟩
          have hs1 : W - k = s + 1 := by omega
          rw [hs1] at hL
          have hrl := rowK_len l W k (by omega) HW.out.sy
          rw [HN.out] at hrl
          have hpn := plK_nd l W k
          have hpl2 := plK_len l W k (by omega) HW.out.sy
          rw [HN.out] at hpl2
          have hpm := fun x => plK_mem l W k (by omega) HW.out.sy x
          have hpb := fun j hj => plK_bit l W k j hlt HW.out.sy hj
          have hpp := plK_pw l W k hlt HW.out.sy
          have hpx := fun O hO => plK_next l W k hlt HW.out.sy O hO
          have hkr := fun x hx => keyP_range l W s (k + 1) HW.out.sy (by omega) x hx
          have hkr2 := fun x hx => keyP_range l W (s + 1) k HW.out.sy (by omega) x hx
          rw [← hs] at hpb hpp hpx
          rw [HN.out] at hpm hpb hkr hkr2
          have hpw : 2 ^ k ≤ 2 ^ 20 := Nat.pow_le_pow_right (by decide) (by omega)
          have h20 : (2 : Nat) ^ 20 = 1048576 := by decide
          have HF := Lib.hid (And.intro hpn (And.intro hpl2 (And.intro hpm (And.intro hpb (And.intro hpp (And.intro hpx (And.intro hkr hkr2)))))))
          have HS := Lib.hid (And.intro hs hs1)
          clear hpn hpl2 hpm hpb hpp hpx hkr hkr2 hs hs1
          have hlist := fun u (hu : Below w.heap.size w u) => list_any R.a R.m R.c (rowK l W k) u ((hrk.kept hu).row) (by omega)
          rw [hrl] at hlist
          have hRn2 : R.n = i := by rw [hRn, HN.out]
          have HLI := Lib.hid hlist
          have HRN := Lib.hid hRn2
          have HPL := Lib.hid (And.intro hpl (And.intro ha4 hL))
          have HRL := Lib.hid hrl
          clear hlist hRn hRn2 hrk hx hrl hpl ha4 hL
          generalize plK l W k = p at *
          generalize rowK l W k = row at *
          have q1 : (k : Int) < (W : Int) := by omega
          have q2 : (0 : Int) ≤ (k : Int) := by omega
          go_wp2_with fail
          have hba : Below wr.heap.size wr (wr.alloc (.cells #[.int .i64 (R.n : Int), .slice R.a R.m R.c, .int .i64 (R.cn : Int), .int .i64 (R.cW : Int), .int .i64 (R.cL : Int), .slice R.a2 R.m2 R.c2] 34)) := rbel wr R
          refine (rbits_any R _).mono ?_
          rintro e u1 ⟨rfl, hb1⟩
          have hb2 := hba.trans (hb1.mono (by simp))
          have HB2 := Lib.hid hb2
          clear hba hb1 hb2 x0 x1 x2 x3 x4 x5
          rw [HRN.out]
          go_wp2_with fail
          refine (HLI.out _ (HPL.out.2.2.kept HB2.out).bel).mono ?_
          rintro e u2 ⟨v, rfl, ⟨la, lc, rfl, hbo⟩, hb3⟩
          have hb4 := HB2.out.trans (hb3.mono HB2.out.size)
          have HI := Lib.hid (And.intro hbo (And.intro (HPL.out.1.kept hb4) (HPL.out.2.2.kept hb4)))
          have HA4 := Lib.hid HPL.out.2.1
          clear hbo hb3 hb4 HB2 HPL HLI
          go_wp2
          go_loopw [39] (fun v39 wq => ∃ j : Nat, j ≤ i ∧ v39 = .int .i64 (j : Int) ∧ LH w vb i size (.slice (some ⟨g, 0, none⟩) W cap) (stepF l p s j) wq ∧ NumsAt .i64 wq a4 p ∧ BoolsAt wq la row) (fun v39 _ => i - (intOf v39).toNat)
          case atStart => exact ⟨0, Nat.zero_le _, rfl, HI.out.2.2.congr (fun j hj => by rw [stepF_zero]), HI.out.2.1, HI.out.1⟩
          case round =>
            obtain ⟨j, hj, rfl, hL, hpl, hbo⟩ := hrel
            clear HI
            by_cases hjn : j < i
            · have hjp : j < p.length := by rw [HF.out.2.1]; exact hjn
              have hmem : p.getD j 0 ∈ p := by simp [List.getD_eq_getElem?_getD, hjp]
              have hrg := (HF.out.2.2.1 _).1 hmem
              obtain ⟨i1, hi1⟩ : ∃ i1 : Nat, p.getD j 0 = (i1 : Int) := ⟨(p.getD j 0).toNat, by omega⟩
              rw [hi1] at hrg
              have hbit := HF.out.2.2.2.1 j hjn
              rw [hi1] at hbit
              have hold := stepF_old l p s j i1 HF.out.1 hjp hi1
              have hnxt := fun i' => stepF_next l p s j i1 i' hjp hi1
              have hrm : (i1 : Int) ∈ rngI i := (rngI_mem i _).2 hrg
              have hx2 := HF.out.2.2.2.2.2.2.2 _ hrm
              have hhalf := keyP_half l s (i1 : Int)
              obtain ⟨pb, po, rfl, hpbl, hpv⟩ := num_at hpl (i := j) hjp
              rw [hi1] at hpv
              obtain ⟨lb, lo', rfl, hlbl, hlv⟩ := bool_at hbo (i := j) (by rw [HRL.out]; exact hjn)
              rw [hbit] at hlv
              have hga := hL.ga.at_ i1 (by omega)
              rw [hold] at hga
              obtain ⟨hgc, hgf⟩ := hga
              have x0 := hL.vc
              have hpu := hL.put i1
              have hnk : ∀ v, NumsAt .i64 (wr.setCell ⟨w.heap.size + 1, i1, none⟩ v) (some ⟨pb, po, none⟩) p := fun v => nums_kp hpl (Kp.setCell (X := fun q => q = w.heap.size + 1) (p := ⟨w.heap.size + 1, i1, none⟩) (Kp.refl _ wr) (.inl rfl) v) (fun b o e e2 => by
                have := HA4.out b o e
                have := hL.vb2
                omega)
              have hnk2 : ∀ v v', NumsAt .i64 ((wr.setCell ⟨w.heap.size + 1, i1, none⟩ v).setCell ⟨w.heap.size + 1, i1, none⟩ v') (some ⟨pb, po, none⟩) p := fun v v' => nums_kp (hnk v) (Kp.setCell (X := fun q => q = w.heap.size + 1) (p := ⟨w.heap.size + 1, i1, none⟩) (Kp.refl _ _) (.inl rfl) v') (fun b o e e2 => by
                have := HA4.out b o e
                have := hL.vb2
                omega)
              have hbk : ∀ v, BoolsAt (wr.setCell ⟨w.heap.size + 1, i1, none⟩ v) (some ⟨lb, lo', none⟩) row := fun v => bools_set hbo hgc v
              have hsame := World.cell?_setCell_same wr ⟨w.heap.size + 1, i1, none⟩ (.int .i64 (keyP l (s + 1) (i1 : Int) * 2)) hgc
              have hbk2 : ∀ v', BoolsAt ((wr.setCell ⟨w.heap.size + 1, i1, none⟩ (.int .i64 (keyP l (s + 1) (i1 : Int) * 2))).setCell ⟨w.heap.size + 1, i1, none⟩ v') (some ⟨lb, lo', none⟩) row := fun v' => bools_set (hbk _) hsame v'
              have hne : (⟨w.heap.size + 1, i1, none⟩ : Addr) ≠ ⟨lb, lo' + j, none⟩ := fun e => by rw [e] at hgc; rw [hgc] at hlv; cases hlv
              have hvb3 := hL.vb2
              have hb5 : wr.heap.size > vb := World.block_lt_of_cell? wr _ x0
              have hlv2 := World.cell?_setCell_other wr ⟨w.heap.size + 1, i1, none⟩ ⟨lb, lo' + j, none⟩ (.int .i64 (keyP l (s + 1) (i1 : Int) * 2)) hne
              rw [hlv] at hlv2
              have hvc2 := World.cell?_setCell_other wr ⟨w.heap.size + 1, i1, none⟩ ⟨vb, 0, none⟩ (.int .i64 (keyP l (s + 1) (i1 : Int) * 2)) (by simp only [ne_eq, Addr.mk.injEq]; omega)
              rw [x0] at hvc2
              have hLp := fun z => hL.put i1 z (by omega)
              have hLp2 := fun z z' => (hL.put i1 z (by omega)).put i1 z' (by omega)
              have s1 : (j : Int) < (i : Int) := by omega
              have s2 : (0 : Int) ≤ (j : Int) := by omega
              have s3 : (i1 : Int) < (i : Int) := hrg.2
              have s4 : (0 : Int) ≤ (i1 : Int) := hrg.1
              generalize hX : keyP l (s + 1) (i1 : Int) = x at *
              generalize hY : keyP l s (i1 : Int) = y at *
              have hxb : x ≤ 1048576 := by omega
              have hor := shl_bit x hx2.1 (by omega)
              have s5 : IntKind.i64.wrap (x * 2) = x * 2 := IntWalk.i64_in _ (by omega)
              by_cases hd : y % 2 = 1
              · have hyx : y = x * 2 + 1 := by omega
                rw [decide_eq_true hd] at hlv2
                have HR := Lib.hid (And.intro (hLp2 (x * 2) (x * 2 + 1)) (And.intro (hnk2 (.int .i64 (x * 2)) (.int .i64 (x * 2 + 1))) (And.intro (hbk2 (.int .i64 (x * 2 + 1))) (And.intro hnxt hyx))))
                clear hLp hLp2 hnk hnk2 hbk hbk2 hnxt hlv hne hpu hbit hL hpl hbo hold hmem hrm hrg hx2 hhalf hX hY hyx hd
                go_wp2
                go_roundw
                case rel =>
                  refine ⟨j + 1, by omega, by go_num, HR.out.1.congr (fun i' hi' => ?_), HR.out.2.1, HR.out.2.2.1⟩
                  rw [HR.out.2.2.2.1 i', HR.out.2.2.2.2]
                  by_cases h9 : i' = i1
                  · rw [if_pos h9, if_pos h9]
                  · rw [if_neg h9, if_neg h9, if_neg h9]
                case measure => simp [intOf]; omega
              · have hyx : y = x * 2 := by omega
                rw [decide_eq_false hd] at hlv2
                have HR := Lib.hid (And.intro (hLp (x * 2)) (And.intro (hnk (.int .i64 (x * 2))) (And.intro (hbk (.int .i64 (x * 2))) (And.intro hnxt hyx))))
                clear hLp hLp2 hnk hnk2 hbk hbk2 hnxt hlv hne hpu hbit hL hpl hbo hold hmem hrm hrg hx2 hhalf hX hY hyx hd
                go_wp2
                go_roundw
                case rel =>
                  refine ⟨j + 1, by omega, by go_num, HR.out.1.congr (fun i' hi' => ?_), HR.out.2.1, HR.out.2.2.1⟩
                  rw [HR.out.2.2.2.1 i', HR.out.2.2.2.2]
                case measure => simp [intOf]; omega
            · obtain rfl : j = i := by omega
              have hmm := fun (x : Nat) (hx : x < j) => (HF.out.2.2.1 (x : Int)).2 ⟨by omega, by omega⟩
              have hLs : LH w vb j size (.slice (some ⟨g, 0, none⟩) W cap) (fun x => keyP l s (x : Int)) wr := hL.congr (fun x hx => stepF_all l p s j x (by rw [HF.out.2.1]; exact Nat.le_refl _) (hmm x hx))
              have hpt := parted_any 51 #[.pointer (some ⟨vb, 0, none⟩)] (keyP l s) a4 j c4 p wr ent51 hpl HF.out.2.1 hsm hc4 HF.out.2.2.2.2.1 (fun x hx u hu => by
                have hxr := (HF.out.2.2.1 x).1 hx
                obtain ⟨x', rfl⟩ : ∃ x' : Nat, x = (x' : Int) := ⟨x.toNat, by omega⟩
                exact keyl_any x' (by omega) (hLs.kept hu))
              have HPT := Lib.hid hpt
              have HLS := Lib.hid hLs
              have hvl := World.block_lt_of_cell? wr _ hL.vc
              simp only at hvl
              clear hpt hLs hL hpl hbo hmm
              go_wp2_with fail
              refine HPT.out.mono ?_
              rintro e w7 ⟨v, O, rfl, hO, hown⟩
              have hOn := HF.out.2.2.2.2.2.1 O hO
              have hOl := plK_len l W (k + 1) (by omega) HW.out.sy
              rw [HN.out] at hOl
              rw [hOn] at hown
              obtain ⟨a5, c5, rfl, hn5, hl5, hle5, -, -⟩ := nums_of_own hown.1
              have hL7 := HLS.out.kept hown.2
              have ha5 : ∀ b o, a5 = some ⟨b, o, none⟩ → vb < b := fun b o e => by
                subst e
                have := (hown.1.lt b rfl).1
                omega
              rw [hOl] at hle5 ⊢
              have HZ := Lib.hid (And.intro hn5 (And.intro ha5 hL7))
              clear hO hown hOn hn5 hl5 hL7 ha5 hOl HPT HLS
              go_wp2
              go_roundw
              case rel =>
                have e1 : W - (k + 1) = s := by have := HS.out.1; omega
                exact ⟨k + 1, a5, c5, by omega, by go_num, rfl, hle5, HZ.out.1, HZ.out.2.1, by rw [e1]; exact HZ.out.2.2⟩
              case measure => simp [intOf]; omega
        · obtain rfl : k = W := by omega
          have x0 := hL.vc
          have hfin : NumsAt .i64 wr (some ⟨w.heap.size + 1, 0, none⟩) l := .inr ⟨w.heap.size + 1, 0, rfl, hL.ga.lt, fun j hj => by
            rw [Nat.zero_add, (hL.ga.at_ j (by rw [← HN.out]; exact hj)).1]
            unfold keyP
            simp⟩
          have HE := Lib.hid (And.intro hfin hL.bel)
          clear hfin hL hpl ha4
          go_wp2
          go_ret
          exact ⟨_, rfl, HE.out.1, HE.out.2⟩

end Go.Proofs.YtbcjepkfjbibfaaGreat
