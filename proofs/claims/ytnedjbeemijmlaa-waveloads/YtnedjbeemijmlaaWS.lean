/- The contract of Select. -/
import Derived.Test.YtnedjbeemijmlaaWR
set_option maxRecDepth 100000
namespace Go.Proofs.Ytnedjbeemijmlaa
open Go.RowKit
open M
attribute [local go_sem ↓] Go.wp_at_zero Go.wp_at_succ

theorem FCx.lt {w : World} {b o : Nat} {F : FP} (h : FCx w b o F) : b < w.heap.size := World.block_lt_of_cell? w _ h.c0
theorem FCx.kept {w w' : World} {b o : Nat} {F : FP} (h : FCx w b o F) (hb : Below w.heap.size w w') : FCx w' b o F := by
  have cl : ∀ o, w'.cell? ⟨b, o, none⟩ = w.cell? ⟨b, o, none⟩ := fun o => hb.cell (p := ⟨b, o, none⟩) h.lt
  exact ⟨by rw [cl]; exact h.c0, by rw [cl]; exact h.c1, by rw [cl]; exact h.c2, by rw [cl]; exact h.c3, by rw [cl]; exact h.c4, by rw [cl]; exact h.c5, by rw [cl]; exact h.c6, by rw [cl]; exact h.c7, by rw [cl]; exact h.c8, by rw [cl]; exact h.c9, by rw [cl]; exact h.c10⟩
/-- A fork's cells in a list, and those of a boxed row of symbols. -/
theorem fcs_of {b o bx : Nat} {F : FP} {n size : Int} {s : Value} {w u : World} (h : FCx w b o F) (h2 : WBx w bx n size s) (hb : Below w.heap.size w u) : (u.cell? ⟨b, o, none⟩ = some (.int .i64 (F.R.n : Int)) ∧ u.cell? ⟨b, o + 1, none⟩ = some (.slice F.R.a F.R.m F.R.c) ∧ u.cell? ⟨b, o + 2, none⟩ = some (.int .i64 (F.R.cn : Int)) ∧ u.cell? ⟨b, o + 3, none⟩ = some (.int .i64 (F.R.cW : Int)) ∧ u.cell? ⟨b, o + 4, none⟩ = some (.int .i64 (F.R.cL : Int)) ∧ u.cell? ⟨b, o + 5, none⟩ = some (.slice F.R.a2 F.R.m2 F.R.c2) ∧ u.cell? ⟨b, o + 6, none⟩ = some (.int .i64 (F.b : Int)) ∧ u.cell? ⟨b, o + 7, none⟩ = some (.int .i64 (F.m : Int)) ∧ u.cell? ⟨b, o + 8, none⟩ = some (.int .i64 (F.e : Int)) ∧ u.cell? ⟨b, o + 9, none⟩ = some (.int .i64 (F.z : Int)) ∧ u.cell? ⟨b, o + 10, none⟩ = some (.int .i64 (F.o : Int))) ∧ u.cell? ⟨bx, 0, none⟩ = some (.int .i64 n) ∧ u.cell? ⟨bx, 1, none⟩ = some (.int .i64 size) ∧ u.cell? ⟨bx, 2, none⟩ = some s := by
  have h2 := h2.kept hb
  have h := h.kept hb
  exact ⟨⟨h.c0, h.c1, h.c2, h.c3, h.c4, h.c5, h.c6, h.c7, h.c8, h.c9, h.c10⟩, h2.c0, h2.c1, h2.c2⟩

theorem climb_b {w u : World} {F : FP} {row : List Bool} (d : Bool) (i : Nat) (x : Int) (hx : x = b2i d) (h : FK w F row) (hu : Below w.heap.size w u) (hi : i ≤ 1000000000) (q : Nat) (hq : selN d row (((if d = true then F.o else F.z : Nat) : Int) + (i : Int) - (nb F d : Nat)) = (q : Int)) :
    Calls Try.prog 57 #[.agg #[.int .i64 (F.R.n : Int), .slice F.R.a F.R.m F.R.c, .int .i64 (F.R.cn : Int), .int .i64 (F.R.cW : Int), .int .i64 (F.R.cL : Int), .slice F.R.a2 F.R.m2 F.R.c2, .int .i64 (F.b : Int), .int .i64 (F.m : Int), .int .i64 (F.e : Int), .int .i64 (F.z : Int), .int .i64 (F.o : Int)], .int .i64 x, .int .i64 (i : Int)] u fun e u' => e = .returned (.int .i64 (q : Int)) ∧ Below w.heap.size w u' ∧ Below u.heap.size u u' :=
  (climb_any F row d i x hx u (h.kept hu) hi).mono fun _ _ hh => ⟨by rw [hh.1, hq], hu.trans (hh.2.mono hu.size), hh.2⟩

theorem pre_rk (l : List Int) (y i : Nat) : preN l 0 y i = rkN true (eqs l (y : Int)) i := by
  unfold preN rkN eqs withI
  rw [← List.map_take]
  generalize l.take i = m
  induction m with
  | nil => rfl
  | cons x r ih =>
    rw [List.map_cons, List.count_cons, List.filter_cons, ← ih]
    by_cases hx : x = (y : Int)
    · simp [hx]
    · simp [hx]
theorem pre_place (l : List Int) (y kk : Nat) : ∀ i, i ≤ l.length → kk < preN l 0 y i → ∃ j, j < i ∧ l.getD j 0 = (y : Int) ∧ preN l 0 y j = kk := by
  intro i
  induction i with
  | zero => intro _ h; rw [pre_zero] at h; omega
  | succ i ih =>
    intro hi h
    by_cases hk : kk < preN l 0 y i
    · obtain ⟨j, h1, h2⟩ := ih (by omega) hk
      exact ⟨j, by omega, h2⟩
    · have hs := rkN_succ true (eqs l (y : Int)) i (by rw [eqs_len]; omega)
      rw [← pre_rk, ← pre_rk, eqs_at l _ i (by omega)] at hs
      by_cases hx : l.getD i 0 = (y : Int)
      · rw [if_pos (by simpa using hx)] at hs
        exact ⟨i, by omega, hx, by omega⟩
      · rw [if_neg (by simpa using hx)] at hs
        omega

/-- The step up. -/
theorem node_climb {w : World} {F : FP} (l : List Int) (W k y j : Nat) (hk : k < W) (h : Sy l W) (hy : y < 2 ^ W) (hF : FK w F (rowK l W k)) (hb : F.b = begN l (W - k) (y / 2 ^ (W - k))) (he : F.e = posN l (W - k) (y / 2 ^ (W - k)) l.length) (hj : j < l.length) (hx : l.getD j 0 = (y : Int)) (d : Bool) (hd : decide ((y : Int) / 2 ^ (W - 1 - k) % 2 = 1) = d) :
    selN d (rowK l W k) (((if d = true then F.o else F.z : Nat) : Int) + (posN l (W - 1 - k) (y / 2 ^ (W - 1 - k)) j : Nat) - (nb F d : Nat)) = (posN l (W - k) (y / 2 ^ (W - k)) j : Nat) := by
  have hpl := first_lt y W k (by omega) hy
  obtain ⟨hQ1, hQ2, hQ3, hQ4⟩ := node_fork l W k (y / 2 ^ (W - k)) hk h hpl hF hb he d
  have hp' := bits_step y W k hk
  rw [hd] at hp'
  obtain ⟨hn1, hn2⟩ := node_at l W k (y / 2 ^ (W - k)) j h hpl hj (by rw [hx]; simp)
  have hall := pos_all l W k (y / 2 ^ (W - k)) (by omega) h hpl
  refine selN_at d _ _ _ (by rw [rowK_len l W k (by omega) h]; omega) (by rw [hn1, hx]; exact hd) ?_
  rw [node_rk l W k _ j hk h hpl d, hQ3, hQ1, hp', ← hb]
  unfold posN
  omega

theorem sel_no (l : List Int) (c k : Int) (h : ∀ x ∈ l, x ≠ c) : selN true (eqs l c) k = -1 := by
  refine selN_none _ _ _ ?_
  have h0 : rkN true (eqs l c) (eqs l c).length = 0 := by
    unfold rkN eqs
    rw [List.take_length, List.count_eq_zero]
    simp only [List.mem_map, decide_eq_true_eq, not_exists, not_and]
    exact h
  rw [h0]
  by_cases hk : k < 0
  · exact .inl hk
  · exact .inr (by omega)

set_option maxHeartbeats 4000000 in
theorem wsel_any (l : List Int) (W : Nat) (a : Option Addr) (cap : Nat) (size c k : Int) (w : World) (h : WX w l W a) (hs : size ≤ 2 ^ W) (hxs : ∀ x ∈ l, 0 ≤ x ∧ x < size) :
    Calls Try.prog 29 #[.agg #[.int .i64 (l.length : Int), .int .i64 size, .slice a W cap], .int .i64 c, .int .i64 k] w fun e w' => e = .returned (.int .i64 (selN true (eqs l c) k)) ∧ Below w.heap.size w w' := by
  have hB := wbel w (.int .i64 (l.length : Int)) (.int .i64 size) (.slice a W cap)
  have hX := WBx.new w (l.length : Int) size (.slice a W cap)
  have hW := h.kept hB
  have hsm := h.small
  have hwi := h.wide
  have HS := Lib.hid h.sy
  have hh := fun u => has_any (l.length : Int) size (.slice a W cap) c u
  have hfo := fun (y : Nat) (hy : (y : Int) < size) u (hu : Below (w.alloc (.cells #[.int .i64 (l.length : Int), .int .i64 size, .slice a W cap] 27)).heap.size (w.alloc (.cells #[.int .i64 (l.length : Int), .int .i64 size, .slice a W cap] 27)) u) =>
    forks_any l W a cap size y u (hW.kept hu) (lt_pow hy hs)
  have HHS := Lib.hid hh
  have HFO := Lib.hid hfo
  have HB := Lib.hid hB
  have HX := Lib.hid hX
  clear h hB hX hW hh hfo
  by_cases hc : 0 ≤ c ∧ c < size
  · have hb : hasB size c = true := decide_eq_true hc
    obtain ⟨y, rfl⟩ : ∃ y : Nat, c = (y : Int) := ⟨c.toNat, by omega⟩
    rw [hb] at HHS
    have hyW := lt_pow hc.2 hs
    have HY := Lib.hid (And.intro hc.2 hyW)
    have hpr := pre_rk l y l.length
    have hele := eqs_len l (y : Int)
    have hrkle := rkN_le' true (eqs l (y : Int)) l.length
    obtain ⟨z, hz⟩ : ∃ z, selN true (eqs l (y : Int)) k = z := ⟨_, rfl⟩
    rw [hz]
    have HZ := Lib.hid hz
    have HPR := Lib.hid (And.intro hpr hele)
    have hpe : posN l 0 y l.length = begN l 0 y + preN l 0 y l.length := rfl
    have hpa := pos_all l W W y (Nat.le_refl _) HS.out hyW
    rw [Nat.sub_self] at hpa
    rw [← hpr] at hrkle
    have hpk := fun kk (hkk : kk < preN l 0 y l.length) => pre_place l y kk l.length (Nat.le_refl _) hkk
    have HPK := Lib.hid hpk
    clear hc hb hyW hz hpr hele hxs hpk
    generalize hn : l.length = n at *
    have HN := Lib.hid hn
    clear hn
    obtain ⟨x0, x1, x2⟩ := HX.out
    go_enter Try.func29, Try.ntmps29
    go_wp2_with fail
    refine (HHS.out _).mono ?_
    rintro e u1 ⟨rfl, hb1⟩
    clear x0 x1 x2
    obtain ⟨x0, x1, x2⟩ := HX.out.kept hb1
    have HB1 := Lib.hid hb1
    clear hb1
    go_wp2_with fail
    refine (HFO.out y HY.out.1 _ HB1.out).mono ?_
    rintro e u2 ⟨v, Fs, rfl, hff, hof⟩
    rw [HN.out, hpe]
    rw [hpe] at hpa
    clear hpe
    have hb2 := HB1.out.trans (hof.2.mono HB1.out.size)
    have HX2 := Lib.hid (HX.out.kept hb2)
    have HU := Lib.hid (And.intro hff (And.intro hof hb2))
    clear x0 x1 x2 hff hof hb2
    generalize hbg : begN l 0 y = bg at *
    generalize hpp : preN l 0 y n = pp at *
    have HBP := Lib.hid (And.intro hbg hpp)
    clear hbg hpp
    have q9 : IntKind.i64.wrap (((bg + pp : Nat) : Int) - (bg : Int)) = (pp : Int) := by rw [show ((bg + pp : Nat) : Int) - (bg : Int) = (pp : Int) by omega]; exact IntWalk.i64_in _ (by omega)
    by_cases hk0 : k < 0
    · have HE : Hid (z = -1) := Lib.hid (by rw [← HZ.out]; exact selN_none _ _ _ (.inl hk0))
      have HBB := Lib.hid HU.out.2.2
      go_wp2
      go_ret
      exact ⟨ret_int HE.out.symm, HB.out.trans (HBB.out.mono HB.out.size)⟩
    · by_cases hk1 : (pp : Int) ≤ k
      · have HE : Hid (z = -1) := Lib.hid (by
          rw [← HZ.out]
          refine selN_none _ _ _ (.inr ?_)
          rw [HPR.out.2, ← HPR.out.1]; exact hk1)
        have HBB := Lib.hid HU.out.2.2
        go_wp2
        go_ret
        exact ⟨ret_int HE.out.symm, HB.out.trans (HBB.out.mono HB.out.size)⟩
      · obtain ⟨kk, rfl⟩ : ∃ kk : Nat, k = (kk : Int) := ⟨k.toNat, by omega⟩
        have hkp : kk < pp := by omega
        obtain ⟨j0, hj0, hxj, hpj⟩ := HPK.out kk hkp
        have HE : Hid (z = (j0 : Int)) := Lib.hid (by
          rw [← HZ.out]
          refine selN_at true _ _ j0 (by rw [HPR.out.2]; exact hj0) (by rw [eqs_at l _ j0 (by rw [HN.out]; exact hj0)]; simpa using hxj) ?_
          rw [← pre_rk, hpj])
        have hst : bg + kk = posN l 0 y j0 := by unfold posN; rw [hpj, HBP.out.1]
        have HJ := Lib.hid (And.intro hj0 (And.intro hxj hst))
        have hlv : Fs.length = W := HU.out.1.len
        obtain ⟨va, vc, hva⟩ : ∃ va vc, v = .slice va W vc := by
          rcases HU.out.2.1.1.2 with ⟨e1, e2⟩ | ⟨g, cp, cur, e1, -⟩
          · exact ⟨none, 0, by rw [e1, ← hlv, e2]⟩
          · exact ⟨some ⟨g, 0, none⟩, cp, by rw [e1, hlv]⟩
        subst hva
        have HLV := Lib.hid hlv
        clear hxj hpj hst hlv
        have hj1 : j0 < 1000000 := by omega
        generalize hbx : w.heap.size = bx at *
        have HBX := Lib.hid hbx
        clear hbx
        go_wp2
        go_loopw [10, 11] (fun v10 v11 wr => ∃ jj : Nat, jj ≤ W ∧ v11 = .int .i64 ((jj : Int) - 1) ∧ v10 = .int .i64 (posN l (W - jj) (y / 2 ^ (W - jj)) j0 : Nat) ∧ Below u2.heap.size u2 wr) (fun _ v11 _ => (intOf v11 + 1).toNat)
        case atStart =>
          refine ⟨W, Nat.le_refl _, rfl, ?_, Below.refl _ _⟩
          rw [Nat.sub_self, Nat.pow_zero, Nat.div_one, ← HJ.out.2.2]
          go_num
        case round =>
          obtain ⟨jj, hjj, rfl, rfl, hbel⟩ := hrel
          by_cases hj : 0 < jj
          · obtain ⟨j, rfl⟩ : ∃ j, jj = j + 1 := ⟨jj - 1, by omega⟩
            have ej : ((j + 1 : Nat) : Int) - 1 = (j : Int) := by omega
            have ej2 : W - (j + 1) = W - 1 - j := by omega
            rw [ej, ej2]
            obtain ⟨g, rfl⟩ : ∃ g, va = some ⟨g, 0, none⟩ := by
              rcases HU.out.2.1.1.2 with ⟨e1, e2⟩ | ⟨g, cp, cur, e1, -⟩
              · simp only [Value.slice.injEq] at e1; omega
              · simp only [Value.slice.injEq] at e1; exact ⟨g, e1.1⟩
            have how := HU.out.2.1.1
            rw [HLV.out] at how
            have hfc := FCx.of_own how HLV.out j (by omega)
            obtain ⟨hf1, hf2, hf3⟩ := HU.out.1.at_ j (by omega)
            generalize Fs.getD j F0 = F at *
            have hfk := hf3 u2 HU.out.2.1.2
            generalize hd : decide ((y : Int) / 2 ^ (W - 1 - j) % 2 = 1) = d at *
            have hcl := node_climb l W j y j0 (by omega) HS.out HY.out.2 hfk hf1 hf2 (by rw [HN.out]; exact hj0) HJ.out.2.1 d hd
            have hin := pos_le l (W - 1 - j) (y / 2 ^ (W - 1 - j)) j0
            have hpa2 := pos_all l W (j + 1) (y / 2 ^ (W - (j + 1))) (by omega) HS.out (first_lt y W (j + 1) (by omega) HY.out.2)
            rw [ej2, HN.out] at hpa2
            rw [HN.out] at hin
            generalize hx : b2i d = x at *
            have c2 := fun u (hu : Below wr.heap.size wr u) => wbit_b (w := wr) (n : Int) size a W cap (y : Int) j (by omega) (by omega) hu
            rw [hd, hx] at c2
            have c3 := fun u (hu : Below wr.heap.size wr u) => climb_b d _ x hx.symm (hfk.kept hbel) hu (by omega) _ hcl
            have H2 := Lib.hid c2
            have H3 := Lib.hid c3
            have HFC := Lib.hid (hfc.kept hbel)
            have HWB := Lib.hid (HX2.out.kept hbel)
            have HBE := Lib.hid hbel
            clear c2 c3 hfc how hf1 hf2 hf3 hfk hcl hx hd hbel
            generalize hpi : posN l (W - 1 - j) (y / 2 ^ (W - 1 - j)) j0 = pi at *
            generalize hpo : posN l (W - j) (y / 2 ^ (W - j)) j0 = po at *
            have HPO := Lib.hid hpo
            clear hpi hpo
            have hb : Below wr.heap.size wr wr := Below.refl _ _
            obtain ⟨⟨z0, z1, z2, z3, z4, z5, z6, z7, z8, z9, z10⟩, b0, b1, b2⟩ := fcs_of HFC.out HWB.out hb
            have r1 : (j : Int) < (W : Int) := by omega
            have r2 : (0 : Int) ≤ (j : Int) := by omega
            go_wp2
            go_region_held3 (fun w' => (w'.cell? ⟨g, j * 11, none⟩ = some (.int .i64 (F.R.n : Int)) ∧ w'.cell? ⟨g, j * 11 + 1, none⟩ = some (.slice F.R.a F.R.m F.R.c) ∧ w'.cell? ⟨g, j * 11 + 2, none⟩ = some (.int .i64 (F.R.cn : Int)) ∧ w'.cell? ⟨g, j * 11 + 3, none⟩ = some (.int .i64 (F.R.cW : Int)) ∧ w'.cell? ⟨g, j * 11 + 4, none⟩ = some (.int .i64 (F.R.cL : Int)) ∧ w'.cell? ⟨g, j * 11 + 5, none⟩ = some (.slice F.R.a2 F.R.m2 F.R.c2) ∧ w'.cell? ⟨g, j * 11 + 6, none⟩ = some (.int .i64 (F.b : Int)) ∧ w'.cell? ⟨g, j * 11 + 7, none⟩ = some (.int .i64 (F.m : Int)) ∧ w'.cell? ⟨g, j * 11 + 8, none⟩ = some (.int .i64 (F.e : Int)) ∧ w'.cell? ⟨g, j * 11 + 9, none⟩ = some (.int .i64 (F.z : Int)) ∧ w'.cell? ⟨g, j * 11 + 10, none⟩ = some (.int .i64 (F.o : Int))) ∧ w'.cell? ⟨bx, 0, none⟩ = some (.int .i64 (n : Int)) ∧ w'.cell? ⟨bx, 1, none⟩ = some (.int .i64 size) ∧ w'.cell? ⟨bx, 2, none⟩ = some (.slice a W cap))
              (first
                | (with_reducible exact fcs_of HFC.out HWB.out hb)
                | (with_reducible exact fcs_of HFC.out HWB.out hb.drew)
                | go_keep)
              (first
                | (go_at_call 58; (with_reducible refine (H2.out _ hb).mono ?_); rintro e u5 ⟨rfl, hb, hbu⟩)
                | (go_at_call 58; (with_reducible refine (H2.out _ hb.drew).mono ?_); rintro e u5 ⟨rfl, hb, hbu⟩)
                | (go_at_call 57; (with_reducible refine (H3.out _ hb).mono ?_); rintro e u6 ⟨rfl, hb, hbu⟩)
                | (go_at_call 57; (with_reducible refine (H3.out _ hb.drew).mono ?_); rintro e u6 ⟨rfl, hb, hbu⟩))
            all_goals
              have HO6 := Lib.hid (HBE.out.trans (hb.mono HBE.out.size))
              clear z0 z1 z2 z3 z4 z5 z6 z7 z8 z9 z10 b0 b1 b2 hb hbu
              go_wp2
              go_roundw
              case rel => exact ⟨j, by omega, by go_num, by rw [HPO.out], HO6.out⟩
              case measure => simp [intOf]
          · obtain rfl : jj = 0 := by omega
            have hfin := start_pos l W j0 HS.out (by rw [HN.out]; omega)
            rw [Nat.sub_zero, Nat.div_eq_of_lt HY.out.2, hfin]
            have HBE := Lib.hid hbel
            clear hbel hfin
            go_wp2
            go_ret
            refine ⟨ret_int HE.out.symm, ?_⟩
            have hb3 := HU.out.2.2.trans (HBE.out.mono HU.out.2.2.size)
            rw [HBX.out]
            exact HB.out.trans (hb3.mono (by have := HB.out.size; rw [HBX.out] at this; exact this))
  · have hb : hasB size c = false := decide_eq_false hc
    rw [hb] at HHS
    have hno := sel_no l c k (fun x hx e => hc (by rw [← e]; exact hxs x hx))
    rw [hno]
    clear hc hb hno hxs
    generalize hn : l.length = n at *
    obtain ⟨x0, x1, x2⟩ := HX.out
    go_enter Try.func29, Try.ntmps29
    go_wp2_with fail
    refine (HHS.out _).mono ?_
    rintro e u1 ⟨rfl, hb1⟩
    have HB1 := Lib.hid (HB.out.trans (hb1.mono HB.out.size))
    clear x0 x1 x2 hb1
    go_wp2
    go_ret
    exact ⟨rfl, HB1.out⟩

end Go.Proofs.Ytnedjbeemijmlaa
