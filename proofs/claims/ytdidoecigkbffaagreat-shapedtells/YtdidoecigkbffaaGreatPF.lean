/- The contracts of Select and At. -/
import Derived.Test.YtdidoecigkbffaaGreatPE
set_option maxRecDepth 100000
namespace Go.Proofs.YtdidoecigkbffaaGreat
open Go.RowKit
open S J M
attribute [local go_sem ↓] Go.wp_at_zero Go.wp_at_succ

variable {w u u' : World} {C sb b size : Nat} {xs : List Int} {f : Nat → List Bool} {ks : List (List Bool)} {Rf : List Bool → RP} {bx n : Nat}

theorem selN_at (b : Bool) (l : List Bool) (k : Int) (i : Nat) (hi : i < l.length) (hb : l.getD i false = b) (hk : (rkN b l i : Int) = k) : selN b l k = (i : Int) := by
  have h1 := rkN_succ b l i hi
  rw [if_pos hb] at h1
  have h2 := rkN_mono b l (i + 1) l.length (by omega)
  unfold selN
  rw [if_pos (by omega), firstN_eq l.length _ i (by omega)]
  · intro j hj
    have := rkN_mono b l (j + 1) i (by omega)
    simp; omega
  · intro _
    simp; omega
/-- Where the one stands ahead of which just k are. -/
theorem count_place (xs : List Int) (c : Int) (k : Nat) (h : k < xs.count c) : ∃ P, P < xs.length ∧ xs.getD P 0 = c ∧ (xs.take P).count c = k ∧ (xs.take (P + 1)).count c = k + 1 := by
  have key : ∀ n, n ≤ xs.length → k < (xs.take n).count c → ∃ P, P < n ∧ xs.getD P 0 = c ∧ (xs.take P).count c = k ∧ (xs.take (P + 1)).count c = k + 1 := by
    intro n
    induction n with
    | zero => intro _ h; simp at h
    | succ n ih =>
      intro hn h
      rw [takeI_snoc xs n (by omega), List.count_append, List.count_singleton] at h
      by_cases h2 : k < (xs.take n).count c
      · obtain ⟨P, h3, h4⟩ := ih (by omega) h2
        exact ⟨P, by omega, h4⟩
      · by_cases e : xs.getD n 0 = c
        · rw [if_pos (by simpa using e)] at h
          refine ⟨n, by omega, e, by omega, ?_⟩
          rw [takeI_snoc xs n (by omega), List.count_append, List.count_singleton, if_pos (by simpa using e)]; omega
        · rw [if_neg (by simpa using e)] at h; omega
  exact key xs.length (Nat.le_refl _) (by rw [List.take_length]; exact h)

theorem codes_at (xs : List Int) (f : Nat → List Bool) (P : Nat) (h : P < xs.length) : (codesL xs f).getD P [] = f (xs.getD P 0).toNat := by
  unfold codesL
  simp [List.getD_eq_getElem?_getD, h]
/-- A place in a part, one digit back. -/
theorem step_sel (hF : FR xs size f) {c : Int} (hc : c ∈ xs) {k : Nat} (hk : k < (f c.toNat).length) {P : Nat} (hP : P < xs.length) (hx : xs.getD P 0 = c) (d : Bool) (hd : d = (f c.toNat).getD k false) :
    selN d (partB (codesL xs f) ((f c.toNat).take k)) ((bgn ((codesL xs f).take P) ((f c.toNat).take (k + 1)) : Nat) : Int) = ((bgn ((codesL xs f).take P) ((f c.toNat).take k) : Nat) : Int) := by
  have hno := hF.part hc hk
  have h1 := part_rank (codesL xs f) ((f c.toNat).take k) P d hno
  obtain ⟨cs, hcs⟩ : ∃ cs, cs = codesL xs f := ⟨_, rfl⟩
  obtain ⟨p, hp⟩ : ∃ p, p = (f c.toNat).take k := ⟨_, rfl⟩
  have hpl : p.length = k := by rw [hp, List.length_take]; omega
  have hl := part_len (cs.take P) p (fun hm => hno (by rw [← hcs, ← hp]; exact List.mem_of_mem_take hm))
  have hPc : P < cs.length := by rw [hcs]; unfold codesL; rw [List.length_map]; exact hP
  have hcP : cs.getD P [] = f c.toNat := by rw [hcs, codes_at xs f P hP, hx]
  have hnx : nxt p (f c.toNat) = [d] := by
    unfold nxt nxtK
    rw [if_pos (by rw [hpl, ← hp]; exact ⟨hk, rfl⟩), hpl, hd]
  have hsu := partB_succ cs P hPc p
  rw [hcP, hnx] at hsu
  rw [← hcs, ← hp] at h1 ⊢
  rw [take_snocB _ k hk, ← hp, ← hd, ← h1.2]
  have hcut := part_cut cs p (P + 1)
  have hq : (partB cs p).getD (bgn (cs.take P) p) false = d := by
    rw [hcut, hsu, List.append_assoc, ← hl]
    simp [List.getD_eq_getElem?_getD]
  have hlt : bgn (cs.take P) p < (partB cs p).length := by
    rw [hcut, hsu, ← hl, List.length_append, List.length_append, List.length_singleton]; omega
  exact selN_at d (partB cs p) _ _ hlt hq rfl

set_option maxHeartbeats 8000000 in
theorem ssel_any (c k : Int) (h : SX w C sb b size xs f ks Rf) (hF : FR xs size f) (hsz : size ≤ 39) (hn : xs.length = n) (hn2 : n ≤ 1000) : Calls Tryz.prog 19 #[.agg #[.int .i64 (n : Int), .slice (some ⟨C, 0, none⟩) size size, .map (some sb), .map (some b)], .int .i64 c, .int .i64 k] w fun e w' =>
    ((k < 0 ∨ (xs.count c : Int) ≤ k) ∧ e = .returned (.int .i64 (-1)) ∨ ∃ P : Nat, P < n ∧ xs.getD P 0 = c ∧ ((xs.take P).count c : Int) = k ∧ ((xs.take (P + 1)).count c : Int) = k + 1 ∧ e = .returned (.int .i64 (P : Int))) ∧ Below w.heap.size w w' := by
  have hS := SB.new n h
  have HB0 := Lib.hid hS.bel
  by_cases hk0 : k < 0
  · clear hS h
    go_enter Tryz.func19, Tryz.ntmps19
    go_wp2
    go_ret
    exact ⟨.inl ⟨.inl hk0, rfl⟩, HB0.out⟩
  · have hrk := srank_any (n := n) c (n : Int) hS.sx hF hsz hn hn2
    rw [lo_nat n n (Nat.le_refl _), List.take_of_length_le (by omega)] at hrk
    obtain ⟨w0, hw0⟩ : ∃ w0, w0 = w.alloc (.cells #[.int .i64 (n : Int), .slice (some ⟨C, 0, none⟩) size size, .map (some sb), .map (some b)] 31) := ⟨_, rfl⟩
    obtain ⟨bx, hbx⟩ : ∃ bx, bx = w.heap.size := ⟨_, rfl⟩
    rw [← hw0] at hS hrk HB0
    rw [← hbx] at hS
    have HS := Lib.hid hS
    have HRK := Lib.hid hrk
    have HF := Lib.hid (And.intro hF hn)
    have l0 := hS.c0
    have l1 := hS.c1
    have l2 := hS.c2
    have l3 := hS.c3
    have q0 : (0 : Int) ≤ k := by omega
    clear hS hrk h hF hn
    obtain ⟨T, hT⟩ : ∃ T, T = xs.count c := ⟨_, rfl⟩
    rw [← hT] at HRK
    have HT := Lib.hid hT
    clear hT
    go_enter Tryz.func19, Tryz.ntmps19
    go_upto_region 1 with fail
    rw [← hw0, ← hbx]
    clear hw0 hbx
    go_wp2_with fail
    (with_reducible refine HRK.out.mono ?_)
    rintro e u1 ⟨rfl, hb1⟩
    have hS1 := HS.out.kept hb1
    clear l0 l1 l2 l3 hb1 HRK HS
    by_cases hkT : (T : Int) ≤ k
    · have HB := Lib.hid hS1.bel
      clear hS1
      go_wp2
      go_ret
      exact ⟨.inl ⟨.inr (by rw [← HT.out]; exact hkT), rfl⟩, HB.out⟩
    · obtain ⟨kn, rfl⟩ : ∃ kn : Nat, k = (kn : Int) := ⟨k.toNat, by omega⟩
      obtain ⟨P, hP, hPx, hPk, hPk1⟩ := count_place xs c kn (by rw [← HT.out]; omega)
      have hc : c ∈ xs := by rw [← hPx]; exact memI xs P hP
      have hin := HF.out.1.isIn c hc
      obtain ⟨cn, rfl⟩ : ∃ cn : Nat, c = (cn : Int) := ⟨c.toNat, by omega⟩
      have hcn : cn < size := by omega
      have hwh := HF.out.1.whole hc P
      rw [hPk] at hwh
      have hb0 : bgn ((codesL xs f).take P) ((f cn).take 0) = P := by
        rw [List.take_zero, bgn_nil, List.length_take]
        unfold codesL
        rw [List.length_map]; omega
      have hstep := fun e (he : e < (f cn).length) d hd => step_sel HF.out.1 hc (k := e) he hP hPx d hd
      have hlen := HF.out.1.len cn
      have hpart := fun (u : World) (h : SX u C sb b size xs f ks Rf) e (he : e < (f cn).length) => h.part hc (k := e) he (by rw [Int.toNat_natCast]; omega)
      rw [Int.toNat_natCast] at hstep hpart hwh
      obtain ⟨code, hcode⟩ : ∃ code, code = f cn := ⟨_, rfl⟩
      have l4 := hS1.sx.codes cn hcn
      rw [← hcode] at hstep hpart hlen hb0 l4 hwh
      obtain ⟨g, hg⟩ : ∃ g : List Bool → Nat, g = bgn ((codesL xs f).take P) := ⟨_, rfl⟩
      rw [← hg] at hstep hb0 hwh
      have l0 := hS1.c0
      have l1 := hS1.c1
      have HP := Lib.hid (And.intro hstep (And.intro hpart (And.intro hb0 (And.intro hPx (And.intro hPk hPk1)))))
      have HS1 := Lib.hid hS1
      have HPn := Lib.hid (show P < n by have := HF.out.2; omega)
      have HWH := Lib.hid hwh
      have hsz2 := str_size code
      clear hstep hpart hb0 hS1 hcode hin hg hPx hPk hPk1 hwh hP
      have q1 : (cn : Int) < (size : Int) := by omega
      have q2 : (0 : Int) ≤ (cn : Int) := by omega
      have hTd : decide (T ≤ kn) = false := decide_eq_false (by omega)
      go_wp2
      go_loopw [2, 8] (fun v2 v8 wq => ∃ e : Nat, e ≤ code.length ∧ v8 = .int .i64 ((e : Int) - 1) ∧ v2 = .int .i64 (g (code.take e) : Nat) ∧ SB w bx n C sb b size xs f ks Rf wq) (fun _ v8 _ => (intOf v8 + 1).toNat)
      case atStart => exact ⟨code.length, Nat.le_refl _, by go_num, by rw [List.take_length, HWH.out], HS1.out⟩
      case round =>
        obtain ⟨e, hec, rfl, rfl, hSB⟩ := hrel
        clear HS1 hsz2
        by_cases he0 : e = 0
        · subst he0
          have HBB := Lib.hid hSB.bel
          clear hSB
          have e0 : g (code.take 0) = P := HP.out.2.2.1
          rw [e0]
          have qe : ((0 : Nat) : Int) - 1 = -1 := by omega
          rw [qe]
          go_wp2
          go_ret
          exact ⟨.inr ⟨P, HPn.out, HP.out.2.2.2.1, by rw [HP.out.2.2.2.2.1], by rw [HP.out.2.2.2.2.2]; rfl, rfl⟩, HBB.out⟩
        · obtain ⟨k, rfl⟩ : ∃ k, e = k + 1 := ⟨e - 1, by omega⟩
          have hkl : k < code.length := by omega
          have qe : ((k + 1 : Nat) : Int) - 1 = (k : Int) := by omega
          rw [qe]
          have hsz' : k < (str code).size := by rw [str_size]; exact hkl
          have hat := str_at code k hkl hsz'
          have hex := str_take code k
          have q5 : (k : Int) ≤ ((str code).size : Int) := by omega
          have q6 : (0 : Int) ≤ (k : Int) := by omega
          have q7 : (k : Int) < ((str code).size : Int) := by omega
          obtain ⟨bit, hbit⟩ : ∃ bit, bit = code.getD k false := ⟨_, rfl⟩
          rw [← hbit] at hat
          have hstp := HP.out.1 k hkl bit hbit
          have hpt := fun u h => HP.out.2.1 u h k hkl
          obtain ⟨p, hp⟩ : ∃ p, p = code.take k := ⟨_, rfl⟩
          rw [← hp] at hex hstp hpt
          obtain ⟨Lp, hL⟩ : ∃ Lp, Lp = partB (codesL xs f) p := ⟨_, rfl⟩
          rw [← hL] at hstp hpt
          obtain ⟨R, hR⟩ : ∃ R, R = Rf p := ⟨_, rfl⟩
          rw [← hR] at hpt
          have l3 := hSB.c3
          have l4 := (hpt _ hSB.sx).1
          unfold rv at l4 hpt
          have HPT := Lib.hid hpt
          have HSTP := Lib.hid (And.intro hstp hp)
          have hA := Lib.hid hSB
          clear hSB hstp hpt hbit hp hL hR
          cases bit
          · have hsl := fun (u : World) (h : SB w bx n C sb b size xs f ks Rf u) => (sel0_any R Lp (g (code.take (k + 1)) : Int) u (HPT.out u h.sx).2).mono fun e u' hh => And.intro hh.1 (h.kept hh.2)
            rw [HSTP.out.1] at hsl
            have HSL := Lib.hid hsl
            clear hsl
            obtain ⟨ik, hik⟩ : ∃ ik, ik = g p := ⟨_, rfl⟩
            rw [← hik] at HSL
            have HIK := Lib.hid hik
            clear hik
            generalize g (code.take (k + 1)) = jk at *
            go_wp2
            go_region_held3 (fun w' => w'.cell? ⟨bx, 3, none⟩ = some (.map (some b)) ∧ (Instr.lookup 29 (.map (some b)) (.string (str p)) false).run Tryz.prog w' = .ok (.agg #[.int .i64 (R.n : Int), .slice R.a R.m R.c, .int .i64 (R.cn : Int), .int .i64 (R.cW : Int), .int .i64 (R.cL : Int), .slice R.a2 R.m2 R.c2]) w')
              (first
                | (with_reducible exact ⟨hA.out.c3, (HPT.out _ hA.out.sx).1⟩)
                | (with_reducible exact ⟨hA.out.drew.c3, (HPT.out _ hA.out.drew.sx).1⟩)
                | go_keep)
              (first
                | (go_at_call 32; (with_reducible refine (HSL.out _ hA.out.drew).mono ?_); rintro e u ⟨rfl, hA'⟩; have hA := Lib.hid hA'; clear hA')
                | (go_at_call 32; (with_reducible refine (HSL.out _ hA.out).mono ?_); rintro e u ⟨rfl, hA'⟩; have hA := Lib.hid hA'; clear hA'))
            all_goals
              have HF2 := Lib.hid hA.out
              clear hA
              go_wp2
              go_roundw
              case rel => first | exact ⟨k, by omega, by go_num, by rw [← HSTP.out.2, ← HIK.out], HF2.out⟩ | ((repeat apply Exists.intro); exact ⟨⟨k, by omega, by go_num, by rw [← HSTP.out.2, ← HIK.out], HF2.out⟩, rfl⟩)
              case measure => first | (simp [intOf]; done) | (simp [intOf]; omega)
          · have hsl := fun (u : World) (h : SB w bx n C sb b size xs f ks Rf u) => (sel1_any R Lp (g (code.take (k + 1)) : Int) u (HPT.out u h.sx).2).mono fun e u' hh => And.intro hh.1 (h.kept hh.2)
            rw [HSTP.out.1] at hsl
            have HSL := Lib.hid hsl
            clear hsl
            obtain ⟨ik, hik⟩ : ∃ ik, ik = g p := ⟨_, rfl⟩
            rw [← hik] at HSL
            have HIK := Lib.hid hik
            clear hik
            generalize g (code.take (k + 1)) = jk at *
            go_wp2
            go_region_held3 (fun w' => w'.cell? ⟨bx, 3, none⟩ = some (.map (some b)) ∧ (Instr.lookup 29 (.map (some b)) (.string (str p)) false).run Tryz.prog w' = .ok (.agg #[.int .i64 (R.n : Int), .slice R.a R.m R.c, .int .i64 (R.cn : Int), .int .i64 (R.cW : Int), .int .i64 (R.cL : Int), .slice R.a2 R.m2 R.c2]) w')
              (first
                | (with_reducible exact ⟨hA.out.c3, (HPT.out _ hA.out.sx).1⟩)
                | (with_reducible exact ⟨hA.out.drew.c3, (HPT.out _ hA.out.drew.sx).1⟩)
                | go_keep)
              (first
                | (go_at_call 31; (with_reducible refine (HSL.out _ hA.out.drew).mono ?_); rintro e u ⟨rfl, hA'⟩; have hA := Lib.hid hA'; clear hA')
                | (go_at_call 31; (with_reducible refine (HSL.out _ hA.out).mono ?_); rintro e u ⟨rfl, hA'⟩; have hA := Lib.hid hA'; clear hA'))
            all_goals
              have HF2 := Lib.hid hA.out
              clear hA
              go_wp2
              go_roundw
              case rel => first | exact ⟨k, by omega, by go_num, by rw [← HSTP.out.2, ← HIK.out], HF2.out⟩ | ((repeat apply Exists.intro); exact ⟨⟨k, by omega, by go_num, by rw [← HSTP.out.2, ← HIK.out], HF2.out⟩, rfl⟩)
              case measure => first | (simp [intOf]; done) | (simp [intOf]; omega)

end Go.Proofs.YtdidoecigkbffaaGreat
