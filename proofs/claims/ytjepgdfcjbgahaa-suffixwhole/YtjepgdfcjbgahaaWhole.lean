/- The walk of SuffixWhole. -/
import Derived.Test.YtjepgdfcjbgahaaOrders
import Derived.Test.YtjepgdfcjbgahaaXV
set_option maxRecDepth 100000
namespace Go.Proofs.Ytjepgdfcjbgahaa
open Go.RowKit
open M
attribute [local go_sem ↓] Go.wp_at_zero Go.wp_at_succ

theorem cells40 : Try.prog.cellsOf 40 = 2 := by kernel_rfl
theorem alk_self : ∀ (s : List Int) (k : Nat), k ≤ s.length → alk s (s.take k) = k := by
  intro s
  induction s with
  | nil => intro k h; simp at h; subst h; rfl
  | cons x s ih =>
    intro k h
    cases k with
    | zero => rw [List.take_zero, alk_nil_r]
    | succ k =>
      rw [List.take_succ_cons, alk_cc, if_pos rfl, ih k (by simpa using h)]
/-- Those found are those that begin so. -/
theorem found_iff {M p : List Int} (h64 : I64s M) {f t : Nat} (hF : FndO M p f t) {i : Nat} (hi : i < M.length) : ((i : Int) ∈ ((sufA M).drop f).take (t - f)) ↔ alk (M.drop i) p = p.length := by
  have hS := sufA_ok h64
  have hft := hF.ft
  have htn := hF.tn
  obtain ⟨j, hj, e⟩ := hS.has i hi
  have hm := hF.mid hj e
  unfold Bgs at hm
  rw [← hm]
  constructor
  · intro h
    obtain ⟨a, ha, hae⟩ := List.getElem_of_mem h
    rw [List.length_take, List.length_drop, sufA_len] at ha
    rw [List.getElem_take, List.getElem_drop] at hae
    have : f + a = j := hS.inj (by omega) hj (by
      rw [e, List.getD_eq_getElem?_getD, List.getElem?_eq_getElem (by rw [sufA_len]; omega), Option.getD_some, hae])
    omega
  · rintro ⟨h1, h2⟩
    have : (i : Int) = (((sufA M).drop f).take (t - f))[j - f]'(by rw [List.length_take, List.length_drop, sufA_len]; omega) := by
      rw [List.getElem_take, List.getElem_drop]
      have := e
      rw [List.getD_eq_getElem?_getD, List.getElem?_eq_getElem (by rw [sufA_len]; omega), Option.getD_some] at this
      rw [← this]
      congr 1
      omega
    rw [this]
    exact List.getElem_mem _

set_option maxHeartbeats 8000000 in
theorem whole_walk (A : Option Addr) (n0 c0 : Nat) (xs : List Int) (q0 x0 y0 : Int) (w : World) (hA : NumsAt .i64 w A xs) (hx : xs.length = n0) :
    Calls Try.prog 7 #[.slice A n0 c0, .int .i64 q0, .agg #[.int .i64 x0, .int .i64 y0]] w fun e w' => e = .returned (.bool true) ∧ Below w.heap.size w w' := by
  have hal := fun u (hu : NumsAt .i64 u A xs) => alike_any A n0 c0 xs q0 u hu hx
  have hcl := cutL_len (kindN q0) xs (min n0 40) (by rw [hx]; omega)
  have hci := cutL_in (kindN q0) xs (min n0 40) (by have := kindN_in q0; omega)
  obtain ⟨n, hn⟩ : ∃ n, n = min n0 40 := ⟨_, rfl⟩
  rw [← hn] at hcl hci
  simp only [← hn] at hal
  have hn40 : n ≤ 40 := by omega
  obtain ⟨M, hM⟩ : ∃ M, M = cutL (kindN q0) xs n := ⟨_, rfl⟩
  rw [← hM] at hcl hci
  simp only [← hM] at hal
  have h64 : I64s M := fun x hx => by
    have := hci x hx
    have := kindN_in q0
    omega
  obtain ⟨b, hb⟩ : ∃ b, b = w.heap.size := ⟨_, rfl⟩
  obtain ⟨w0, hw0⟩ : ∃ w0, w0 = w.alloc (.cells #[.int .i64 x0, .int .i64 y0] 40) := ⟨_, rfl⟩
  have hb0 : Below w.heap.size w w0 := by rw [hw0]; exact al _ _
  have a0 : w0.cell? ⟨b, 0, none⟩ = some (.int .i64 x0) := by rw [hw0, cell_new _ _ _ _ _ hb]; rfl
  have a1 : w0.cell? ⟨b, 1, none⟩ = some (.int .i64 y0) := by rw [hw0, cell_new _ _ _ _ _ hb]; rfl
  have hblt := World.block_lt_of_cell? w0 _ a0
  have HC := Lib.hid (And.intro a0 (And.intro a1 (And.intro hblt hb0)))
  have HX := Lib.hid (And.intro hA (And.intro hal (And.intro hcl h64)))
  clear hA hx hal hcl hci hn hM h64 hb0 a0 a1 hblt
  go_enter Try.func7, Try.ntmps7
  go_upto_region 1 with fail
  rw [← hw0, ← hb]
  clear hw0 hb
  go_wp2_with fail
  (with_reducible refine (awake_any _).mono ?_)
  rintro e w1 ⟨rfl, hb1⟩
  have H1 := Lib.hid (And.intro hb1 (HC.out.2.2.2.trans (hb1.mono HC.out.2.2.2.size)))
  clear hb1
  go_wp2_with fail
  (with_reducible refine (HX.out.2.1 _ (HX.out.1.kept H1.out.2)).mono ?_)
  rintro e u ⟨v, rfl, hI⟩
  obtain ⟨P, pc, rfl, hPn, -, hpc, -, hPN⟩ := nums_of_own hI.1
  rw [HX.out.2.2.1] at hpc ⊢
  have hb0 := H1.out.1.trans (hI.2.mono H1.out.1.size)
  have hbw := H1.out.2.trans (hI.2.mono H1.out.2.size)
  have a0 : u.cell? ⟨b, 0, none⟩ = some (.int .i64 x0) := by rw [hb0.cell (p := ⟨b, 0, none⟩) HC.out.2.2.1]; exact HC.out.1
  have a1 : u.cell? ⟨b, 1, none⟩ = some (.int .i64 y0) := by rw [hb0.cell (p := ⟨b, 1, none⟩) HC.out.2.2.1]; exact HC.out.2.1
  have H2 := Lib.hid (And.intro hPn (And.intro hpc (And.intro hPN hbw)))
  clear hI hPn hpc hPN hb0 hbw
  by_cases hn0 : n = 0
  · subst hn0
    go_wp2
    go_ret
    exact ⟨rfl, H2.out.2.2.2⟩
  · obtain ⟨pb, po, hPe, -, -⟩ := num_at H2.out.1 (i := 0) (by rw [HX.out.2.2.1]; omega)
    have hPn := H2.out.1
    have hpc := H2.out.2.1
    subst hPe
    have z0 : ((n : Int) == 0) = false := by simp; omega
    have z0' : ¬ (n : Int) = 0 := by omega
    have z0'' : (n == 0) = false := by simp; omega
    -- where it is
    obtain ⟨r1, hr1⟩ : ∃ r1, x0.tmod n = r1 := ⟨_, rfl⟩
    have t1 := Int.tmod_lt_of_pos x0 (b := (n : Int)) (by omega)
    have t2 := Int.lt_tmod_of_pos x0 (b := (n : Int)) (by omega)
    rw [hr1] at t1 t2
    have hat := cutI_in n x0 (by omega)
    unfold cutI at hat
    rw [hr1] at hat
    obtain ⟨at', hat'⟩ : ∃ a : Nat, (r1 + (n : Int)).tmod n = (a : Int) := ⟨((r1 + (n : Int)).tmod n).toNat, by omega⟩
    rw [hat'] at hat
    have hw1 : IntKind.i64.wrap (r1 + (n : Int)) = r1 + (n : Int) := IntWalk.i64_in _ (by omega)
    have han : at' < n := by omega
    clear hat
    -- how much of it
    obtain ⟨Ln, hL⟩ : ∃ L : Nat, L = n - at' + 1 := ⟨_, rfl⟩
    obtain ⟨r2, hr2⟩ : ∃ r2, y0.tmod Ln = r2 := ⟨_, rfl⟩
    have t3 := Int.tmod_lt_of_pos y0 (b := (Ln : Int)) (by omega)
    have t4 := Int.lt_tmod_of_pos y0 (b := (Ln : Int)) (by omega)
    rw [hr2] at t3 t4
    have hk := cutI_in Ln y0 (by omega)
    unfold cutI at hk
    rw [hr2] at hk
    obtain ⟨k, hk'⟩ : ∃ a : Nat, (r2 + (Ln : Int)).tmod Ln = (a : Int) := ⟨((r2 + (Ln : Int)).tmod Ln).toNat, by omega⟩
    rw [hk'] at hk
    have hkn : at' + k ≤ n := by omega
    clear hk
    have w2 : IntKind.i64.wrap ((n : Int) - (at' : Int)) = (n : Int) - (at' : Int) := IntWalk.i64_in _ (by omega)
    have w3 : IntKind.i64.wrap ((n : Int) - (at' : Int) + 1) = (Ln : Int) := (IntWalk.i64_in _ (by omega)).trans (by omega)
    have w4 : IntKind.i64.wrap (r2 + (n : Int)) = r2 + (n : Int) := IntWalk.i64_in _ (by omega)
    have w5 : IntKind.i64.wrap (r2 + (n : Int) - (at' : Int)) = r2 + (n : Int) - (at' : Int) := IntWalk.i64_in _ (by omega)
    have w6 : IntKind.i64.wrap (r2 + (n : Int) - (at' : Int) + 1) = r2 + (Ln : Int) := (IntWalk.i64_in _ (by omega)).trans (by omega)
    have w7 : IntKind.i64.wrap ((at' : Int) + (k : Int)) = (at' : Int) + (k : Int) := IntWalk.i64_in _ (by omega)
    have l0 : ((Ln : Int) == 0) = false := by simp; omega
    have l0' : ¬ (Ln : Int) = 0 := by omega
    clear hL
    have g1 : (at' : Int) < (n : Int) := by omega
    have g2 : (at' : Int) < (pc : Int) := by omega
    have g3 : (at' : Int) ≤ (at' : Int) + (k : Int) := by omega
    have g4 : (at' : Int) + (k : Int) ≤ (pc : Int) := by omega
    have g5 : (0 : Int) ≤ (at' : Int) := by omega
    have g6 : ((at' : Int) + (k : Int)).toNat = at' + k := by omega
    have g7 : ¬ pc = at' := by omega
    have g8 : at' + k - at' = k := by omega
    have har := array_any (some ⟨pb, po, none⟩) n pc M u hPn HX.out.2.2.1 (by omega) HX.out.2.2.2
    have HA := Lib.hid (And.intro hPn har)
    clear hPn har
    go_wp2_with fail
    (with_reducible refine HA.out.2.mono ?_)
    rintro e u1 ⟨A1, c1, rfl, hAn, hc1, hb2⟩
    have hM1 := HA.out.1.kept hb2
    have hsl : (sufA M).length = n := by rw [sufA_len, HX.out.2.2.1]
    have hp1 := (hM1.drop at').take k
    have hpl : ((M.drop at').take k).length = k := by rw [List.length_take, List.length_drop, HX.out.2.2.1]; omega
    have hbw := H2.out.2.2.2.trans (hb2.mono H2.out.2.2.2.size)
    have hself : alk (M.drop at') ((M.drop at').take k) = ((M.drop at').take k).length := by rw [hpl]; exact alk_self _ _ (by rw [List.length_drop, HX.out.2.2.1]; omega)
    have hpa : Abv b0 ((M.drop at').take k) := fun x hx => i64_abv HX.out.2.2.2 x (List.mem_of_mem_drop (List.mem_of_mem_take hx))
    obtain ⟨p, hpe⟩ : ∃ p, p = (M.drop at').take k := ⟨_, rfl⟩
    rw [← hpe] at hp1 hpl hself hpa
    have hfi := find_any (some ⟨pb, po, none⟩) A1 (some ⟨pb, po + at', none⟩) n pc n c1 k (pc - at') M (sufA M) p u1 hM1 hAn hp1 HX.out.2.2.1 hsl hpl hpc (by omega) (by omega) (by omega) (fun h => by cases h)
    have H3 := Lib.hid (And.intro hM1 (And.intro hAn (And.intro hp1 (And.intro hpl (And.intro hself (And.intro hpa (And.intro hbw hfi)))))))
    clear hM1 hAn hp1 hpl hself hpa hbw hfi hpe hb2 hsl a0 a1
    go_wp2_with fail
    (with_reducible refine H3.out.2.2.2.2.2.2.2.mono ?_)
    rintro e u2 ⟨f, t, rfl, f1, f2, f3, f4, f5, f6, hb3⟩
    rw [sufA_len] at f2 f4 f6
    have hF := fnd_own HX.out.2.2.2 H3.out.2.2.2.2.2.1 f1 f2 f3 f4 f5 f6
    rw [HX.out.2.2.1] at f2
    have hM2 := H3.out.1.kept hb3
    have hA2 := H3.out.2.1.kept hb3
    have hp2 := H3.out.2.2.1.kept hb3
    have hbw := H3.out.2.2.2.2.2.2.1.trans (hb3.mono H3.out.2.2.2.2.2.2.1.size)
    have hlt : f < t := by
      have hS := sufA_ok HX.out.2.2.2
      obtain ⟨j, hj, e⟩ := hS.has at' (by rw [HX.out.2.2.1]; exact han)
      have := (hF.mid hj e).2 H3.out.2.2.2.2.1
      omega
    obtain ⟨ob, oo, hOe, -, -⟩ := num_at hA2 (i := 0) (by rw [sufA_len, HX.out.2.2.1]; omega)
    subst hOe
    have hfn := (hA2.drop f).take (t - f)
    have hfl : (((sufA M).drop f).take (t - f)).length = t - f := by rw [List.length_take, List.length_drop, sufA_len, HX.out.2.2.1]; omega
    have hmem := fun i (hi : i < M.length) => found_iff HX.out.2.2.2 hF (i := i) hi
    have hmany := hF.many
    rw [hF.from, HX.out.2.2.1] at hmany
    obtain ⟨fd, hfd⟩ : ∃ fd, fd = ((sufA M).drop f).take (t - f) := ⟨_, rfl⟩
    rw [← hfd] at hfn hfl
    simp only [← hfd] at hmem
    have hms := manyN_succ M p
    have hml := manyN_le M p
    have z3 : manyN M p 0 = 0 := rfl
    obtain ⟨N, hN⟩ : ∃ N, manyN M p = N := ⟨_, rfl⟩
    rw [hN] at hmany hms hml z3
    have H4 := Lib.hid (And.intro hM2 (And.intro hp2 (And.intro hbw (And.intro hfn (And.intro hfl (And.intro hmem (And.intro hmany (And.intro hms (And.intro hml z3)))))))))
    clear f1 f3 f4 f5 f6 hb3 hF hM2 hA2 hp2 hbw hfn hfl hmem hmany hms hml z3 hN hfd
    have k1 : ¬ (f : Int) < 0 := by omega
    have k2 : ¬ (n : Int) < (t : Int) := by omega
    have k3 : ¬ (t : Int) ≤ (f : Int) := by omega
    have k4 : (f : Int) ≤ (t : Int) := by omega
    have k5 : (t : Int) ≤ (c1 : Int) := by omega
    have k6 : (f : Int) < (c1 : Int) := by omega
    have k7 : (0 : Int) ≤ (f : Int) := by omega
    have k8 : ¬ c1 = f := by omega
    have kd1 : decide (n < t) = false := decide_eq_false (by omega)
    have kd2 : decide (t ≤ f) = false := decide_eq_false (by omega)
    have kd3 : decide ((f : Int) < 0) = false := decide_eq_false (by omega)
    go_wp2
    go_loopw [16, 17, 18, 19] (fun v16 v17 _ _ wr => ∃ i : Nat, i ≤ n ∧ v17 = .int .i64 (i : Int) ∧ v16 = .int .i64 ((N i : Nat) : Int) ∧ Below u2.heap.size u2 wr) (fun _ v17 _ _ _ => n - (intOf v17).toNat)
    case atStart => exact ⟨0, Nat.zero_le _, rfl, by rw [H4.out.2.2.2.2.2.2.2.2.2]; rfl, Below.refl _ _⟩
    case round =>
      obtain ⟨i, hin, rfl, rfl, hb⟩ := hrel
      have hNl := H4.out.2.2.2.2.2.2.2.2.1 i
      by_cases hlt2 : i < n
      · have hal := dalike_any (some ⟨pb, po + i, none⟩) (some ⟨pb, po + at', none⟩) (n - i) k (pc - i) (pc - at') (M.drop i) p wr ((H4.out.1.kept hb).drop i) (H4.out.2.1.kept hb) (by rw [List.length_drop, HX.out.2.2.1]) H3.out.2.2.2.1 (by omega) (by omega)
        have hha := fun m => has_any (some ⟨ob, oo + f, none⟩) (t - f) (c1 - f) fd (i : Int) (wr.drewN m) ((H4.out.2.2.2.1.kept hb).kept (below_drewN _ _)) H4.out.2.2.2.2.1 (by omega)
        have hm := H4.out.2.2.2.2.2.1 i (by rw [HX.out.2.2.1]; exact hlt2)
        have hms := H4.out.2.2.2.2.2.2.2.1 i
        have hle := (alk_le (M.drop i) p).2
        rw [H3.out.2.2.2.1] at hm hms hle
        generalize alk (M.drop i) p = q at *
        obtain ⟨o, ho⟩ : ∃ o, decide (q = k) = o := ⟨_, rfl⟩
        have hfo : decide ((i : Int) ∈ fd) = o := by rw [← ho, decide_eq_decide]; exact hm
        simp only [hfo] at hha
        have q5 : ((q : Int) == (k : Int)) = o := by
          rw [← ho]
          by_cases e : q = k
          · rw [decide_eq_true e]; simp [e]
          · rw [decide_eq_false e]; simp; omega
        have hms' : N (i + 1) = N i + if o = true then 1 else 0 := by
          rw [hms, ← ho]
          by_cases e : q = k <;> simp [e]
        have HL := Lib.hid (And.intro hal (And.intro hha (And.intro hb hms')))
        clear hal hha hm hms hms' hb hfo ho
        have g9 : (i : Int) < (n : Int) := by omega
        have g10 : (0 : Int) ≤ (i : Int) := by omega
        have g11 : (i : Int) < (pc : Int) := by omega
        have g12 : (i : Int) ≤ (n : Int) := by omega
        have g13 : ¬ pc = i := by omega
        obtain ⟨Ni, hNi⟩ : ∃ x, N i = x := ⟨_, rfl⟩
        rw [hNi] at hNl HL ⊢
        have HN := Lib.hid hNi
        clear hNi
        go_wp2_with fail
        (with_reducible refine HL.out.1.mono ?_)
        rintro e u4 ⟨rfl, m, rfl⟩
        go_wp2_with fail
        (with_reducible refine (HL.out.2.1 m).mono ?_)
        rintro e u5 ⟨rfl, rfl⟩
        cases o
        all_goals
          go_wp2
          go_roundw
          case rel =>
            obtain ⟨-, -, hb, hms'⟩ := HL.out
            refine ⟨i + 1, by omega, by go_num, ?_, hb.trans ((below_drewN wr m).mono hb.size)⟩
            rw [hms']; first | rfl | (simp; try go_num)
          case measure => simp [intOf]; omega
      · obtain rfl : i = n := by omega
        have hmany := H4.out.2.2.2.2.2.2.1
        have HF := Lib.hid (H4.out.2.2.1.trans (hb.mono H4.out.2.2.1.size))
        obtain ⟨Ni, hNi⟩ : ∃ x, N i = x := ⟨_, rfl⟩
        rw [hNi] at hmany ⊢
        clear hb hNi hNl
        have q1 : ¬ (i : Int) < (i : Int) := by omega
        have q2 : IntKind.i64.wrap ((t : Int) - (f : Int)) = (t : Int) - (f : Int) := IntWalk.i64_in _ (by omega)
        have q3 : ((Ni : Int) == (t : Int) - (f : Int)) = true := by simp; omega
        have HM := Lib.hid hmany
        clear hmany
        go_wp2
        go_ret
        exact ⟨rfl, HF.out⟩

end Go.Proofs.Ytjepgdfcjbgahaa
