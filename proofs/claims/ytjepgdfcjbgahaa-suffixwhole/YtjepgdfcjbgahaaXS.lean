/- The contract of Common. -/
import Derived.Test.YtjepgdfcjbgahaaXR
set_option maxRecDepth 100000
namespace Go.Proofs.Ytjepgdfcjbgahaa
open Go.RowKit
open M
attribute [local go_sem ↓] Go.wp_at_zero Go.wp_at_succ

theorem alk_get : ∀ (a b : List Int) (j : Nat), j < alk a b → a.getD j 0 = b.getD j 0 := by
  intro a
  induction a with
  | nil => intro b j h; rw [alk_nil_l] at h; omega
  | cons x s ih =>
    intro b j h
    cases b with
    | nil => rw [alk_nil_r] at h; omega
    | cons y t =>
      rw [alk_cc] at h
      split at h
      · rename_i e
        cases j with
        | zero => simpa using e
        | succ j => simpa using ih t j (by omega)
      · omega
theorem alk_stop : ∀ (a b : List Int), alk a b < a.length → alk a b < b.length → a.getD (alk a b) 0 ≠ b.getD (alk a b) 0 := by
  intro a
  induction a with
  | nil => intro b h; simp at h
  | cons x s ih =>
    intro b h1 h2
    cases b with
    | nil => simp at h2
    | cons y t =>
      rw [alk_cc] at h1 h2 ⊢
      split at h1
      · rename_i e
        rw [if_pos e] at h2 ⊢
        simpa using ih t (by simpa using h1) (by simpa using h2)
      · rename_i e
        rw [if_neg e] at h2 ⊢
        simpa using e
theorem getD_drop (l : List Int) (p j : Nat) : (l.drop p).getD j 0 = l.getD (p + j) 0 := by simp [List.getD_eq_getElem?_getD]

def ComEnd (w : World) (l o : List Int) (n : Nat) (e : Ending) (u : World) : Prop :=
  Below w.heap.size w u ∧ ((o = sufA l ∧ ∃ D, e = .returned (.tuple #[.slice (some ⟨D, 0, none⟩) n n, .int .i64 0]) ∧ NumsAt .i64 u (some ⟨D, 0, none⟩) (comL l o)) ∨ (o ≠ sufA l ∧ e = .returned (.tuple #[.slice none 0 0, .int .i64 1])))

set_option maxHeartbeats 4000000 in
theorem common_any (A O : Option Addr) (n c no co : Nat) (l o : List Int) (w : World) (hA : NumsAt .i64 w A l) (hO : NumsAt .i64 w O o) (hl : l.length = n) (ho : o.length = no) (hn : n ≤ 1000000) (hno : no ≤ 1000000) (h64 : I64s l) :
    Calls Try.prog 16 #[.slice A n c, .slice O no co] w (ComEnd w l o n) := by
  have har := array_any A n c l w hA hl hn h64
  have HX := Lib.hid (And.intro hA (And.intro hO (And.intro hl (And.intro ho (And.intro h64 har)))))
  clear hA hO hl ho h64 har
  go_enter Try.func16, Try.ntmps16
  go_wp2_with fail
  (with_reducible refine HX.out.2.2.2.2.2.mono ?_)
  rintro e u1 ⟨A', ca, rfl, h1, -, hb⟩
  have hsl : (sufA l).length = n := by rw [sufA_len, HX.out.2.2.1]
  have heq := seq_any O A' no n co ca o (sufA l) u1 (HX.out.2.1.kept hb) h1 HX.out.2.2.2.1 hsl (by omega)
  have H1 := Lib.hid (And.intro heq hb)
  clear heq hb h1
  by_cases hoe : o = sufA l
  · rw [decide_eq_true hoe] at H1
    have hno2 : no = n := by rw [← HX.out.2.2.2.1, hoe, hsl]
    subst hno2
    go_wp2_with fail
    (with_reducible refine H1.out.1.mono ?_)
    rintro e u2 ⟨rfl, hb2⟩
    have hbw := H1.out.2.trans (hb2.mono H1.out.2.size)
    have hS := sufA_ok HX.out.2.2.2.2.1
    have htu := turned_any O no co o u2 (HX.out.2.1.kept hbw) HX.out.2.2.2.1 hn (by rw [hoe]; exact hS.all)
    have H2 := Lib.hid (And.intro htu (And.intro hbw hoe))
    clear hb2 hbw hS htu hoe hsl
    go_wp2_with fail
    (with_reducible refine H2.out.1.mono ?_)
    rintro e u3 ⟨D2, L, hLl, rfl, hLn, hLq, hb3⟩
    have hbw := H2.out.2.1.trans (hb3.mono H2.out.2.1.size)
    have hS := sufA_ok HX.out.2.2.2.2.1
    have hrk : ∀ p, p < no → ∃ i, i < no ∧ (sufA l).getD i 0 = (p : Int) ∧ L.getD p 0 = (i : Int) := fun p hp => by
      obtain ⟨i, hi, e⟩ := hS.has p (by rw [HX.out.2.2.1]; exact hp)
      rw [HX.out.2.2.1] at hi
      obtain ⟨q, e1, e2, e3⟩ := hLq i hi
      rw [H2.out.2.2] at e1
      have : q = p := by omega
      subst this
      exact ⟨i, hi, e, e3⟩
    have H3 := Lib.hid (And.intro hrk (And.intro hLn (And.intro hLl hbw)))
    clear hLl hLn hLq hb3 hbw hS hrk
    obtain ⟨i0, hi, hz0, hz1, hz2⟩ := info_parts info3
    go_wp2_with (first | (at_make; refine wpList_make_full _ rfl _ _ 22 rfl u3.heap.size 3 i0 (.int .i64 0) 1 Try.underlying22 hi hz0 hz1 _ _ _ _ no rfl rfl rfl rfl ?b2 ?b3 (Nat.le_refl _) ?_))
    case b2 => first | omega | (rw [hz2]; omega)
    case b3 => unfold maxLen; omega
    intro w4 hown hgrow
    have hD := DI.made (Below.refl _ _) hown hgrow
    have HD := Lib.hid hD
    clear hown hgrow hD hi hz0 hz1 hz2
    obtain ⟨D, hDe⟩ : ∃ D, D = u3.heap.size := ⟨_, rfl⟩
    rw [← hDe] at HD
    rw [← hDe]
    clear hDe
    go_wp2
    go_loopw [8, 9, 10, 11, 24] (fun v8 _ _ _ v24 wr => ∃ (k h : Nat) (d : Nat → Int), k ≤ no ∧ h ≤ no ∧ v24 = .int .i64 (k : Int) ∧ v8 = .int .i64 (h : Int) ∧ DI u3 D no d wr ∧ d 0 = 0 ∧ (∀ q i : Nat, q < k → i < no → (sufA l).getD i 0 = (q : Int) → d i = ((comN l (sufA l) i : Nat) : Int)) ∧ ∀ r, r + 1 < no → (sufA l).getD (r + 1) 0 = (k : Int) → h ≤ comN l (sufA l) (r + 1)) (fun _ _ _ _ v24 _ => no - (intOf v24).toNat)
    case atStart => exact ⟨0, 0, fun _ => 0, Nat.zero_le _, Nat.zero_le _, rfl, rfl, HD.out, rfl, fun q i h => by omega, fun r _ _ => Nat.zero_le _⟩
    case round =>
      obtain ⟨k, h, d, hk, hh, rfl, rfl, hDr, hd0, hd, hle⟩ := hrel
      clear HD
      have hS := sufA_ok HX.out.2.2.2.2.1
      have hbw := H3.out.2.2.2.trans (hDr.bel.mono H3.out.2.2.2.size)
      by_cases hlt : k < no
      · obtain ⟨i, hi, hie, hLi⟩ := H3.out.1 k hlt
        obtain ⟨lb, lo, hLe, -, cL⟩ := num_at (H3.out.2.1.kept hDr.bel) (i := k) (by rw [H3.out.2.2.1]; exact hlt)
        simp only [Option.some.injEq, Addr.mk.injEq, and_true] at hLe
        obtain ⟨rfl, rfl⟩ := hLe
        rw [hLi, Nat.zero_add] at cL
        have q1 : (k : Int) < (no : Int) := by omega
        have q2 : (0 : Int) ≤ (k : Int) := by omega
        by_cases hi0 : i = 0
        · subst hi0
          have HK := Lib.hid (And.intro hDr (And.intro hd0 (And.intro hd hie)))
          clear hDr hd0 hd hle hie hLi hS hbw
          go_wp2
          go_roundw
          case rel =>
            obtain ⟨hDr, hd0, hd, hie⟩ := HK.out
            refine ⟨k + 1, 0, d, by omega, by omega, by go_num, rfl, hDr, hd0, fun q i hq hi' he => ?_, fun r _ _ => Nat.zero_le _⟩
            by_cases e : q = k
            · subst e
              have hS := sufA_ok HX.out.2.2.2.2.1
              have : i = 0 := hS.inj (by rw [HX.out.2.2.1]; exact hi') (by rw [HX.out.2.2.1]; exact hi) (he.trans hie.symm)
              subst this
              rw [hd0]; rfl
            · exact hd q i (by omega) hi' he
          case measure => simp [intOf]; omega
        · obtain ⟨r, rfl⟩ : ∃ r, i = r + 1 := ⟨i - 1, by omega⟩
          obtain ⟨q, hq, hql⟩ := hS.pl (i := r) (by rw [HX.out.2.2.1]; omega)
          rw [HX.out.2.2.1] at hql
          obtain ⟨ob, oo, hOe, -, cO⟩ := num_at (HX.out.2.1.kept hbw) (i := r) (by rw [HX.out.2.2.2.1]; omega)
          rw [H2.out.2.2, hq] at cO
          have hcom : comN l (sufA l) (r + 1) = alk (l.drop q) (l.drop k) := by
            unfold comN
            rw [if_neg (by omega), Nat.add_sub_cancel, hq, hie, Int.toNat_natCast, Int.toNat_natCast]
          obtain ⟨H, hH⟩ : ∃ H, comN l (sufA l) (r + 1) = H := ⟨_, rfl⟩
          have hhH := hle r (by omega) hie
          rw [hH] at hhH hcom
          have hal := alk_le (l.drop q) (l.drop k)
          rw [← hcom, List.length_drop, List.length_drop, HX.out.2.2.1] at hal
          have hqk : q ≠ k := fun e => by
            subst e
            have := hS.inj (by rw [HX.out.2.2.1]; omega) (by rw [HX.out.2.2.1]; exact hi) (hq.trans hie.symm)
            omega
          subst hOe
          have HK := Lib.hid (And.intro hDr (And.intro hd0 (And.intro hd (And.intro hie (And.intro hH (And.intro hcom hbw))))))
          have q3 : ((r : Int) + 1 == 0) = false := by simp; omega
          have q3' : ¬ (r : Int) + 1 = 0 := by omega
          have q4 : IntKind.i64.wrap ((r : Int) + 1 - 1) = (r : Int) := by rw [Int.add_sub_cancel]; exact IntWalk.i64_in _ (by omega)
          have q5 : (r : Int) < (no : Int) := by omega
          have q6 : (0 : Int) ≤ (r : Int) := by omega
          clear hDr hd0 hd hle hie hLi hS hbw hH hcom hq
          obtain ⟨wo, rfl⟩ : ∃ wo, wo = wr := ⟨_, rfl⟩
          obtain ⟨M, hM⟩ : ∃ M, M = max k q := ⟨_, rfl⟩
          have q7 : (if (k : Int) < (q : Int) then (q : Int) else (k : Int)) = (M : Int) := by split <;> omega
          have hM1 : k ≤ M := by omega
          have hM2 : q ≤ M := by omega
          have hM3 : M = k ∨ M = q := by omega
          clear hM q7
          rcases Nat.lt_or_gt_of_ne hqk with hkq | hkq
          · obtain rfl : k = M := by omega
            have hx1 : ¬ (k : Int) < (q : Int) := by omega
            go_wp2
            go_loopw [8] (fun v8 wq => ∃ h : Nat, h ≤ H ∧ v8 = .int .i64 (h : Int) ∧ ∃ m, wq = wo.drewN m) (fun v8 _ => H - (intOf v8).toNat)
            case atStart => exact ⟨h, hhH, rfl, 0, rfl⟩
            case round =>
              obtain ⟨h, hhH, rfl, mm, hm⟩ := hrel
              have hnA : NumsAt .i64 wr A l := by rw [hm]; exact (HX.out.1.kept HK.out.2.2.2.2.2.2).kept (below_drewN _ _)
              have hDr2 : DI u3 D no d wr := by rw [hm]; exact HK.out.1.kept (below_drewN _ _)
              have e1 : IntKind.i64.wrap ((k : Int) + (h : Int)) = (k : Int) + (h : Int) := IntWalk.i64_in _ (by omega)
              have e2 : IntKind.i64.wrap ((k : Int) + (h : Int)) = (k : Int) + (h : Int) := IntWalk.i64_in _ (by omega)
              have e3 : IntKind.i64.wrap ((q : Int) + (h : Int)) = (q : Int) + (h : Int) := IntWalk.i64_in _ (by omega)
              have hcom := HK.out.2.2.2.2.2.1
              by_cases hin : k + h < no
              · have g1 : (k : Int) + (h : Int) < (no : Int) := by omega
                have g2 : (k : Int) + (h : Int) < (no : Int) := by omega
                have g3 : (q : Int) + (h : Int) < (no : Int) := by omega
                have g4 : (0 : Int) ≤ (k : Int) + (h : Int) := by omega
                have g5 : (0 : Int) ≤ (q : Int) + (h : Int) := by omega
                have g6 : ((k : Int) + (h : Int)).toNat = k + h := by omega
                have g7 : ((q : Int) + (h : Int)).toNat = q + h := by omega
                obtain ⟨ab, ao, hAe, -, ca1⟩ := num_at hnA (i := k + h) (by rw [HX.out.2.2.1]; omega)
                obtain ⟨ab2, ao2, hAe2, -, ca2⟩ := num_at hnA (i := q + h) (by rw [HX.out.2.2.1]; omega)
                rw [hAe] at hAe2
                simp only [Option.some.injEq, Addr.mk.injEq, and_true] at hAe2
                obtain ⟨rfl, rfl⟩ := hAe2
                have ca1' := ca1
                have ca2' := ca2
                rw [← Nat.add_assoc] at ca1' ca2'
                obtain ⟨x, hx⟩ : ∃ x, l.getD (k + h) 0 = x := ⟨_, rfl⟩
                obtain ⟨y, hy⟩ : ∃ y, l.getD (q + h) 0 = y := ⟨_, rfl⟩
                rw [hx] at ca1 ca1'
                rw [hy] at ca2 ca2'
                subst hAe
                have HW := Lib.hid hm
                clear hm hnA
                by_cases hlt2 : h < H
                · have hxy : x = y := by
                    have := alk_get (l.drop q) (l.drop k) h (by rw [← hcom]; exact hlt2)
                    rw [getD_drop, getD_drop, hx, hy] at this
                    exact this.symm
                  subst hxy
                  have qe : (x == x) = true := by simp
                  clear hx hy hcom hDr2
                  go_wp2
                  go_quiet (fail)
                  go_wp2
                  go_roundw
                  case rel => exact ⟨h + 1, by omega, by go_num, mm + nq, by rw [HW.out, World.drewN_drewN]⟩
                  case measure => simp [intOf]; omega
                · obtain rfl : h = H := by omega
                  have hne : x ≠ y := fun e => by
                    have hal1 : alk (l.drop q) (l.drop k) < (l.drop q).length := by rw [← hcom, List.length_drop, HX.out.2.2.1]; omega
                    have hal2 : alk (l.drop q) (l.drop k) < (l.drop k).length := by rw [← hcom, List.length_drop, HX.out.2.2.1]; omega
                    have := alk_stop _ _ hal1 hal2
                    rw [← hcom, getD_drop, getD_drop, hx, hy] at this
                    exact this e.symm
                  have qe : (x == y) = false := by simpa using hne
                  clear hx hy hne hcom
                  have d1 := hDr2.cell (r + 1) hi
                  have z1 := hDr2.frz (r + 1) hi
                  have hst := hDr2.set hi (h : Int)
                  have hst2 : ∀ m, DI u3 D no (fun i => if i = r + 1 then (h : Int) else d i) ((wr.drewN m).setCell ⟨D, r + 1, none⟩ (.int .i64 (h : Int))) := fun m => (hDr2.kept (below_drewN wr m)).set hi (h : Int)
                  have HS := Lib.hid hst2
                  clear hst hst2 hDr2
                  have q8 : (r : Int) + 1 < (no : Int) := by omega
                  have q9 : (0 : Int) ≤ (r : Int) + 1 := by omega
                  have q10 : ((r : Int) + 1).toNat = r + 1 := by omega
                  have q11 : IntKind.i64.wrap ((h : Int) - 1) = (h : Int) - 1 := IntWalk.i64_in _ (by omega)
                  have q12 : (if (h : Int) - 1 < 0 then (0 : Int) else (h : Int) - 1) = ((h - 1 : Nat) : Int) := by split <;> omega
                  go_wp2
                  go_quiet (fail)
                  go_wp2
                  all_goals
                    go_roundw
                    case rel =>
                      obtain ⟨hDr, hd0, hd, hie, hH, hcom, hbw⟩ := HK.out
                      refine ⟨k + 1, h - 1, _, by omega, by omega, by go_num, by first | rfl | (simp only [Value.int.injEq, true_and]; omega), HS.out _, by rw [if_neg (by omega)]; exact hd0, fun q' i hq' hi' he => ?_, fun r' hr' he => ?_⟩
                      · have hS := sufA_ok HX.out.2.2.2.2.1
                        by_cases e : q' = k
                        · subst e
                          have : i = r + 1 := hS.inj (by rw [HX.out.2.2.1]; exact hi') (by rw [HX.out.2.2.1]; exact hi) (he.trans hie.symm)
                          subst this
                          rw [if_pos rfl, hH]
                        · have : i ≠ r + 1 := fun e2 => by
                            subst e2
                            rw [hie] at he
                            omega
                          rw [if_neg this]
                          exact hd q' i (by omega) hi' he
                      · have hk1 : k + 1 < no := by
                          have hS := sufA_ok HX.out.2.2.2.2.1
                          obtain ⟨z, hz, hzl⟩ := hS.pl (i := r' + 1) (by rw [HX.out.2.2.1]; exact hr')
                          rw [HX.out.2.2.1] at hzl
                          omega
                        have := kasai HX.out.2.2.2.2.1 (p := k) (r := r) (r' := r') (by rw [HX.out.2.2.1]; exact hk1) (by rw [HX.out.2.2.1]; exact hi) (by rw [HX.out.2.2.1]; exact hr') hie he
                        omega
                    case measure => simp [intOf]; omega
              · have g1 : ¬ (k : Int) + (h : Int) < (no : Int) := by omega
                have g0 : decide ((k : Int) + (h : Int) < (no : Int)) = false := decide_eq_false g1
                obtain rfl : h = H := by omega
                have HW := Lib.hid hm
                clear hm hnA
                clear hcom
                have d1 := hDr2.cell (r + 1) hi
                have z1 := hDr2.frz (r + 1) hi
                have hst := hDr2.set hi (h : Int)
                have hst2 : ∀ m, DI u3 D no (fun i => if i = r + 1 then (h : Int) else d i) ((wr.drewN m).setCell ⟨D, r + 1, none⟩ (.int .i64 (h : Int))) := fun m => (hDr2.kept (below_drewN wr m)).set hi (h : Int)
                have HS := Lib.hid hst2
                clear hst hst2 hDr2
                have q8 : (r : Int) + 1 < (no : Int) := by omega
                have q9 : (0 : Int) ≤ (r : Int) + 1 := by omega
                have q10 : ((r : Int) + 1).toNat = r + 1 := by omega
                have q11 : IntKind.i64.wrap ((h : Int) - 1) = (h : Int) - 1 := IntWalk.i64_in _ (by omega)
                have q12 : (if (h : Int) - 1 < 0 then (0 : Int) else (h : Int) - 1) = ((h - 1 : Nat) : Int) := by split <;> omega
                go_wp2
                go_quiet (fail)
                go_wp2
                all_goals
                  go_roundw
                  case rel =>
                    obtain ⟨hDr, hd0, hd, hie, hH, hcom, hbw⟩ := HK.out
                    refine ⟨k + 1, h - 1, _, by omega, by omega, by go_num, by first | rfl | (simp only [Value.int.injEq, true_and]; omega), HS.out _, by rw [if_neg (by omega)]; exact hd0, fun q' i hq' hi' he => ?_, fun r' hr' he => ?_⟩
                    · have hS := sufA_ok HX.out.2.2.2.2.1
                      by_cases e : q' = k
                      · subst e
                        have : i = r + 1 := hS.inj (by rw [HX.out.2.2.1]; exact hi') (by rw [HX.out.2.2.1]; exact hi) (he.trans hie.symm)
                        subst this
                        rw [if_pos rfl, hH]
                      · have : i ≠ r + 1 := fun e2 => by
                          subst e2
                          rw [hie] at he
                          omega
                        rw [if_neg this]
                        exact hd q' i (by omega) hi' he
                    · have hk1 : k + 1 < no := by
                        have hS := sufA_ok HX.out.2.2.2.2.1
                        obtain ⟨z, hz, hzl⟩ := hS.pl (i := r' + 1) (by rw [HX.out.2.2.1]; exact hr')
                        rw [HX.out.2.2.1] at hzl
                        omega
                      have := kasai HX.out.2.2.2.2.1 (p := k) (r := r) (r' := r') (by rw [HX.out.2.2.1]; exact hk1) (by rw [HX.out.2.2.1]; exact hi) (by rw [HX.out.2.2.1]; exact hr') hie he
                      omega
                  case measure => simp [intOf]; omega
          · obtain rfl : q = M := by omega
            have hx1 : (k : Int) < (q : Int) := by omega
            go_wp2
            go_loopw [8] (fun v8 wq => ∃ h : Nat, h ≤ H ∧ v8 = .int .i64 (h : Int) ∧ ∃ m, wq = wo.drewN m) (fun v8 _ => H - (intOf v8).toNat)
            case atStart => exact ⟨h, hhH, rfl, 0, rfl⟩
            case round =>
              obtain ⟨h, hhH, rfl, mm, hm⟩ := hrel
              have hnA : NumsAt .i64 wr A l := by rw [hm]; exact (HX.out.1.kept HK.out.2.2.2.2.2.2).kept (below_drewN _ _)
              have hDr2 : DI u3 D no d wr := by rw [hm]; exact HK.out.1.kept (below_drewN _ _)
              have e1 : IntKind.i64.wrap ((q : Int) + (h : Int)) = (q : Int) + (h : Int) := IntWalk.i64_in _ (by omega)
              have e2 : IntKind.i64.wrap ((k : Int) + (h : Int)) = (k : Int) + (h : Int) := IntWalk.i64_in _ (by omega)
              have e3 : IntKind.i64.wrap ((q : Int) + (h : Int)) = (q : Int) + (h : Int) := IntWalk.i64_in _ (by omega)
              have hcom := HK.out.2.2.2.2.2.1
              by_cases hin : q + h < no
              · have g1 : (q : Int) + (h : Int) < (no : Int) := by omega
                have g2 : (k : Int) + (h : Int) < (no : Int) := by omega
                have g3 : (q : Int) + (h : Int) < (no : Int) := by omega
                have g4 : (0 : Int) ≤ (k : Int) + (h : Int) := by omega
                have g5 : (0 : Int) ≤ (q : Int) + (h : Int) := by omega
                have g6 : ((k : Int) + (h : Int)).toNat = k + h := by omega
                have g7 : ((q : Int) + (h : Int)).toNat = q + h := by omega
                obtain ⟨ab, ao, hAe, -, ca1⟩ := num_at hnA (i := k + h) (by rw [HX.out.2.2.1]; omega)
                obtain ⟨ab2, ao2, hAe2, -, ca2⟩ := num_at hnA (i := q + h) (by rw [HX.out.2.2.1]; omega)
                rw [hAe] at hAe2
                simp only [Option.some.injEq, Addr.mk.injEq, and_true] at hAe2
                obtain ⟨rfl, rfl⟩ := hAe2
                have ca1' := ca1
                have ca2' := ca2
                rw [← Nat.add_assoc] at ca1' ca2'
                obtain ⟨x, hx⟩ : ∃ x, l.getD (k + h) 0 = x := ⟨_, rfl⟩
                obtain ⟨y, hy⟩ : ∃ y, l.getD (q + h) 0 = y := ⟨_, rfl⟩
                rw [hx] at ca1 ca1'
                rw [hy] at ca2 ca2'
                subst hAe
                have HW := Lib.hid hm
                clear hm hnA
                by_cases hlt2 : h < H
                · have hxy : x = y := by
                    have := alk_get (l.drop q) (l.drop k) h (by rw [← hcom]; exact hlt2)
                    rw [getD_drop, getD_drop, hx, hy] at this
                    exact this.symm
                  subst hxy
                  have qe : (x == x) = true := by simp
                  clear hx hy hcom hDr2
                  go_wp2
                  go_quiet (fail)
                  go_wp2
                  go_roundw
                  case rel => exact ⟨h + 1, by omega, by go_num, mm + nq, by rw [HW.out, World.drewN_drewN]⟩
                  case measure => simp [intOf]; omega
                · obtain rfl : h = H := by omega
                  have hne : x ≠ y := fun e => by
                    have hal1 : alk (l.drop q) (l.drop k) < (l.drop q).length := by rw [← hcom, List.length_drop, HX.out.2.2.1]; omega
                    have hal2 : alk (l.drop q) (l.drop k) < (l.drop k).length := by rw [← hcom, List.length_drop, HX.out.2.2.1]; omega
                    have := alk_stop _ _ hal1 hal2
                    rw [← hcom, getD_drop, getD_drop, hx, hy] at this
                    exact this e.symm
                  have qe : (x == y) = false := by simpa using hne
                  clear hx hy hne hcom
                  have d1 := hDr2.cell (r + 1) hi
                  have z1 := hDr2.frz (r + 1) hi
                  have hst := hDr2.set hi (h : Int)
                  have hst2 : ∀ m, DI u3 D no (fun i => if i = r + 1 then (h : Int) else d i) ((wr.drewN m).setCell ⟨D, r + 1, none⟩ (.int .i64 (h : Int))) := fun m => (hDr2.kept (below_drewN wr m)).set hi (h : Int)
                  have HS := Lib.hid hst2
                  clear hst hst2 hDr2
                  have q8 : (r : Int) + 1 < (no : Int) := by omega
                  have q9 : (0 : Int) ≤ (r : Int) + 1 := by omega
                  have q10 : ((r : Int) + 1).toNat = r + 1 := by omega
                  have q11 : IntKind.i64.wrap ((h : Int) - 1) = (h : Int) - 1 := IntWalk.i64_in _ (by omega)
                  have q12 : (if (h : Int) - 1 < 0 then (0 : Int) else (h : Int) - 1) = ((h - 1 : Nat) : Int) := by split <;> omega
                  go_wp2
                  go_quiet (fail)
                  go_wp2
                  all_goals
                    go_roundw
                    case rel =>
                      obtain ⟨hDr, hd0, hd, hie, hH, hcom, hbw⟩ := HK.out
                      refine ⟨k + 1, h - 1, _, by omega, by omega, by go_num, by first | rfl | (simp only [Value.int.injEq, true_and]; omega), HS.out _, by rw [if_neg (by omega)]; exact hd0, fun q' i hq' hi' he => ?_, fun r' hr' he => ?_⟩
                      · have hS := sufA_ok HX.out.2.2.2.2.1
                        by_cases e : q' = k
                        · subst e
                          have : i = r + 1 := hS.inj (by rw [HX.out.2.2.1]; exact hi') (by rw [HX.out.2.2.1]; exact hi) (he.trans hie.symm)
                          subst this
                          rw [if_pos rfl, hH]
                        · have : i ≠ r + 1 := fun e2 => by
                            subst e2
                            rw [hie] at he
                            omega
                          rw [if_neg this]
                          exact hd q' i (by omega) hi' he
                      · have hk1 : k + 1 < no := by
                          have hS := sufA_ok HX.out.2.2.2.2.1
                          obtain ⟨z, hz, hzl⟩ := hS.pl (i := r' + 1) (by rw [HX.out.2.2.1]; exact hr')
                          rw [HX.out.2.2.1] at hzl
                          omega
                        have := kasai HX.out.2.2.2.2.1 (p := k) (r := r) (r' := r') (by rw [HX.out.2.2.1]; exact hk1) (by rw [HX.out.2.2.1]; exact hi) (by rw [HX.out.2.2.1]; exact hr') hie he
                        omega
                    case measure => simp [intOf]; omega
              · have g1 : ¬ (q : Int) + (h : Int) < (no : Int) := by omega
                have g0 : decide ((q : Int) + (h : Int) < (no : Int)) = false := decide_eq_false g1
                obtain rfl : h = H := by omega
                have HW := Lib.hid hm
                clear hm hnA
                clear hcom
                have d1 := hDr2.cell (r + 1) hi
                have z1 := hDr2.frz (r + 1) hi
                have hst := hDr2.set hi (h : Int)
                have hst2 : ∀ m, DI u3 D no (fun i => if i = r + 1 then (h : Int) else d i) ((wr.drewN m).setCell ⟨D, r + 1, none⟩ (.int .i64 (h : Int))) := fun m => (hDr2.kept (below_drewN wr m)).set hi (h : Int)
                have HS := Lib.hid hst2
                clear hst hst2 hDr2
                have q8 : (r : Int) + 1 < (no : Int) := by omega
                have q9 : (0 : Int) ≤ (r : Int) + 1 := by omega
                have q10 : ((r : Int) + 1).toNat = r + 1 := by omega
                have q11 : IntKind.i64.wrap ((h : Int) - 1) = (h : Int) - 1 := IntWalk.i64_in _ (by omega)
                have q12 : (if (h : Int) - 1 < 0 then (0 : Int) else (h : Int) - 1) = ((h - 1 : Nat) : Int) := by split <;> omega
                go_wp2
                go_quiet (fail)
                go_wp2
                all_goals
                  go_roundw
                  case rel =>
                    obtain ⟨hDr, hd0, hd, hie, hH, hcom, hbw⟩ := HK.out
                    refine ⟨k + 1, h - 1, _, by omega, by omega, by go_num, by first | rfl | (simp only [Value.int.injEq, true_and]; omega), HS.out _, by rw [if_neg (by omega)]; exact hd0, fun q' i hq' hi' he => ?_, fun r' hr' he => ?_⟩
                    · have hS := sufA_ok HX.out.2.2.2.2.1
                      by_cases e : q' = k
                      · subst e
                        have : i = r + 1 := hS.inj (by rw [HX.out.2.2.1]; exact hi') (by rw [HX.out.2.2.1]; exact hi) (he.trans hie.symm)
                        subst this
                        rw [if_pos rfl, hH]
                      · have : i ≠ r + 1 := fun e2 => by
                          subst e2
                          rw [hie] at he
                          omega
                        rw [if_neg this]
                        exact hd q' i (by omega) hi' he
                    · have hk1 : k + 1 < no := by
                        have hS := sufA_ok HX.out.2.2.2.2.1
                        obtain ⟨z, hz, hzl⟩ := hS.pl (i := r' + 1) (by rw [HX.out.2.2.1]; exact hr')
                        rw [HX.out.2.2.1] at hzl
                        omega
                      have := kasai HX.out.2.2.2.2.1 (p := k) (r := r) (r' := r') (by rw [HX.out.2.2.1]; exact hk1) (by rw [HX.out.2.2.1]; exact hi) (by rw [HX.out.2.2.1]; exact hr') hie he
                      omega
                  case measure => simp [intOf]; omega
      · obtain rfl : k = no := by omega
        have HF := Lib.hid (And.intro hDr (And.intro hd hbw))
        have q1 : ¬ (k : Int) < (k : Int) := by omega
        clear hDr hd0 hd hle hS hbw
        go_wp2
        go_ret2
        obtain ⟨hDr, hd, hbw⟩ := HF.out
        refine ⟨hbw, .inl ⟨H2.out.2.2, D, rfl, ?_⟩⟩
        rw [H2.out.2.2]
        refine hDr.nums (by rw [comL_len, sufA_len, HX.out.2.2.1]) (fun i hi => ?_)
        have hS := sufA_ok HX.out.2.2.2.2.1
        obtain ⟨q, hq, hql⟩ := hS.pl (i := i) (by rw [HX.out.2.2.1]; exact hi)
        rw [HX.out.2.2.1] at hql
        rw [comL_at _ _ _ (by rw [sufA_len, HX.out.2.2.1]; exact hi)]
        exact hd q i hql hi hq
  · rw [decide_eq_false hoe] at H1
    have HO := Lib.hid hoe
    clear hoe hsl
    go_wp2_with fail
    (with_reducible refine H1.out.1.mono ?_)
    rintro e u2 ⟨rfl, hb2⟩
    have HF := Lib.hid (H1.out.2.trans (hb2.mono H1.out.2.size))
    clear hb2
    go_wp2
    go_ret2
    exact ⟨HF.out, .inr ⟨HO.out, rfl⟩⟩

end Go.Proofs.Ytjepgdfcjbgahaa
