/- The contracts of the document's Find and Common. -/
import Derived.Test.YtjepgdfcjbgahaaXS
set_option maxRecDepth 100000
namespace Go.Proofs.Ytjepgdfcjbgahaa
open Go.RowKit
open M
attribute [local go_sem ↓] Go.wp_at_zero Go.wp_at_succ

def fromN (l p : List Int) (k : Nat) : Nat := ((List.range k).filter fun i => ltB (l.drop i) p).length
def manyN (l p : List Int) (k : Nat) : Nat := ((List.range k).filter fun i => decide (alk (l.drop i) p = p.length)).length
theorem fromN_succ (l p : List Int) (k : Nat) : fromN l p (k + 1) = fromN l p k + if ltB (l.drop k) p = true then 1 else 0 := by
  unfold fromN
  rw [List.range_succ, List.filter_append, List.length_append]
  congr 1
  by_cases h : ltB (l.drop k) p = true <;> simp [h]
theorem manyN_succ (l p : List Int) (k : Nat) : manyN l p (k + 1) = manyN l p k + if alk (l.drop k) p = p.length then 1 else 0 := by
  unfold manyN
  rw [List.range_succ, List.filter_append, List.length_append]
  congr 1
  by_cases h : alk (l.drop k) p = p.length <;> simp [h]
theorem fromN_le (l p : List Int) (k : Nat) : fromN l p k ≤ k := Nat.le_trans (List.length_filter_le _ _) (by rw [List.length_range]; exact Nat.le_refl _)
theorem manyN_le (l p : List Int) (k : Nat) : manyN l p k ≤ k := Nat.le_trans (List.length_filter_le _ _) (by rw [List.length_range]; exact Nat.le_refl _)

set_option maxHeartbeats 2000000 in
theorem dfind_any (A P : Option Addr) (n c np cp : Nat) (l p : List Int) (w : World) (hA : NumsAt .i64 w A l) (hP : NumsAt .i64 w P p) (hl : l.length = n) (hp : p.length = np) (hc : n ≤ c) (hn : n ≤ 1000000) (hnp : np ≤ 1000000) :
    Calls Try.prog 19 #[.slice A n c, .slice P np cp] w fun e u => e = .returned (.tuple #[.int .i64 ((fromN l p n : Nat) : Int), .int .i64 ((fromN l p n + manyN l p n : Nat) : Int)]) ∧ Below w.heap.size w u := by
  have hs1 := fromN_succ l p
  have hs2 := manyN_succ l p
  have hl1 := fromN_le l p
  have hl2 := manyN_le l p
  have z1 : fromN l p 0 = 0 := rfl
  have z2 : manyN l p 0 = 0 := rfl
  obtain ⟨F, hF⟩ : ∃ F, fromN l p = F := ⟨_, rfl⟩
  obtain ⟨N, hN⟩ : ∃ N, manyN l p = N := ⟨_, rfl⟩
  rw [hF] at hs1 hl1 z1 ⊢
  rw [hN] at hs2 hl2 z2 ⊢
  have HX := Lib.hid (And.intro hA (And.intro hP (And.intro hl (And.intro hp (And.intro hs1 (And.intro hs2 (And.intro hl1 (And.intro hl2 (And.intro z1 z2)))))))))
  clear hA hP hl hp hs1 hs2 hl1 hl2 z1 z2 hF hN
  go_enter Try.func19, Try.ntmps19
  go_wp2
  go_loopw [6, 7, 8, 9] (fun v6 v7 v8 _ wr => ∃ i : Nat, i ≤ n ∧ v8 = .int .i64 (i : Int) ∧ v6 = .int .i64 ((F i : Nat) : Int) ∧ v7 = .int .i64 ((N i : Nat) : Int) ∧ Below w.heap.size w wr) (fun _ _ v8 _ _ => n - (intOf v8).toNat)
  case atStart => exact ⟨0, Nat.zero_le _, rfl, by rw [HX.out.2.2.2.2.2.2.2.2.1]; rfl, by rw [HX.out.2.2.2.2.2.2.2.2.2]; rfl, Below.refl _ _⟩
  case round =>
    obtain ⟨i, hin, rfl, rfl, rfl, hb⟩ := hrel
    have hFl := HX.out.2.2.2.2.2.2.1 i
    have hNl := HX.out.2.2.2.2.2.2.2.1 i
    have hFs := HX.out.2.2.2.2.1 i
    have hNs := HX.out.2.2.2.2.2.1 i
    by_cases hlt : i < n
    · obtain ⟨bb, off, hAe, -, -⟩ := num_at HX.out.1 (i := 0) (by rw [HX.out.2.2.1]; omega)
      have hA := HX.out.1
      subst hAe
      have hAi := (hA.kept hb).drop i
      have hln : (l.drop i).length = n - i := by rw [List.length_drop, HX.out.2.2.1]
      have hPi := HX.out.2.1.kept hb
      have h1 := dless_any (some ⟨bb, off + i, none⟩) P (n - i) np (c - i) cp (l.drop i) p wr hAi hPi hln HX.out.2.2.2.1 (by omega) hnp
      have h2 := fun m => dalike_any (some ⟨bb, off + i, none⟩) P (n - i) np (c - i) cp (l.drop i) p (wr.drewN m) (hAi.kept (below_drewN _ _)) (hPi.kept (below_drewN _ _)) hln HX.out.2.2.2.1 (by omega) hnp
      have hal := (alk_le (l.drop i) p).2
      rw [HX.out.2.2.2.1] at hNs hal
      generalize ltB (l.drop i) p = o at *
      generalize alk (l.drop i) p = q at *
      have HC := Lib.hid (And.intro h1 (And.intro h2 (And.intro hb (And.intro hFs hNs))))
      clear h1 h2 hA hAi hln hPi hb hFs hNs
      generalize F i = f at *
      generalize N i = g at *
      have q1 : (i : Int) < (n : Int) := by omega
      have q2 : (0 : Int) ≤ (i : Int) := by omega
      have q3 : (i : Int) < (c : Int) := by omega
      have q4 : (i : Int) ≤ (n : Int) := by omega
      obtain ⟨b, hbe⟩ : ∃ b, decide (q = np) = b := ⟨_, rfl⟩
      have q5 : ((q : Int) == (np : Int)) = b := by
        rw [← hbe]
        by_cases e : q = np
        · rw [decide_eq_true e]; simp [e]
        · rw [decide_eq_false e]; simp; omega
      have HB := Lib.hid hbe
      clear hbe
      go_wp2_with fail
      (with_reducible refine HC.out.1.mono ?_)
      rintro e u1 ⟨rfl, m, rfl⟩
      cases o
      all_goals
        go_wp2_with fail
        (with_reducible refine (HC.out.2.1 m).mono ?_)
        rintro e u2 ⟨rfl, m2, rfl⟩
        cases b
        all_goals
          go_wp2
          go_roundw
          case rel =>
            obtain ⟨-, -, hb, hFs, hNs⟩ := HC.out
            have hq := HB.out
            simp only [decide_eq_true_eq, decide_eq_false_iff_not] at hq
            refine ⟨i + 1, by omega, by go_num, ?_, ?_, hb.trans ((below_drewN wr _).mono hb.size)⟩
            · rw [hFs]; first | rfl | (simp; try go_num) 
            · rw [hNs]
              first
                | (rw [if_neg hq]; rfl)
                | (rw [if_pos hq]; first | rfl | (simp; try go_num))
          case measure => simp [intOf]; omega
    · obtain rfl : i = n := by omega
      have HF := Lib.hid hb
      clear hb hFs hNs
      have q1 : ¬ (i : Int) < (i : Int) := by omega
      obtain ⟨f, hf⟩ : ∃ f, F i = f := ⟨_, rfl⟩
      obtain ⟨g, hg⟩ : ∃ g, N i = g := ⟨_, rfl⟩
      rw [hf] at hFl ⊢
      rw [hg] at hNl ⊢
      have HG := Lib.hid (And.intro hf hg)
      clear hf hg
      have q2 : IntKind.i64.wrap ((f : Int) + (g : Int)) = (f : Int) + (g : Int) := IntWalk.i64_in _ (by omega)
      go_wp2
      go_ret2
      refine ⟨?_, HF.out⟩
      rw [HG.out.1, HG.out.2]
      first | rfl | simp

/-- append of numbers, as one step of a region that draws. -/
theorem step_append_nums {w : World} {ops : Array Oper} {o : Oper} {a : Act} {K : Act → World → Prop} {Q : Exit → Act → World → Prop} {E : Prop} (hgd : o.guard = none) (s x : Operand)
    (ho : o.op = .call { callee := .builtin .append, args := #[s, x], argTypes := #[22, 22] }) (base : Nat) (v : Value) (n : Nat) (xs : List Value) (hs : a.eval s = v) (hown : w.ownsRow base 3 1 v n xs)
    (ad : Addr) (m c : Nat) (l : List Int) (hx : a.eval x = .slice (some ad) m c) (hl : l.length = m) (hA : NumsAt .i64 w (some ad) l) (h63 : n + m ≤ 1000000000) (hbase : base ≤ w.heap.size)
    (h : ∀ v' w', w'.ownsRow base 3 1 v' (n + m) (xs ++ l.map (Value.int .i64)) → w.grownBy w' v.ownBlock → K (a.put o.dst v') w') :
    if Region.wanted o (yielded ops a.tmps) = true then Oper.wp Try.prog o a w K Q else E := by
  have hw : Region.wanted o (yielded ops a.tmps) = true := by simp [Region.wanted, hgd]
  rw [if_pos hw]
  obtain ⟨i0, hi, hz0, hz1, hz2⟩ := info_parts info3
  obtain ⟨v', w', hr, h2, h3, -, -⟩ := run_append_own_at (P := Try.prog) w base 22 o.type 3 i0 (.int .i64 0) 1 8 Try.underlying22 hi hz0 hz1 hz2 rfl (by omega) v n xs hown ad m c (l.map (Value.int .i64)) (by simp [hl]) (by
    intro j u hu
    rcases hA with rfl | ⟨b, off, e, -, hc⟩
    · simp at hu
    · obtain rfl : ad = ⟨b, off, none⟩ := by simpa using e
      obtain ⟨hj, hju⟩ := List.getElem?_eq_some_iff.1 hu
      simp only [List.length_map] at hj
      have := hc j hj
      have ea : (⟨b, off, none⟩ : Addr).add j = ⟨b, off + j, none⟩ := by
        simp only [Addr.add]; split
        · rename_i h; simp_all
        · rfl
      rw [ea, this, ← hju]
      simp [List.getD_eq_getElem?_getD, hj]) (by
    intro u hu
    obtain ⟨k, -, rfl⟩ := List.mem_map.1 hu
    rfl) (by unfold maxLen; omega) (by omega) hbase
  unfold Oper.wp execOp
  simp only [ho, resolve, invoke, builtin, Sem.run_bind, Sem.run_pure, Result.andThen_ok, List.map_toArray, List.map_cons, List.map_nil, hs, hx, hr]
  exact h v' w' h2 h3

/-- What Common tells, so far. -/
def comK (l o : List Int) (k : Nat) : List Int := (List.range k).map fun i => ((comN l o i : Nat) : Int)
theorem comK_succ (l o : List Int) (k : Nat) : comK l o (k + 1) = comK l o k ++ [((comN l o k : Nat) : Int)] := by
  unfold comK
  rw [List.range_succ, List.map_append]; rfl
theorem comK_len (l o : List Int) (k : Nat) : (comK l o k).length = k := by simp [comK]

set_option maxHeartbeats 4000000 in
theorem dcommon_any (A O : Option Addr) (n c no co : Nat) (l o : List Int) (w : World) (hA : NumsAt .i64 w A l) (hO : NumsAt .i64 w O o) (hl : l.length = n) (ho : o.length = no) (hc : n ≤ c) (hn : n ≤ 1000000) (hno : no ≤ n) (hin : ∀ i, i < no → ∃ p : Nat, o.getD i 0 = (p : Int) ∧ p < n) :
    Calls Try.prog 17 #[.slice A n c, .slice O no co] w fun e u => ∃ v, e = .returned v ∧ OwnI w v (comL l o) u := by
  have HX := Lib.hid (And.intro hA (And.intro hO (And.intro hl (And.intro ho hin))))
  clear hA hO hl ho hin
  go_enter Try.func17, Try.ntmps17
  go_wp2
  go_loopw [5, 6] (fun v5 v6 wr => ∃ k : Nat, k ≤ no ∧ v6 = .int .i64 (k : Int) ∧ OwnI w v5 (comK l o k) wr) (fun _ v6 _ => no - (intOf v6).toNat)
  case atStart => exact ⟨0, Nat.zero_le _, rfl, World.ownsRow_nil _ _ _ _, Below.refl _ _⟩
  case round =>
    obtain ⟨k, hk, rfl, hI⟩ := hrel
    have hcs := comK_succ l o k
    have hcl := comK_len l o k
    by_cases hlt : k < no
    · have q1 : (k : Int) < (no : Int) := by omega
      have q2 : (0 : Int) ≤ (k : Int) := by omega
      by_cases h0 : k = 0
      · subst h0
        have hz : comN l o 0 = 0 := rfl
        rw [hz] at hcs
        have HI := Lib.hid (And.intro hI (And.intro hcs hcl))
        have hsz := hI.2.size
        clear hI hcs hcl hz
        go_wp2_with (first
          | (at_builtin
             refine wpList_append_nums rfl (.tmp 15) (.tmp 16) rfl w.heap.size _ _ _ rfl (HI.out.1.alloc _).1 (some ⟨_, 0, none⟩) 1 1 [0] rfl rfl ?c1 (by simp) ?c2 ?c3 ?_))
        case c1 => exact nums_one _ _
        case c2 => rw [HI.out.2.2]; omega
        case c3 => first | omega | (simp; omega)
        intro v' w5 hown hgrow _
        have hI5 := (HI.out.1.alloc _).app (l' := comK l o 0 ++ [0]) (by simpa using hown) hgrow
        have HX5 := Lib.hid hI5
        clear hown hgrow hI5
        go_wp2
        go_roundw
        case rel => exact ⟨1, by omega, by go_num, by have := HI.out.2.1; rw [show (0 : Nat) + 1 = 1 from rfl] at this; rw [this]; exact HX5.out⟩
        case measure => simp [intOf]; omega
      · obtain ⟨r, rfl⟩ : ∃ r, k = r + 1 := ⟨k - 1, by omega⟩
        obtain ⟨p, hp, hpn⟩ := HX.out.2.2.2.2 (r + 1) hlt
        obtain ⟨q, hq, hqn⟩ := HX.out.2.2.2.2 r (by omega)
        have hOw := HX.out.2.1.kept hI.2
        obtain ⟨ob, oo, hOe, -, c1⟩ := num_at hOw (i := r + 1) (by rw [HX.out.2.2.2.1]; exact hlt)
        obtain ⟨ob2, oo2, hOe2, -, c2⟩ := num_at hOw (i := r) (by rw [HX.out.2.2.2.1]; omega)
        rw [hOe] at hOe2
        simp only [Option.some.injEq, Addr.mk.injEq, and_true] at hOe2
        obtain ⟨rfl, rfl⟩ := hOe2
        rw [hp] at c1
        rw [hq] at c2
        have hcom : comN l o (r + 1) = alk (l.drop q) (l.drop p) := by
          unfold comN
          rw [if_neg (by omega), Nat.add_sub_cancel, hq, hp, Int.toNat_natCast, Int.toNat_natCast]
        obtain ⟨ab, ao, hAe, -, -⟩ := num_at HX.out.1 (i := 0) (by rw [HX.out.2.2.1]; omega)
        have hAw := HX.out.1.kept hI.2
        subst hAe hOe
        have hal := fun u (hu : Below wr.heap.size wr u) => dalike_any (some ⟨ab, ao + q, none⟩) (some ⟨ab, ao + p, none⟩) (n - q) (n - p) (c - q) (c - p) (l.drop q) (l.drop p) u ((hAw.kept hu).drop q) ((hAw.kept hu).drop p) (by rw [List.length_drop, HX.out.2.2.1]) (by rw [List.length_drop, HX.out.2.2.1]) (by omega) (by omega)
        rw [hcom] at hcs
        generalize alk (l.drop q) (l.drop p) = H at *
        have hsz := hI.2.size
        have HI := Lib.hid (And.intro hI (And.intro hcs (And.intro hcl hal)))
        clear hI hcs hcl hal hp hq hOw hAw hcom
        have q3 : ((r : Int) + 1 == 0) = false := by simp; omega
        have q3' : ¬ (r : Int) + 1 = 0 := by omega
        have q4 : IntKind.i64.wrap ((r : Int) + 1 - 1) = (r : Int) := by rw [Int.add_sub_cancel]; exact IntWalk.i64_in _ (by omega)
        have q4b : IntKind.i64.wrap (r : Int) = (r : Int) := IntWalk.i64_in _ (by omega)
        have q5 : (r : Int) < (no : Int) := by omega
        have q5b : (r : Int) + 1 < (no : Int) := by omega
        have q5c : (0 : Int) ≤ (r : Int) + 1 := by omega
        have q5d : ((r : Int) + 1).toNat = r + 1 := by omega
        have q6 : (0 : Int) ≤ (r : Int) := by omega
        have q7 : (p : Int) < (n : Int) := by omega
        have q8 : (0 : Int) ≤ (p : Int) := by omega
        have q9 : (q : Int) < (n : Int) := by omega
        have q10 : (0 : Int) ≤ (q : Int) := by omega
        have q11 : (p : Int) < (c : Int) := by omega
        have q12 : (q : Int) < (c : Int) := by omega
        have q13 : (p : Int) ≤ (n : Int) := by omega
        have q14 : (q : Int) ≤ (n : Int) := by omega
        have n1 : ¬ c = q := by omega
        have n2 : ¬ c = p := by omega
        go_wp2
        go_region_law (first
          | (refine step_append_nums rfl (.tmp 18) (.tmp 33) rfl w.heap.size _ _ _ rfl (HJ.out.alloc _).1 ⟨_, 0, none⟩ 1 1 [(H : Int)] rfl rfl (nums_one _ _) (by rw [HI.out.2.2.1]; omega) (by have := HJ.out.2.size; simp; omega) ?_
             intro v' w5 hown hgrow
             have hI5 := (HJ.out.alloc (.cells #[.int .i64 (H : Int)] 3)).app (l' := comK l o (r + 1) ++ [(H : Int)]) (by simpa using hown) hgrow
             have HX5 := Lib.hid hI5
             clear hown hgrow hI5)
          | (go_simp
             go_at_call 21
             (with_reducible refine (HI.out.2.2.2 _ (by first | exact (Below.refl _ _).drew | exact Below.refl _ _)).mono ?_)
             rintro e u ⟨rfl, mm, hm⟩
             have HJ := Lib.hid (show OwnI w _ (comK l o (r + 1)) u from by rw [hm]; exact (HI.out.1.kept ((Below.refl _ _).drew)).kept (below_drewN _ _))
             clear hm))
        all_goals
          go_wp2
          go_roundw
          case rel => exact ⟨r + 1 + 1, by omega, by go_num, by rw [HI.out.2.1]; exact HX5.out⟩
          case measure => simp [intOf]; omega
    · obtain rfl : k = no := by omega
      have HF := Lib.hid (And.intro hI HX.out.2.2.2.1)
      have q1 : ¬ (k : Int) < (k : Int) := by omega
      clear hI hcs hcl
      go_wp2
      go_ret
      refine ⟨_, rfl, ?_⟩
      have := HF.out.1
      unfold comL
      rw [HF.out.2]
      exact this

end Go.Proofs.Ytjepgdfcjbgahaa
