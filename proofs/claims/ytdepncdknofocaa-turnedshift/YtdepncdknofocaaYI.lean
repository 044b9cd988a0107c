/- The contract of the document's Back. -/
import Derived.Test.YtdepncdknofocaaYH
set_option maxRecDepth 100000
namespace Go.Proofs.Ytdepncdknofocaa
open Go.RowKit
open M
attribute [local go_sem ↓] Go.wp_at_zero Go.wp_at_succ

theorem OwnI.ofw {w w1 u : World} {v : Value} {l : List Int} (h : OwnI w1 v l u) (hb : Below w.heap.size w w1) : OwnI w v l u :=
  ⟨own_mono h.1 hb.size, hb.trans (h.2.mono hb.size)⟩

theorem rev_take (l : List Int) (i : Nat) (h : i < l.length) : l.reverse.take (i + 1) = l.reverse.take i ++ [l.getD (l.length - i - 1) 0] := by
  rw [takeI_snoc l.reverse i (by rw [List.length_reverse]; exact h)]
  congr 2
  rw [List.getD_eq_getElem?_getD, List.getD_eq_getElem?_getD, List.getElem?_reverse h, show l.length - 1 - i = l.length - i - 1 by omega]

theorem dback_nil (A : Option Addr) (c : Nat) (w : World) : Calls Try.prog 17 #[.slice A 0 c] w fun e u => e = .returned (.tuple #[.slice none 0 0, .bool false]) ∧ Below w.heap.size w u := by
  go_enter Try.func17, Try.ntmps17
  go_wp2
  go_ret2
  exact ⟨rfl, Below.refl _ _⟩

set_option maxHeartbeats 8000000 in
theorem dback_pos (A : Option Addr) (n c : Nat) (b lr : List Int) (r : Bool) (w : World) (hA : NumsAt .i64 w A b) (hl : b.length = n) (h0 : 0 < n) (hn : n ≤ 10000) (h64 : I64s b) (hr : r = true → Nn lr ∧ I64s lr ∧ b = turnL lr) (hr2 : r = false → ¬ Tb b) :
    Calls Try.prog 17 #[.slice A n c] w fun e u => (∃ v, r = true ∧ e = .returned (.tuple #[v, .bool true]) ∧ OwnI w v lr u) ∨ (r = false ∧ e = .returned (.tuple #[.slice none 0 0, .bool false]) ∧ Below w.heap.size w u) := by
  have hst := rstable_any A n c b w hA hl (by omega)
  have hbp : r = true → ∀ p, p ≤ lr.length → (b.getD (plR lr p) 0 = -1 → p = 0) := fun e p hp h => by
    obtain ⟨h1, h2, h3⟩ := hr e
    obtain ⟨g1, g2⟩ := plR_ok h2 h1 hp
    rw [h3, turn_at h2 h1 g1, g2] at h
    by_cases e0 : p = 0
    · exact e0
    · rw [if_neg e0] at h
      have := h1 _ (getD_mem (b := 0) (show p - 1 < lr.length by omega))
      omega
  have hbq : r = true → lr.length + 1 = n := fun e => by have := congrArg List.length (hr e).2.2; rw [turnL_len, hl] at this; exact this.symm
  have hord : ∀ j, j < n → (ordP (kyI b) n).getD j 0 = (sgL (ordP (kyI b) n) j : Int) := ord_nat _ _
  have hring := ord_ring (kyI b) n
  have hsur : ∀ k, k < n → ∃ j, j < n ∧ sgL (ordP (kyI b) n) j = k := fun k hk => by
    have hm : (k : Int) ∈ ordP (kyI b) n := ordP_mem.2 (by omega)
    obtain ⟨j, hj, e⟩ := List.getElem_of_mem hm
    rw [ordP_length] at hj
    refine ⟨j, hj, ?_⟩
    unfold sgL
    rw [List.getD_eq_getElem?_getD, List.getElem?_eq_getElem (by rw [ordP_length]; exact hj), Option.getD_some, e, Int.toNat_natCast]
  have hstep : r = true → ∀ p, p < lr.length → sgL (ordP (kyI b) n) (plR lr p) = plR lr (p + 1) ∧ b.getD (plR lr (p + 1)) 0 = lr.getD p 0 := fun e p hp => by
    obtain ⟨h1, h2, h3⟩ := hr e
    have ho := turn_ord h2 h1
    rw [← h3, hbq e] at ho
    refine ⟨?_, by rw [h3, turn_back h2 h1 hp]⟩
    rw [ho]
    unfold sgL
    rw [nextL_at lr (plR_ok h2 h1 (by omega)).1, nxF_R h2 h1 hp, Int.toNat_natCast]
  have hz : r = true → plR lr lr.length = 0 ∧ b.getD (plR lr 0) 0 = -1 ∧ ∀ p, p ≤ lr.length → plR lr p < n := fun e => by
    obtain ⟨h1, h2, h3⟩ := hr e
    obtain ⟨g1, g2⟩ := plR_ok h2 h1 (Nat.zero_le lr.length)
    exact ⟨plR_len h2 h1, by rw [h3, turn_at h2 h1 g1, g2, if_pos rfl], fun p hp => by have := (plR_ok h2 h1 hp).1; have := hbq e; omega⟩
  have hcell : ∀ u, Below w.heap.size w u → ∀ i, i < n → ∃ bb off, A = some ⟨bb, off, none⟩ ∧ u.cell? ⟨bb, off + i, none⟩ = some (.int .i64 (b.getD i 0)) := fun u hb i hi => by
    obtain ⟨b2, o2, e2, -, c2⟩ := num_at (hA.kept hb) (i := i) (by omega)
    exact ⟨b2, o2, e2, c2⟩
  have HX := Lib.hid (And.intro hr (And.intro hr2 (And.intro h64 (And.intro hA (And.intro hl (And.intro hbp (And.intro hbq hst)))))))
  have HO := Lib.hid (And.intro hord (And.intro hring (And.intro hsur (And.intro hstep (And.intro hz hcell)))))
  obtain ⟨o, ho⟩ : ∃ o, ordP (kyI b) n = o := ⟨_, rfl⟩
  rw [ho] at HO HX
  have hol : o.length = n := by rw [← ho, ordP_length]
  have HOL := Lib.hid hol
  obtain ⟨i0, hi, hz0, hz1, hz2⟩ := info_parts info3
  clear hA hl h64 hr hr2 hst hbp hbq hord hring hsur hstep hz hcell ho hol
  have q0 : ((n : Int) == 0) = false := by simp; omega
  go_enter Try.func17, Try.ntmps17
  go_wp2_with fail
  (with_reducible refine HX.out.2.2.2.2.2.2.2.mono ?_)
  rintro e u1 ⟨v, rfl, hI⟩
  obtain ⟨P, pc, rfl, hP, -, -, -, -⟩ := nums_of_own hI.1
  have H1 := Lib.hid (And.intro hP hI.2)
  have hs1 := hI.2.size
  rw [HOL.out]
  clear hI hP
  go_wp2_with (first | (at_make; refine wpList_make_full _ rfl _ _ 22 rfl u1.heap.size 3 i0 (.int .i64 0) 1 Try.underlying22 hi hz0 hz1 _ _ _ _ n rfl rfl rfl rfl ?b2 ?b3 (Nat.le_refl _) ?_))
  case b2 => first | omega | (rw [hz2]; omega)
  case b3 => unfold maxLen; omega
  intro w3 hown hgrow
  have hD := DI.made (Below.refl _ _) hown hgrow
  have HD := Lib.hid hD
  clear hown hgrow hi hz0 hz1 hz2 q0 hD
  obtain ⟨N, hNe⟩ : ∃ N, N = u1.heap.size := ⟨_, rfl⟩
  rw [← hNe] at HD
  rw [← hNe]
  clear hNe
  go_wp2
  go_loopw [7] (fun v7 wr => ∃ i : Nat, i ≤ n ∧ v7 = .int .i64 (i : Int) ∧ ∃ d, DI u1 N n d wr ∧ ∀ j, j < i → d (sgL o j) = (j : Int)) (fun v7 _ => n - (intOf v7).toNat)
  case atStart => exact ⟨0, Nat.zero_le _, rfl, _, HD.out, fun j hj => by omega⟩
  case round =>
    obtain ⟨i, hin, rfl, d, hDr, hd1⟩ := hrel
    by_cases hlt : i < n
    · obtain ⟨bb, off, hPe, -, ck⟩ := num_at (H1.out.1.kept hDr.bel) (i := i) (by rw [HOL.out]; exact hlt)
      rw [HO.out.1 i hlt] at ck
      have hpn := HO.out.2.1.lt i hlt
      have hij := HO.out.2.1.inj
      obtain ⟨p, hp⟩ : ∃ p, sgL o i = p := ⟨_, rfl⟩
      rw [hp] at ck hpn
      have cN := hDr.cell p (by omega)
      have zN := hDr.frz p (by omega)
      have hset := hDr.set (i := p) (by omega) (i : Int)
      have HS := Lib.hid (And.intro hset (And.intro hd1 (And.intro hp hij)))
      have HPE := Lib.hid hPe
      have q1 : (i : Int) < (n : Int) := by omega
      have q2 : (0 : Int) ≤ (i : Int) := by omega
      have q3 : (p : Int) < (n : Int) := by omega
      have q4 : (0 : Int) ≤ (p : Int) := by omega
      generalize d p = y at *
      clear hDr hd1 hij hp hset HD
      subst hPe
      go_wp2
      go_roundw
      case rel =>
        obtain ⟨g1, g2, g3, g4⟩ := HS.out
        refine ⟨i + 1, by omega, by go_num, _, g1, fun j hj => ?_⟩
        by_cases e : j = i
        · rw [e, g3, if_pos rfl]
        · rw [if_neg (fun h => e (g4 j i (by omega) hlt (by rw [h, g3]))), g2 j (by omega)]
      case measure => simp [intOf]; omega
    · obtain rfl : i = n := by omega
      obtain ⟨n, rfl⟩ : ∃ n, n = i := ⟨_, rfl⟩
      have HD2 := Lib.hid hd1
      have HB3 := Lib.hid (And.intro hDr (H1.out.2.trans (hDr.bel.mono hs1)))
      obtain ⟨w3, rfl⟩ : ∃ w3, w3 = wr := ⟨_, rfl⟩
      have q1 : ¬ (n : Int) < (n : Int) := by omega
      clear hDr hd1 HD
      go_wp2
      go_loopw [4, 8] (fun v4 v8 wr => ∃ (i at0 : Nat) (acc : List Int), i ≤ n ∧ acc.length = i ∧ at0 < n ∧ v8 = .int .i64 (at0 : Int) ∧ OwnI w3 v4 acc wr ∧ (∀ x ∈ acc, x ∈ b) ∧ (r = true → acc = lr.reverse.take i ∧ at0 = plR lr (lr.length - i) ∧ i ≤ lr.length)) (fun v4 _ _ => n - lenOf v4)
      case atStart => exact ⟨0, 0, [], Nat.zero_le _, rfl, h0, rfl, ⟨World.ownsRow_nil _ _ _ _, Below.refl _ _⟩, fun x hx => by simp at hx, fun e => ⟨by simp, by rw [Nat.sub_zero, (HO.out.2.2.2.2.1 e).1], Nat.zero_le _⟩⟩
      case round =>
        obtain ⟨i, at0, acc, hin, hai, hat0, rfl, hI, hmem, hrt⟩ := hrel
        by_cases hlt : i < n
        · obtain ⟨bb, off, hAe, ck⟩ := HO.out.2.2.2.2.2 wr (HB3.out.2.trans (hI.2.mono HB3.out.2.size)) at0 hat0
          obtain ⟨x, hx⟩ : ∃ x, b.getD at0 0 = x := ⟨_, rfl⟩
          rw [hx] at ck
          have HAE := Lib.hid hAe
          by_cases hx1 : x = -1
          · rw [hx1] at hx ck
            have hxe := hx
            subst hAe
            have hsz5 := hI.2.size
            obtain ⟨P4, c4, rfl, hP4, -, -, -, -⟩ := nums_of_own hI.1
            rw [hai]
            have hfin : r = true → acc = lr.reverse := fun e => by
              obtain ⟨h1, h2, h3⟩ := hrt e
              have h4 := HX.out.2.2.2.2.2.1 e (lr.length - i) (by omega)
              rw [← h2, hxe] at h4
              have h5 := h4 rfl
              have : i = lr.length := by omega
              rw [h1, this]
              exact List.take_of_length_le (by rw [List.length_reverse]; exact Nat.le_refl _)
            have HF := Lib.hid (And.intro hP4 (And.intro (HB3.out.2.trans (hI.2.mono HB3.out.2.size)) (And.intro hai (And.intro hfin hmem))))
            clear hI hP4 hfin hmem hrt HD2
            obtain ⟨w5, rfl⟩ : ∃ w5, w5 = wr := ⟨_, rfl⟩
            have q8 : IntKind.i64.wrap ((i : Int) - 1) = (i : Int) - 1 := IntWalk.i64_in _ (by omega)
            have q7 : (i : Int) < (n : Int) := by omega
            have q9 : (0 : Int) ≤ (at0 : Int) := by omega
            have q10 : (at0 : Int) < (n : Int) := by omega
            go_wp2
            go_loopw [9, 10] (fun v9 v10 wr => ∃ s : Nat, s ≤ i ∧ v10 = .int .i64 ((s : Int) - 1) ∧ OwnI w5 v9 (acc.drop s).reverse wr) (fun _ v10 _ => (intOf v10 + 1).toNat)
            case atStart => exact ⟨i, Nat.le_refl _, rfl, by rw [List.drop_of_length_le (by rw [HF.out.2.2.1]; exact Nat.le_refl _)]; exact ⟨World.ownsRow_nil _ _ _ _, Below.refl _ _⟩⟩
            case round =>
              obtain ⟨s, hs, rfl, hI⟩ := hrel
              by_cases h0 : 0 < s
              · obtain ⟨j, rfl⟩ : ∃ j, s = j + 1 := ⟨s - 1, by omega⟩
                obtain ⟨bb, off, hPe, -, ck⟩ := num_at (HF.out.1.kept hI.2) (i := j) (by rw [HF.out.2.2.1]; omega)
                have hdr := at_drop (l := acc) (i := j) (by rw [HF.out.2.2.1]; omega)
                obtain ⟨x, hx⟩ : ∃ x, acc.getD j 0 = x := ⟨_, rfl⟩
                rw [hx] at ck hdr
                have hsu : (acc.drop j).reverse = (acc.drop (j + 1)).reverse ++ [x] := by rw [hdr, List.reverse_cons]
                have hml : ((acc.drop (j + 1)).reverse).length = i - (j + 1) := by rw [List.length_reverse, List.length_drop, HF.out.2.2.1]
                have hsz := hI.2.size
                have HM := Lib.hid (And.intro hI (And.intro hsu hml))
                have q2 : (((j + 1 : Nat) : Int) - 1) = (j : Int) := by omega
                have q3 : (0 : Int) ≤ (j : Int) := by omega
                have q4 : (j : Int) < (i : Int) := by omega
                have q5 : IntKind.i64.wrap ((j : Int) - 1) = (j : Int) - 1 := IntWalk.i64_in _ (by omega)
                have q6 : (j : Int) ≥ 0 := by omega
                rw [q2]
                have HPE := Lib.hid hPe
                clear hI hdr hx hsu hml q8
                subst hPe
                go_wp2_with (first
                  | (at_builtin
                     refine wpList_append_nums rfl (.tmp 64) (.tmp 69) rfl w5.heap.size _ _ _ rfl (HM.out.1.alloc _).1 (some ⟨_, 0, none⟩) 1 1 [x] rfl rfl ?c1 (by simp) ?c2 ?c3 ?_))
                case c1 => exact nums_one _ _
                case c2 => first | omega | (rw [HM.out.2.2]; omega)
                case c3 => first | omega | (simp; omega)
                intro v' w6 hown hgrow _
                have hI5 := (HM.out.1.alloc _).app (l' := (acc.drop (j + 1)).reverse ++ [x]) (by rw [show ((acc.drop (j + 1)).reverse ++ [x]).length = i - (j + 1) + 1 by rw [List.length_append, HM.out.2.2]; rfl]; simpa using hown) hgrow
                have HX5 := Lib.hid hI5
                clear hown hgrow hI5
                go_wp2
                go_roundw
                case rel => exact ⟨j, by omega, by first | rfl | trivial | go_num, by rw [HM.out.2.1]; exact HX5.out⟩
                case measure => simp [intOf]
              · obtain rfl : s = 0 := by omega
                rw [List.drop_zero] at hI
                have hrl : acc.reverse.length = i := by rw [List.length_reverse, HF.out.2.2.1]
                obtain ⟨L, hL⟩ : ∃ L, acc.reverse = L := ⟨_, rfl⟩
                rw [hL] at hI hrl
                have hlr : r = true → L = lr := fun e => by rw [← hL, HF.out.2.2.2.1 e, List.reverse_reverse]
                have hL64 : I64s L := fun x hx => by
                  rw [← hL] at hx
                  exact HX.out.2.2.1 x (HF.out.2.2.2.2 x (List.mem_reverse.1 hx))
                obtain ⟨P9, c9, rfl, hP9, -, hc9, -, -⟩ := nums_of_own hI.1
                rw [hrl] at hc9 hI ⊢
                have HG := Lib.hid (And.intro hI (And.intro hP9 (And.intro hc9 (And.intro hlr (And.intro hL64 hrl)))))
                clear hI hP9 hc9 hlr hL64 hL hrl
                obtain ⟨w6, rfl⟩ : ∃ w6, w6 = wr := ⟨_, rfl⟩
                have q2 : ¬ (((0 : Nat) : Int) - 1) ≥ 0 := by omega
                have q3 : (((0 : Nat) : Int) - 1) = -1 := by omega
                rw [q3]
                go_wp2
                go_loopw [11] (fun v11 wr => ∃ k : Nat, k ≤ i ∧ v11 = .int .i64 (k : Int) ∧ wr = w6 ∧ ∀ j, j < k → 0 ≤ L.getD j 0) (fun v11 _ => i - (intOf v11).toNat)
                case atStart => exact ⟨0, Nat.zero_le _, rfl, rfl, fun j hj => by omega⟩
                case round =>
                  obtain ⟨k, hki, rfl, rfl, hge⟩ := hrel
                  by_cases hlt : k < i
                  · obtain ⟨bb, off, hPe, -, ck⟩ := num_at HG.out.2.1 (i := k) (by rw [HG.out.2.2.2.2.2]; exact hlt)
                    obtain ⟨x, hx⟩ : ∃ x, L.getD k 0 = x := ⟨_, rfl⟩
                    rw [hx] at ck
                    have HH := Lib.hid (And.intro hge hx)
                    have HPE := Lib.hid hPe
                    clear hge hx q2 q3
                    subst hPe
                    have q1 : (k : Int) < (i : Int) := by omega
                    have q2 : (0 : Int) ≤ (k : Int) := by omega
                    by_cases hneg : x < 0
                    · have hrf : r = false := by
                        rw [← Bool.not_eq_true]
                        intro e
                        have h1 := (HX.out.1 e).1 (L.getD k 0) (by rw [← HG.out.2.2.2.1 e]; exact getD_mem (by rw [HG.out.2.2.2.2.2]; exact hlt))
                        rw [HH.out.2] at h1
                        omega
                      have HRF := Lib.hid hrf
                      clear hrf
                      go_wp2
                      go_ret2
                      exact .inr ⟨HRF.out, rfl, HF.out.2.1.trans (HG.out.1.2.mono HF.out.2.1.size)⟩
                    · go_wp2
                      go_roundw
                      case rel =>
                        refine ⟨k + 1, by omega, by go_num, by first | rfl | trivial, fun j hj => ?_⟩
                        by_cases e : j = k
                        · rw [e, HH.out.2]; omega
                        · exact HH.out.1 j (by omega)
                      case measure => simp [intOf]; omega
                  · obtain rfl : k = i := by omega
                    obtain ⟨k, rfl⟩ : ∃ i, i = k := ⟨_, rfl⟩
                    have hLn : Nn L := fun x hx => by
                      obtain ⟨j, hj, e⟩ := List.getElem_of_mem hx
                      have := hge j (by rw [HG.out.2.2.2.2.2] at hj; exact hj)
                      rw [List.getD_eq_getElem?_getD, List.getElem?_eq_getElem hj, Option.getD_some, e] at this
                      exact this
                    have hdt := dturn_any P9 k c9 L _ HG.out.2.1 HG.out.2.2.2.2.2 HG.out.2.2.1 (by omega) HG.out.2.2.2.2.1
                    have HT := Lib.hid (And.intro hdt hLn)
                    clear hge hLn hdt q2 q3
                    have q1 : ¬ (k : Int) < (k : Int) := by omega
                    go_wp2_with fail
                    (with_reducible refine HT.out.1.mono ?_)
                    rintro e u7 ⟨v7, rfl, hI7⟩
                    obtain ⟨P7, c7, rfl, hP7, -, -, -, -⟩ := nums_of_own hI7.1
                    have hwb := HF.out.2.1.trans (HG.out.1.2.mono HF.out.2.1.size)
                    have hwb7 := hwb.trans (hI7.2.mono hwb.size)
                    have hsm := rsame_any P7 _ (turnL L).length n c7 c (turnL L) b u7 hP7 (HX.out.2.2.2.1.kept hwb7) rfl HX.out.2.2.2.2.1 (by rw [turnL_len, HG.out.2.2.2.2.2]; omega)
                    have hres : decide (turnL L = b) = r := by
                      cases hr : r with
                      | true =>
                        have e := (HX.out.1 hr).2.2
                        rw [HG.out.2.2.2.1 hr, ← e]; exact decide_eq_true rfl
                      | false =>
                        apply decide_eq_false
                        intro e
                        exact HX.out.2.1 hr ⟨L, HT.out.2, HG.out.2.2.2.2.1, e.symm⟩
                    rw [hres] at hsm
                    have hown : r = true → OwnI w (.slice P9 k c9) lr u7 := fun e => by
                      have h := HG.out.1.kept hI7.2
                      rw [HG.out.2.2.2.1 e] at h
                      have := congrArg List.length (HG.out.2.2.2.1 e)
                      rw [HG.out.2.2.2.2.2] at this
                      refine ⟨own_mono ?_ HF.out.2.1.size, hwb7⟩
                      exact h.1
                    have H7 := Lib.hid (And.intro hsm (And.intro hwb7 hown))
                    clear hP7 hI7 hwb hwb7 hsm hres hown
                    go_wp2_with fail
                    (with_reducible refine H7.out.1.mono ?_)
                    rintro e u8 ⟨rfl, hb8⟩
                    have hw8 := H7.out.2.1.trans (hb8.mono H7.out.2.1.size)
                    have hown8 := fun e => (H7.out.2.2 e).kept hb8
                    have H8 := Lib.hid (And.intro hw8 hown8)
                    clear hb8 hw8 hown8
                    cases r with
                    | true =>
                      go_wp2
                      go_ret2
                      exact ⟨_, rfl, H8.out.2 trivial⟩
                    | false =>
                      go_wp2
                      go_ret2
                      exact ⟨rfl, H8.out.1⟩
          · have hxm : x ∈ b := by rw [← hx]; exact getD_mem (by rw [HX.out.2.2.2.2.1]; exact hat0)
            obtain ⟨j, hjn, hje⟩ := HO.out.2.2.1 at0 hat0
            have hdj := HD2.out j hjn
            rw [hje] at hdj
            have cN := (HB3.out.1.kept hI.2).cell at0 hat0
            rw [hdj] at cN
            have HDJ := Lib.hid hdj
            have HLT := Lib.hid hlt
            have hrt2 : r = true → acc ++ [x] = lr.reverse.take (i + 1) ∧ j = plR lr (lr.length - (i + 1)) ∧ i + 1 ≤ lr.length := fun e => by
              obtain ⟨h1, h2, h3⟩ := hrt e
              have hne : i ≠ lr.length := fun e2 => by
                rw [e2, Nat.sub_self] at h2
                have := (HO.out.2.2.2.2.1 e).2.1
                rw [← h2, hx] at this
                exact hx1 this
              obtain ⟨g1, g2⟩ := HO.out.2.2.2.1 e (lr.length - i - 1) (by omega)
              rw [show lr.length - i - 1 + 1 = lr.length - i by omega, ← h2] at g1 g2
              refine ⟨by rw [rev_take lr i (by omega), ← g2, hx, h1], ?_, by omega⟩
              rw [show lr.length - (i + 1) = lr.length - i - 1 by omega]
              exact HO.out.2.1.inj _ _ hjn ((HO.out.2.2.2.2.1 e).2.2 _ (by omega)) (by rw [hje, g1])
            have hsz := hI.2.size
            obtain ⟨P4, c4, hv4, -, -, -, -, -⟩ := nums_of_own hI.1
            subst hv4
            rw [hai]
            rw [hai] at hI
            have HM := Lib.hid (And.intro hI (And.intro hmem (And.intro hxm (And.intro hrt2 hai))))
            have q2 : (i : Int) < (n : Int) := by omega
            have q3 : (x == -1) = false := by simpa using hx1
            have q4 : (0 : Int) ≤ (at0 : Int) := by omega
            have q5 : (at0 : Int) < (n : Int) := by omega
            clear hI hmem hxm hrt hrt2 hx hje hdj HD2
            subst hAe
            go_wp2_with (first
              | (at_builtin
                 refine wpList_append_nums rfl (.tmp 46) (.tmp 51) rfl w3.heap.size _ _ _ rfl (HM.out.1.alloc _).1 (some ⟨_, 0, none⟩) 1 1 [x] rfl rfl ?c1 (by simp) ?c2 ?c3 ?_))
            case c1 => exact nums_one _ _
            case c2 => first | omega | (rw [HM.out.2.2.2.2]; omega)
            case c3 => first | omega | (simp; omega)
            intro v' w5 hown hgrow hat
            have hI5 := (HM.out.1.alloc _).app (l' := acc ++ [x]) (by rw [show (acc ++ [x]).length = i + 1 by rw [List.length_append, HM.out.2.2.2.2]; rfl]; simpa using hown) hgrow
            have cN5 := (HB3.out.1.kept hI5.2).cell at0 hat0
            rw [HDJ.out] at cN5
            obtain ⟨P5, c5, rfl, -, -, -, -, -⟩ := nums_of_own hI5.1
            have HX5 := Lib.hid hI5
            clear hown hgrow hI5 hat
            go_wp2
            go_roundw
            case rel =>
              refine ⟨i + 1, j, acc ++ [x], by omega, by rw [List.length_append, HM.out.2.2.2.2]; rfl, hjn, by first | rfl | trivial | go_num, HX5.out, fun y hy => ?_, HM.out.2.2.2.1⟩
              rcases List.mem_append.1 hy with h | h
              · exact HM.out.2.1 y h
              · simp only [List.mem_singleton] at h; rw [h]; exact HM.out.2.2.1
            case measure => have h1 := HM.out.2.2.2.2; have h2 := HLT.out; simp [lenOf]; rw [h1]; exact Nat.sub_lt_sub_left h2 (Nat.lt_succ_self i)
        · have q7 : ¬ (i : Int) < (n : Int) := by omega
          have hsz5 := hI.2.size
          obtain ⟨P4, c4, rfl, hP4, -, -, -, -⟩ := nums_of_own hI.1
          rw [hai]
          have hfin : r = true → acc = lr.reverse := fun e => by have h1 := (hrt e).2.2; have h2 := HX.out.2.2.2.2.2.2.1 e; exfalso; omega
          have HF := Lib.hid (And.intro hP4 (And.intro (HB3.out.2.trans (hI.2.mono HB3.out.2.size)) (And.intro hai (And.intro hfin hmem))))
          clear hI hP4 hfin hmem hrt HD2
          obtain ⟨w5, rfl⟩ : ∃ w5, w5 = wr := ⟨_, rfl⟩
          have q8 : IntKind.i64.wrap ((i : Int) - 1) = (i : Int) - 1 := IntWalk.i64_in _ (by omega)
          skip
          go_wp2
          go_loopw [9, 10] (fun v9 v10 wr => ∃ s : Nat, s ≤ i ∧ v10 = .int .i64 ((s : Int) - 1) ∧ OwnI w5 v9 (acc.drop s).reverse wr) (fun _ v10 _ => (intOf v10 + 1).toNat)
          case atStart => exact ⟨i, Nat.le_refl _, rfl, by rw [List.drop_of_length_le (by rw [HF.out.2.2.1]; exact Nat.le_refl _)]; exact ⟨World.ownsRow_nil _ _ _ _, Below.refl _ _⟩⟩
          case round =>
            obtain ⟨s, hs, rfl, hI⟩ := hrel
            by_cases h0 : 0 < s
            · obtain ⟨j, rfl⟩ : ∃ j, s = j + 1 := ⟨s - 1, by omega⟩
              obtain ⟨bb, off, hPe, -, ck⟩ := num_at (HF.out.1.kept hI.2) (i := j) (by rw [HF.out.2.2.1]; omega)
              have hdr := at_drop (l := acc) (i := j) (by rw [HF.out.2.2.1]; omega)
              obtain ⟨x, hx⟩ : ∃ x, acc.getD j 0 = x := ⟨_, rfl⟩
              rw [hx] at ck hdr
              have hsu : (acc.drop j).reverse = (acc.drop (j + 1)).reverse ++ [x] := by rw [hdr, List.reverse_cons]
              have hml : ((acc.drop (j + 1)).reverse).length = i - (j + 1) := by rw [List.length_reverse, List.length_drop, HF.out.2.2.1]
              have hsz := hI.2.size
              have HM := Lib.hid (And.intro hI (And.intro hsu hml))
              have q2 : (((j + 1 : Nat) : Int) - 1) = (j : Int) := by omega
              have q3 : (0 : Int) ≤ (j : Int) := by omega
              have q4 : (j : Int) < (i : Int) := by omega
              have q5 : IntKind.i64.wrap ((j : Int) - 1) = (j : Int) - 1 := IntWalk.i64_in _ (by omega)
              have q6 : (j : Int) ≥ 0 := by omega
              rw [q2]
              have HPE := Lib.hid hPe
              clear hI hdr hx hsu hml q8
              subst hPe
              go_wp2_with (first
                | (at_builtin
                   refine wpList_append_nums rfl (.tmp 64) (.tmp 69) rfl w5.heap.size _ _ _ rfl (HM.out.1.alloc _).1 (some ⟨_, 0, none⟩) 1 1 [x] rfl rfl ?c1 (by simp) ?c2 ?c3 ?_))
              case c1 => exact nums_one _ _
              case c2 => first | omega | (rw [HM.out.2.2]; omega)
              case c3 => first | omega | (simp; omega)
              intro v' w6 hown hgrow _
              have hI5 := (HM.out.1.alloc _).app (l' := (acc.drop (j + 1)).reverse ++ [x]) (by rw [show ((acc.drop (j + 1)).reverse ++ [x]).length = i - (j + 1) + 1 by rw [List.length_append, HM.out.2.2]; rfl]; simpa using hown) hgrow
              have HX5 := Lib.hid hI5
              clear hown hgrow hI5
              go_wp2
              go_roundw
              case rel => exact ⟨j, by omega, by first | rfl | trivial | go_num, by rw [HM.out.2.1]; exact HX5.out⟩
              case measure => simp [intOf]
            · obtain rfl : s = 0 := by omega
              rw [List.drop_zero] at hI
              have hrl : acc.reverse.length = i := by rw [List.length_reverse, HF.out.2.2.1]
              obtain ⟨L, hL⟩ : ∃ L, acc.reverse = L := ⟨_, rfl⟩
              rw [hL] at hI hrl
              have hlr : r = true → L = lr := fun e => by rw [← hL, HF.out.2.2.2.1 e, List.reverse_reverse]
              have hL64 : I64s L := fun x hx => by
                rw [← hL] at hx
                exact HX.out.2.2.1 x (HF.out.2.2.2.2 x (List.mem_reverse.1 hx))
              obtain ⟨P9, c9, rfl, hP9, -, hc9, -, -⟩ := nums_of_own hI.1
              rw [hrl] at hc9 hI ⊢
              have HG := Lib.hid (And.intro hI (And.intro hP9 (And.intro hc9 (And.intro hlr (And.intro hL64 hrl)))))
              clear hI hP9 hc9 hlr hL64 hL hrl
              obtain ⟨w6, rfl⟩ : ∃ w6, w6 = wr := ⟨_, rfl⟩
              have q2 : ¬ (((0 : Nat) : Int) - 1) ≥ 0 := by omega
              have q3 : (((0 : Nat) : Int) - 1) = -1 := by omega
              rw [q3]
              go_wp2
              go_loopw [11] (fun v11 wr => ∃ k : Nat, k ≤ i ∧ v11 = .int .i64 (k : Int) ∧ wr = w6 ∧ ∀ j, j < k → 0 ≤ L.getD j 0) (fun v11 _ => i - (intOf v11).toNat)
              case atStart => exact ⟨0, Nat.zero_le _, rfl, rfl, fun j hj => by omega⟩
              case round =>
                obtain ⟨k, hki, rfl, rfl, hge⟩ := hrel
                by_cases hlt : k < i
                · obtain ⟨bb, off, hPe, -, ck⟩ := num_at HG.out.2.1 (i := k) (by rw [HG.out.2.2.2.2.2]; exact hlt)
                  obtain ⟨x, hx⟩ : ∃ x, L.getD k 0 = x := ⟨_, rfl⟩
                  rw [hx] at ck
                  have HH := Lib.hid (And.intro hge hx)
                  have HPE := Lib.hid hPe
                  clear hge hx q2 q3
                  subst hPe
                  have q1 : (k : Int) < (i : Int) := by omega
                  have q2 : (0 : Int) ≤ (k : Int) := by omega
                  by_cases hneg : x < 0
                  · have hrf : r = false := by
                      rw [← Bool.not_eq_true]
                      intro e
                      have h1 := (HX.out.1 e).1 (L.getD k 0) (by rw [← HG.out.2.2.2.1 e]; exact getD_mem (by rw [HG.out.2.2.2.2.2]; exact hlt))
                      rw [HH.out.2] at h1
                      omega
                    have HRF := Lib.hid hrf
                    clear hrf
                    go_wp2
                    go_ret2
                    exact .inr ⟨HRF.out, rfl, HF.out.2.1.trans (HG.out.1.2.mono HF.out.2.1.size)⟩
                  · go_wp2
                    go_roundw
                    case rel =>
                      refine ⟨k + 1, by omega, by go_num, by first | rfl | trivial, fun j hj => ?_⟩
                      by_cases e : j = k
                      · rw [e, HH.out.2]; omega
                      · exact HH.out.1 j (by omega)
                    case measure => simp [intOf]; omega
                · obtain rfl : k = i := by omega
                  obtain ⟨k, rfl⟩ : ∃ i, i = k := ⟨_, rfl⟩
                  have hLn : Nn L := fun x hx => by
                    obtain ⟨j, hj, e⟩ := List.getElem_of_mem hx
                    have := hge j (by rw [HG.out.2.2.2.2.2] at hj; exact hj)
                    rw [List.getD_eq_getElem?_getD, List.getElem?_eq_getElem hj, Option.getD_some, e] at this
                    exact this
                  have hdt := dturn_any P9 k c9 L _ HG.out.2.1 HG.out.2.2.2.2.2 HG.out.2.2.1 (by omega) HG.out.2.2.2.2.1
                  have HT := Lib.hid (And.intro hdt hLn)
                  clear hge hLn hdt q2 q3
                  have q1 : ¬ (k : Int) < (k : Int) := by omega
                  go_wp2_with fail
                  (with_reducible refine HT.out.1.mono ?_)
                  rintro e u7 ⟨v7, rfl, hI7⟩
                  obtain ⟨P7, c7, rfl, hP7, -, -, -, -⟩ := nums_of_own hI7.1
                  have hwb := HF.out.2.1.trans (HG.out.1.2.mono HF.out.2.1.size)
                  have hwb7 := hwb.trans (hI7.2.mono hwb.size)
                  have hsm := rsame_any P7 _ (turnL L).length n c7 c (turnL L) b u7 hP7 (HX.out.2.2.2.1.kept hwb7) rfl HX.out.2.2.2.2.1 (by rw [turnL_len, HG.out.2.2.2.2.2]; omega)
                  have hres : decide (turnL L = b) = r := by
                    cases hr : r with
                    | true =>
                      have e := (HX.out.1 hr).2.2
                      rw [HG.out.2.2.2.1 hr, ← e]; exact decide_eq_true rfl
                    | false =>
                      apply decide_eq_false
                      intro e
                      exact HX.out.2.1 hr ⟨L, HT.out.2, HG.out.2.2.2.2.1, e.symm⟩
                  rw [hres] at hsm
                  have hown : r = true → OwnI w (.slice P9 k c9) lr u7 := fun e => by
                    have h := HG.out.1.kept hI7.2
                    rw [HG.out.2.2.2.1 e] at h
                    have := congrArg List.length (HG.out.2.2.2.1 e)
                    rw [HG.out.2.2.2.2.2] at this
                    refine ⟨own_mono ?_ HF.out.2.1.size, hwb7⟩
                    exact h.1
                  have H7 := Lib.hid (And.intro hsm (And.intro hwb7 hown))
                  clear hP7 hI7 hwb hwb7 hsm hres hown
                  go_wp2_with fail
                  (with_reducible refine H7.out.1.mono ?_)
                  rintro e u8 ⟨rfl, hb8⟩
                  have hw8 := H7.out.2.1.trans (hb8.mono H7.out.2.1.size)
                  have hown8 := fun e => (H7.out.2.2 e).kept hb8
                  have H8 := Lib.hid (And.intro hw8 hown8)
                  clear hb8 hw8 hown8
                  cases r with
                  | true =>
                    go_wp2
                    go_ret2
                    exact ⟨_, rfl, H8.out.2 trivial⟩
                  | false =>
                    go_wp2
                    go_ret2
                    exact ⟨rfl, H8.out.1⟩

end Go.Proofs.Ytdepncdknofocaa
