/- The contracts of slices.Equal and Common. -/
import Derived.Test.YtjepgdfcjbgahaaXM
set_option maxRecDepth 100000
namespace Go.Proofs.Ytjepgdfcjbgahaa
open Go.RowKit
open M
attribute [local go_sem ↓] Go.wp_at_zero Go.wp_at_succ

set_option maxHeartbeats 1000000 in
theorem seq_any (a1 a2 : Option Addr) (n1 n2 c1 c2 : Nat) (l1 l2 : List Int) (w : World) (h1 : NumsAt .i64 w a1 l1) (h2 : NumsAt .i64 w a2 l2) (e1 : l1.length = n1) (e2 : l2.length = n2) (hl : n1 ≤ 1000000000) :
    Calls Try.prog 28 #[.slice a1 n1 c1, .slice a2 n2 c2] w fun e w' => e = .returned (.bool (decide (l1 = l2))) ∧ Below w.heap.size w w' := by
  by_cases hne : n1 = n2
  · subst hne
    have H1 := Lib.hid (And.intro h1 e1)
    have H2 := Lib.hid (And.intro h2 e2)
    have qe : ((n1 : Int) != (n1 : Int)) = false := by simp
    clear h1 h2 e1 e2
    go_enter Try.func28, Try.ntmps28
    go_wp2
    go_loopw [5, 13] (fun _ v wr => ∃ i : Nat, i ≤ n1 ∧ v = .int .i64 (i : Int) ∧ l1.take i = l2.take i ∧ Below w.heap.size w wr) (fun _ v _ => n1 - (intOf v).toNat)
    case atStart => exact ⟨0, Nat.zero_le _, rfl, rfl, Below.refl _ _⟩
    case round =>
      obtain ⟨i, hi, rfl, htk, hbel⟩ := hrel
      by_cases hlt : i < n1
      · have hl1 := H1.out.2
        have hl2 := H2.out.2
        rcases H1.out.1.kept hbel with hnil | ⟨b1, o1, rfl, hb1, hc1⟩
        · subst hnil; simp at hl1; omega
        rcases H2.out.1.kept hbel with hnil | ⟨b2, o2, rfl, hb2, hc2⟩
        · subst hnil; simp at hl2; omega
        have d1 := hc1 i (by omega)
        have d2 := hc2 i (by omega)
        have q1 : (i : Int) < (n1 : Int) := by omega
        have q3 : (0 : Int) ≤ (i : Int) := by omega
        have ht1 := takeI_snoc l1 i (by omega)
        have ht2 := takeI_snoc l2 i (by omega)
        by_cases he : l1.getD i 0 = l2.getD i 0
        · have htk2 : l1.take (i + 1) = l2.take (i + 1) := by rw [ht1, ht2, htk, he]
          have HT := Lib.hid (And.intro htk2 hbel)
          rw [← he] at d2
          clear htk2 ht1 ht2 htk he hc1 hc2 hl1 hl2 hbel
          generalize l1.getD i 0 = bv at *
          have hbn : (bv != bv) = false := by simp
          go_wp2
          go_quiet (fail)
          go_wp2
          go_roundw
          case rel => exact ⟨i + 1, by omega, by go_num, HT.out.1, HT.out.2.trans ((below_drewN wr _).mono HT.out.2.size)⟩
          case measure => simp [intOf]; omega
        · have hneq : l1 ≠ l2 := fun e => he (by rw [e])
          have hbn : (l1.getD i 0 != l2.getD i 0) = true := by simpa using he
          have HT := Lib.hid (And.intro hneq hbel)
          clear ht1 ht2 htk hc1 hc2 hl1 hl2 hbel hneq he
          generalize l1.getD i 0 = bv at *
          generalize l2.getD i 0 = cv at *
          go_wp2
          go_quiet (fail)
          go_wp2
          go_ret
          exact ⟨ret_bool (by rw [decide_eq_false HT.out.1]), HT.out.2.trans ((below_drewN wr _).mono HT.out.2.size)⟩
      · obtain rfl : i = n1 := by omega
        have heq : l1 = l2 := by
          have := htk
          rw [List.take_of_length_le (by rw [H1.out.2]; omega), List.take_of_length_le (by rw [H2.out.2]; omega)] at this
          exact this
        have HT := Lib.hid (And.intro heq hbel)
        have q1 : ¬ (i : Int) < (i : Int) := by omega
        clear heq hbel htk
        go_wp2
        go_ret
        exact ⟨ret_bool (by rw [decide_eq_true HT.out.1]), HT.out.2⟩
  · have hneq : l1 ≠ l2 := fun e => hne (by rw [← e1, ← e2, e])
    have HT := Lib.hid hneq
    clear h1 h2 e1 e2 hneq
    have hb1 : ((n1 : Int) != (n2 : Int)) = true := by simp; omega
    have hb2 : (n1 != n2) = true := by simp; omega
    go_enter Try.func28, Try.ntmps28
    go_wp2
    go_ret
    exact ⟨ret_bool (by rw [decide_eq_false HT.out]), Below.refl _ _⟩

/-! ## What neighbours begin with alike -/
theorem alk_mono : ∀ {a b c : List Int}, ltB a b = true → ltB b c = true → alk a c ≤ alk b c := by
  intro a
  induction a with
  | nil => intro b c _ _; rw [alk_nil_l]; exact Nat.zero_le _
  | cons x s ih =>
    intro b c h1 h2
    cases b with
    | nil => cases h1
    | cons y t =>
      cases c with
      | nil => cases h2
      | cons z u =>
        rw [ltB_cc] at h1 h2
        rw [alk_cc, alk_cc]
        by_cases e : x = z
        · subst e
          split at h1
          · split at h2
            · omega
            · rename_i hxy hyx
              first | cases h2 | (split at h2; · cases h2; · omega)
          · rename_i hxy
            split at h1
            · cases h1
            · have : x = y := by omega
              subst this
              rw [if_neg (by omega), if_neg (by omega)] at h2
              rw [if_pos rfl, if_pos rfl]
              have := ih h1 h2
              omega
        · rw [if_neg e]; exact Nat.zero_le _
/-- What the suffix at a rank begins with alike as the one ahead. -/
def comN (l o : List Int) (i : Nat) : Nat := if i = 0 then 0 else alk (l.drop (o.getD (i - 1) 0).toNat) (l.drop (o.getD i 0).toNat)
def comL (l o : List Int) : List Int := (List.range o.length).map fun i => ((comN l o i : Nat) : Int)
theorem comL_at (l o : List Int) (i : Nat) (h : i < o.length) : (comL l o).getD i 0 = ((comN l o i : Nat) : Int) := by simp [comL, List.getD_eq_getElem?_getD, h]
theorem comL_len (l o : List Int) : (comL l o).length = o.length := by simp [comL]

/-- One number on there are as many alike, but one. -/
theorem kasai {l : List Int} (h64 : I64s l) {p r r' : Nat} (hp : p + 1 < l.length) (hr : r + 1 < l.length) (hr' : r' + 1 < l.length) (e : (sufA l).getD (r + 1) 0 = (p : Int)) (e' : (sufA l).getD (r' + 1) 0 = ((p + 1 : Nat) : Int)) : comN l (sufA l) (r + 1) ≤ comN l (sufA l) (r' + 1) + 1 := by
  have hS := sufA_ok h64
  obtain ⟨q, hq, hql⟩ := hS.pl (i := r) (by omega)
  obtain ⟨q', hq', hql'⟩ := hS.pl (i := r') (by omega)
  unfold comN
  rw [if_neg (by omega), if_neg (by omega), Nat.add_sub_cancel, Nat.add_sub_cancel, e, e', hq, hq', Int.toNat_natCast, Int.toNat_natCast, Int.toNat_natCast, Int.toNat_natCast]
  have h1 := (hS.iff (i := r) (j := r + 1) (by omega) hr hq e).1 (by omega)
  rw [at_drop (l := l) (i := q) hql, at_drop (l := l) (i := p) (by omega), alk_cc]
  split
  · rename_i hx
    by_cases h0 : alk (l.drop (q + 1)) (l.drop (p + 1)) = 0
    · omega
    · have hq1 : q + 1 < l.length := by
        apply Nat.lt_of_not_le
        intro hle
        rw [drop_end hle, alk_nil_l] at h0
        exact h0 rfl
      have h2 : sl b0 l (q + 1) (p + 1) := by
        rw [sl_step] at h1
        rcases h1 with h | h
        · rw [getD_in hql, getD_in (show p < l.length by omega), hx] at h; omega
        · exact h.2
      obtain ⟨i, hi, hie⟩ := hS.has (q + 1) hq1
      have hlt := (hS.iff hi hr' hie e').2 h2
      have : alk (l.drop (q + 1)) (l.drop (p + 1)) ≤ alk (l.drop q') (l.drop (p + 1)) := by
        by_cases hir : i = r'
        · subst hir
          rw [hq'] at hie
          have : q' = q + 1 := by omega
          rw [this]
          exact Nat.le_refl _
        · exact alk_mono ((ltB_sl h64 _ _).2 ((hS.iff hi (by omega) hie hq').1 (by omega))) ((ltB_sl h64 _ _).2 ((hS.iff (i := r') (j := r' + 1) (by omega) hr' hq' e').1 (by omega)))
      omega
  · omega

end Go.Proofs.Ytjepgdfcjbgahaa
