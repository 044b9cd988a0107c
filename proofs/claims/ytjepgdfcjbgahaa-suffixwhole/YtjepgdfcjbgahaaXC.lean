/- The contracts of the document's Alike, and of its Find; how the places of a row are put in order by its suffixes. -/
import Derived.Test.YtjepgdfcjbgahaaXB
set_option maxRecDepth 100000
namespace Go.Proofs.Ytjepgdfcjbgahaa
open Go.RowKit
open M
attribute [local go_sem ↓] Go.wp_at_zero Go.wp_at_succ

theorem alk_cc (x y : Int) (s t : List Int) : alk (x :: s) (y :: t) = if x = y then alk s t + 1 else 0 := by rw [alk]
theorem alk_le : ∀ a b : List Int, alk a b ≤ a.length ∧ alk a b ≤ b.length := by
  intro a
  induction a with
  | nil => intro b; rw [alk_nil_l]; simp
  | cons x s ih =>
    intro b
    cases b with
    | nil => rw [alk_nil_r]; simp
    | cons y t =>
      rw [alk_cc]
      have := ih t
      simp only [List.length_cons]
      split <;> omega

set_option maxHeartbeats 2000000 in
/-- The document's Alike. -/
theorem dalike_any (A B : Option Addr) (n m ca cb : Nat) (a b : List Int) (w : World) (hA : NumsAt .i64 w A a) (hB : NumsAt .i64 w B b) (hla : a.length = n) (hlb : b.length = m) (hn : n ≤ 1000000) (hm : m ≤ 1000000) :
    Calls Try.prog 21 #[.slice A n ca, .slice B m cb] w fun e w' => e = .returned (.int .i64 ((alk a b : Nat) : Int)) ∧ ∃ q, w' = w.drewN q := by
  have H1 := Lib.hid (And.intro hA hla)
  have H2 := Lib.hid (And.intro hB hlb)
  clear hA hB hla hlb
  go_enter Try.func21, Try.ntmps21
  go_wp2
  go_loopw [5] (fun v wr => ∃ i : Nat, i ≤ n ∧ i ≤ m ∧ v = .int .i64 (i : Int) ∧ (∀ j, j < i → a.getD j 0 = b.getD j 0) ∧ ∃ q, wr = w.drewN q) (fun v _ => n - (intOf v).toNat)
  case atStart => exact ⟨0, Nat.zero_le _, Nat.zero_le _, rfl, fun j hj => by omega, 0, rfl⟩
  case round =>
    obtain ⟨i, hin, him, rfl, heq, q, hq⟩ := hrel
    have hbel : Below w.heap.size w wr := by rw [hq]; exact below_drewN w q
    have hdr := alk_drop i (by rw [H1.out.2]; exact hin) (by rw [H2.out.2]; exact him) heq
    have q3 : (0 : Int) ≤ (i : Int) := by omega
    by_cases hlt : i < n
    · have q1 : (i : Int) < (n : Int) := by omega
      by_cases hlm : i < m
      · have q2 : (i : Int) < (m : Int) := by omega
        obtain ⟨ba, oa, hAe, -, c1⟩ := num_at (H1.out.1.kept hbel) (i := i) (by rw [H1.out.2]; exact hlt)
        obtain ⟨bb, ob, hBe, -, c2⟩ := num_at (H2.out.1.kept hbel) (i := i) (by rw [H2.out.2]; exact hlm)
        rw [at_drop (l := a) (i := i) (by rw [H1.out.2]; exact hlt), at_drop (l := b) (i := i) (by rw [H2.out.2]; exact hlm)] at hdr
        obtain ⟨x, hx⟩ : ∃ x, a.getD i 0 = x := ⟨_, rfl⟩
        obtain ⟨y, hy⟩ : ∃ y, b.getD i 0 = y := ⟨_, rfl⟩
        rw [hx] at c1 hdr
        rw [hy] at c2 hdr
        subst hAe hBe
        have HE := Lib.hid (And.intro heq (And.intro hx (And.intro hy (And.intro hdr hq))))
        clear heq hx hy hdr hq hbel
        by_cases e : x = y
        · subst e
          have qn : (x == x) = true := by simp
          go_wp2
          go_quiet (fail)
          go_wp2
          go_roundw
          case rel =>
            obtain ⟨heq, hx, hy, -, rfl⟩ := HE.out
            refine ⟨i + 1, by omega, by omega, by go_num, fun j hj => ?_, q + nq, by rw [World.drewN_drewN]⟩
            by_cases ej : j = i
            · rw [ej, hx, hy]
            · exact heq j (by omega)
          case measure => simp [intOf]; omega
        · have qn : (x == y) = false := by simpa using e
          go_wp2
          go_quiet (fail)
          go_wp2
          go_ret
          obtain ⟨-, -, -, hdr, rfl⟩ := HE.out
          rw [alk_cc, if_neg e, Nat.add_zero] at hdr
          refine ⟨by rw [hdr]; rfl, ?_⟩
          exact ⟨_, by rw [World.drewN_drewN]⟩
      · obtain rfl : i = m := by omega
        have q2 : ¬ (i : Int) < (i : Int) := by omega
        have HE := Lib.hid (And.intro hdr hq)
        clear heq hdr hq hbel
        go_wp2
        go_quiet (fail)
        go_wp2
        go_ret
        obtain ⟨hdr, rfl⟩ := HE.out
        rw [drop_end (l := b) (by rw [H2.out.2]; exact Nat.le_refl _), alk_nil_r, Nat.add_zero] at hdr
        exact ⟨by rw [hdr]; rfl, _, by rw [World.drewN_drewN]⟩
    · obtain rfl : i = n := by omega
      have q1 : ¬ (i : Int) < (i : Int) := by omega
      have HE := Lib.hid (And.intro hdr hq)
      clear heq hdr hq hbel
      go_wp2
      go_quiet (fail)
      go_wp2
      go_ret
      obtain ⟨hdr, rfl⟩ := HE.out
      rw [drop_end (l := a) (by rw [H1.out.2]; exact Nat.le_refl _), alk_nil_l, Nat.add_zero] at hdr
      exact ⟨by rw [hdr]; rfl, _, by rw [World.drewN_drewN]⟩

/-! ## The order of suffixes as an order of numbers -/
/-- How many suffixes are less than the one at x. -/
def sfN (l : List Int) (p : Nat) : Nat := ((List.range l.length).filter fun q => ltB (l.drop q) (l.drop p)).length
def sfK (l : List Int) (x : Int) : Int := ((sfN l x.toNat : Nat) : Int)
def sufA (l : List Int) : List Int := ordP (sfK l) l.length

theorem filter_lt {β : Type} (p q : β → Bool) : ∀ {l : List β}, (∀ x ∈ l, p x = true → q x = true) → (∃ x ∈ l, q x = true ∧ p x = false) → (l.filter p).length < (l.filter q).length := by
  intro l
  induction l with
  | nil => rintro - ⟨x, hx, -⟩; simp at hx
  | cons a t ih =>
    intro h ⟨x, hx, hq, hp⟩
    have hmono : (t.filter p).length ≤ (t.filter q).length := by
      rw [← List.countP_eq_length_filter, ← List.countP_eq_length_filter]
      exact List.countP_mono_left (fun y hy => h y (by simp [hy]))
    rcases List.mem_cons.1 hx with e | e
    · subst e
      rw [List.filter_cons, List.filter_cons, if_neg (by rw [hp]; decide), if_pos hq, List.length_cons]
      omega
    · have := ih (fun y hy => h y (by simp [hy])) ⟨x, e, hq, hp⟩
      have ha := h a (by simp)
      rw [List.filter_cons, List.filter_cons]
      by_cases hpa : p a = true
      · rw [if_pos hpa, if_pos (ha hpa), List.length_cons, List.length_cons]; omega
      · rw [if_neg hpa]
        split
        · rw [List.length_cons]; omega
        · exact this

theorem ltB_sl {l : List Int} (h : I64s l) (p q : Nat) : ltB (l.drop p) (l.drop q) = true ↔ sl b0 l p q := by
  rw [ltB_iff (i64_abv (i64_drop h p)) (i64_abv (i64_drop h q)), sx_drop, sx_drop]
  exact Iff.rfl
theorem sfN_lt1 {l : List Int} (h : I64s l) {p q : Nat} (hp : p < l.length) (hs : sl b0 l p q) : sfN l p < sfN l q := by
  unfold sfN
  apply filter_lt
  · intro r _ hr
    rw [ltB_sl h] at hr ⊢
    exact hr.trans hs
  · refine ⟨p, List.mem_range.2 hp, (ltB_sl h p q).2 hs, ?_⟩
    rw [← Bool.not_eq_true, ltB_sl h]
    exact lx.irr
theorem sfN_lt {l : List Int} (h : I64s l) {p q : Nat} (hp : p < l.length) (hq : q < l.length) : sfN l p < sfN l q ↔ sl b0 l p q := by
  refine ⟨fun hlt => ?_, sfN_lt1 h hp⟩
  by_cases e : p = q
  · subst e; omega
  · rcases sl_total (i64_abv h) (Nat.le_of_lt hp) (Nat.le_of_lt hq) e with h1 | h1
    · exact h1
    · have := sfN_lt1 h hq h1; omega
theorem sfK_lt {l : List Int} (h : I64s l) {p q : Nat} (hp : p < l.length) (hq : q < l.length) : (sfK l p < sfK l q) ↔ ltB (l.drop p) (l.drop q) = true := by
  rw [ltB_sl h, ← sfN_lt h hp hq]
  unfold sfK
  rw [Int.toNat_natCast, Int.toNat_natCast]
  omega
theorem sfK_inj {l : List Int} (h : I64s l) {p q : Nat} (hp : p < l.length) (hq : q < l.length) (e : sfK l p = sfK l q) : p = q := by
  apply Classical.byContradiction
  intro hne
  unfold sfK at e
  rw [Int.toNat_natCast, Int.toNat_natCast] at e
  rcases sl_total (i64_abv h) (Nat.le_of_lt hp) (Nat.le_of_lt hq) hne with h1 | h1
  · have := sfN_lt1 h hp h1; omega
  · have := sfN_lt1 h hq h1; omega
theorem sufA_ok {l : List Int} (h : I64s l) : SA b0 l (sufA l) := by
  unfold sufA
  refine ⟨ordP_length _ _, fun x hx => ordP_mem.1 hx, ?_⟩
  rw [List.pairwise_iff_getElem]
  intro i j hi hj hij
  rw [ordP_length] at hi hj
  have hr := ordP_rise (sfK l) l.length hij hj
  obtain ⟨p, hp, hpn⟩ := ordP_at (sfK l) l.length hi
  obtain ⟨q, hq, hqn⟩ := ordP_at (sfK l) l.length hj
  rw [hp, hq] at hr
  have e1 : (ordP (sfK l) l.length)[i]'(by rw [ordP_length]; exact hi) = (p : Int) := by
    rw [← hp, List.getD_eq_getElem?_getD, List.getElem?_eq_getElem (by rw [ordP_length]; exact hi), Option.getD_some]
  have e2 : (ordP (sfK l) l.length)[j]'(by rw [ordP_length]; exact hj) = (q : Int) := by
    rw [← hq, List.getD_eq_getElem?_getD, List.getElem?_eq_getElem (by rw [ordP_length]; exact hj), Option.getD_some]
  rw [e1, e2, Int.toNat_natCast, Int.toNat_natCast, ← ltB_sl h, ← sfK_lt h hpn hqn]
  rcases hr with hr | ⟨e, hr⟩
  · exact hr
  · have := sfK_inj h hpn hqn e
    omega
theorem sufA_len (l : List Int) : (sufA l).length = l.length := ordP_length _ _

end Go.Proofs.Ytjepgdfcjbgahaa
