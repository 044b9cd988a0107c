/- Rows held against each other: the contracts of the document's Less and Alike. -/
import Derived.Test.YtdepncdknofocaaXA
set_option maxRecDepth 100000
namespace Go.Proofs.Ytdepncdknofocaa
open Go.RowKit
open M
attribute [local go_sem ↓] Go.wp_at_zero Go.wp_at_succ

/-- Is the first row less? -/
def ltB : List Int → List Int → Bool
  | [], [] => false
  | [], _ :: _ => true
  | _ :: _, [] => false
  | x :: s, y :: t => if x < y then true else if y < x then false else ltB s t
/-- How many numbers they begin with alike. -/
def alk : List Int → List Int → Nat
  | x :: s, y :: t => if x = y then alk s t + 1 else 0
  | _, _ => 0

theorem ltB_cc (x y : Int) (s t : List Int) : ltB (x :: s) (y :: t) = if x < y then true else if y < x then false else ltB s t := by rw [ltB]
theorem at_drop {l : List Int} {i : Nat} (h : i < l.length) : l.drop i = l.getD i 0 :: l.drop (i + 1) := by
  rw [List.drop_eq_getElem_cons h, List.getD_eq_getElem?_getD, List.getElem?_eq_getElem h, Option.getD_some]
theorem drop_end {l : List Int} {i : Nat} (h : l.length ≤ i) : l.drop i = [] := List.drop_eq_nil_of_le h

theorem ltB_drop : ∀ (i : Nat) {a b : List Int}, i ≤ a.length → i ≤ b.length → (∀ j, j < i → a.getD j 0 = b.getD j 0) → ltB a b = ltB (a.drop i) (b.drop i) := by
  intro i
  induction i with
  | zero => intro a b _ _ _; rfl
  | succ i ih =>
    intro a b ha hb h
    rw [ih (by omega) (by omega) (fun j hj => h j (by omega)), at_drop (l := a) (i := i) (by omega), at_drop (l := b) (i := i) (by omega), h i (by omega)]
    rw [ltB_cc, if_neg (by omega), if_neg (by omega)]
theorem alk_drop : ∀ (i : Nat) {a b : List Int}, i ≤ a.length → i ≤ b.length → (∀ j, j < i → a.getD j 0 = b.getD j 0) → alk a b = i + alk (a.drop i) (b.drop i) := by
  intro i
  induction i with
  | zero => intro a b _ _ _; simp
  | succ i ih =>
    intro a b ha hb h
    rw [ih (by omega) (by omega) (fun j hj => h j (by omega)), at_drop (l := a) (i := i) (by omega), at_drop (l := b) (i := i) (by omega), h i (by omega)]
    rw [show alk (b.getD i 0 :: a.drop (i + 1)) (b.getD i 0 :: b.drop (i + 1)) = alk (a.drop (i + 1)) (b.drop (i + 1)) + 1 by simp [alk]]
    omega
theorem ltB_nil_r : ∀ a : List Int, ltB a [] = false := fun a => by cases a <;> rfl
theorem ltB_nil_l : ∀ b : List Int, ltB [] b = decide (0 < b.length) := fun b => by cases b <;> simp [ltB]
theorem alk_nil_l (b : List Int) : alk [] b = 0 := by cases b <;> rfl
theorem alk_nil_r (a : List Int) : alk a [] = 0 := by cases a <;> rfl

/-- Below all numbers of int. -/
def b0 : Int := -9223372036854775809
def sx (a : List Int) : Nat → Int := fun m => a.getD m b0
theorem sx_drop (l : List Int) (i : Nat) : sx (l.drop i) = sf b0 l i := by
  funext m
  simp [sx, sf, List.getD_eq_getElem?_getD]
theorem i64_abv {l : List Int} (h : I64s l) : Abv b0 l := fun x hx => by have := h x hx; unfold b0; omega
theorem i64_drop {l : List Int} (h : I64s l) (i : Nat) : I64s (l.drop i) := fun x hx => h x (List.mem_of_mem_drop hx)
theorem sx_cons0 (x : Int) (s : List Int) : sx (x :: s) 0 = x := by simp [sx]
theorem sx_consS (x : Int) (s : List Int) (m : Nat) : sx (x :: s) (m + 1) = sx s m := by simp [sx]
theorem lx_cons {x y : Int} {s t : List Int} : lx (sx (x :: s)) (sx (y :: t)) ↔ x < y ∨ (x = y ∧ lx (sx s) (sx t)) := by
  constructor
  · rintro ⟨k, h1, h2⟩
    cases k with
    | zero => rw [sx_cons0, sx_cons0] at h2; exact .inl h2
    | succ k =>
      have h0 := h1 0 (by omega)
      rw [sx_cons0, sx_cons0] at h0
      refine .inr ⟨h0, k, fun m hm => ?_, ?_⟩
      · have := h1 (m + 1) (by omega)
        rwa [sx_consS, sx_consS] at this
      · rwa [sx_consS, sx_consS] at h2
  · rintro (h | ⟨rfl, k, h1, h2⟩)
    · exact ⟨0, fun m hm => by omega, by rw [sx_cons0, sx_cons0]; exact h⟩
    · refine ⟨k + 1, fun m hm => ?_, by rw [sx_consS, sx_consS]; exact h2⟩
      cases m with
      | zero => rw [sx_cons0, sx_cons0]
      | succ m => rw [sx_consS, sx_consS]; exact h1 m (by omega)
theorem ltB_iff : ∀ {a b : List Int}, Abv b0 a → Abv b0 b → (ltB a b = true ↔ lx (sx a) (sx b)) := by
  intro a
  induction a with
  | nil =>
    intro b _ hb
    cases b with
    | nil => simp only [ltB, Bool.false_eq_true, false_iff]; exact lx.irr
    | cons y t =>
      refine ⟨fun _ => ⟨0, fun m hm => by omega, ?_⟩, fun _ => rfl⟩
      have := hb y (by simp)
      simpa [sx] using this
  | cons x s ih =>
    intro b ha hb
    cases b with
    | nil =>
      simp only [ltB, Bool.false_eq_true, false_iff]
      rintro ⟨k, h1, h2⟩
      have hx := ha x (by simp)
      cases k with
      | zero => simp [sx] at h2; omega
      | succ k => have := h1 0 (by omega); simp [sx] at this; omega
    | cons y t =>
      rw [lx_cons, ← ih (fun z hz => ha z (by simp [hz])) (fun z hz => hb z (by simp [hz]))]
      rw [ltB_cc]
      by_cases h1 : x < y
      · rw [if_pos h1]; simp [h1]
      · rw [if_neg h1]
        by_cases h2 : y < x
        · rw [if_pos h2]; simp [h1]; omega
        · rw [if_neg h2]
          have : x = y := by omega
          subst this
          simp

set_option maxHeartbeats 2000000 in
/-- The document's Less. -/
theorem dless_any (A B : Option Addr) (n m ca cb : Nat) (a b : List Int) (w : World) (hA : NumsAt .i64 w A a) (hB : NumsAt .i64 w B b) (hla : a.length = n) (hlb : b.length = m) (hn : n ≤ 1000000) (hm : m ≤ 1000000) :
    Calls Try.prog 33 #[.slice A n ca, .slice B m cb] w fun e w' => e = .returned (.bool (ltB a b)) ∧ ∃ q, w' = w.drewN q := by
  have H1 := Lib.hid (And.intro hA hla)
  have H2 := Lib.hid (And.intro hB hlb)
  clear hA hB hla hlb
  go_enter Try.func33, Try.ntmps33
  go_wp2
  go_loopw [5] (fun v wr => ∃ i : Nat, i ≤ n ∧ i ≤ m ∧ v = .int .i64 (i : Int) ∧ (∀ j, j < i → a.getD j 0 = b.getD j 0) ∧ ∃ q, wr = w.drewN q) (fun v _ => n - (intOf v).toNat)
  case atStart => exact ⟨0, Nat.zero_le _, Nat.zero_le _, rfl, fun j hj => by omega, 0, rfl⟩
  case round =>
    obtain ⟨i, hin, him, rfl, heq, q, hq⟩ := hrel
    have hbel : Below w.heap.size w wr := by rw [hq]; exact below_drewN w q
    have hdr := ltB_drop i (by rw [H1.out.2]; exact hin) (by rw [H2.out.2]; exact him) heq
    have q3 : (0 : Int) ≤ (i : Int) := by omega
    by_cases hlt : i < n
    · have q1 : (i : Int) < (n : Int) := by omega
      by_cases hlm : i < m
      · have q2 : (i : Int) < (m : Int) := by omega
        obtain ⟨ba, oa, hAe, -, c1⟩ := num_at (H1.out.1.kept hbel) (i := i) (by rw [H1.out.2]; exact hlt)
        obtain ⟨bb, ob, hBe, -, c2⟩ := num_at (H2.out.1.kept hbel) (i := i) (by rw [H2.out.2]; exact hlm)
        rw [at_drop (l := a) (i := i) (by rw [H1.out.2]; exact hlt), at_drop (l := b) (i := i) (by rw [H2.out.2]; exact hlm)] at hdr
        obtain ⟨x, hx⟩ : ∃ x, a.getD i 0 = x := ⟨_, rfl⟩
        obtain ⟨y, hy⟩ : ∃ y, b.getD i 0 = y := ⟨_, rfl⟩
        rw [hx] at c1 hdr
        rw [hy] at c2 hdr
        subst hAe hBe
        have HE := Lib.hid (And.intro heq (And.intro hx (And.intro hy (And.intro hdr hq))))
        clear heq hx hy hdr hq hbel
        by_cases e : x = y
        · subst e
          have qn : (x != x) = false := by simp
          go_wp2
          go_quiet (fail)
          go_wp2
          go_roundw
          case rel =>
            obtain ⟨heq, hx, hy, -, rfl⟩ := HE.out
            refine ⟨i + 1, by omega, by omega, by go_num, fun j hj => ?_, q + nq, by rw [World.drewN_drewN]⟩
            by_cases ej : j = i
            · rw [ej, hx, hy]
            · exact heq j (by omega)
          case measure => simp [intOf]; omega
        · have qn : (x != y) = true := by simpa using e
          have hr : ltB (x :: a.drop (i + 1)) (y :: b.drop (i + 1)) = decide (x < y) := by
            rw [ltB_cc]
            by_cases h1 : x < y
            · rw [if_pos h1, decide_eq_true h1]
            · rw [if_neg h1, if_pos (by omega), decide_eq_false h1]
          have HR := Lib.hid hr
          clear hr
          go_wp2
          go_quiet (fail)
          go_wp2
          go_quiet (fail)
          go_wp2
          go_ret
          obtain ⟨-, -, -, hdr, rfl⟩ := HE.out
          refine ⟨by rw [hdr, HR.out]; rfl, ?_⟩
          exact ⟨_, by rw [World.drewN_drewN, World.drewN_drewN]⟩
      · obtain rfl : i = m := by omega
        have q2 : ¬ (i : Int) < (i : Int) := by omega
        have q4 : ¬ (n : Int) < (i : Int) := by omega
        have HE := Lib.hid (And.intro hdr hq)
        clear heq hdr hq hbel
        go_wp2
        go_ret
        obtain ⟨hdr, hq⟩ := HE.out
        refine ⟨?_, q, hq⟩
        rw [hdr, drop_end (l := b) (by rw [H2.out.2]; exact Nat.le_refl _), ltB_nil_r]
        first | rfl | (congr 2; simp; omega)
    · obtain rfl : i = n := by omega
      have q1 : ¬ (i : Int) < (i : Int) := by omega
      have HE := Lib.hid (And.intro hdr hq)
      clear heq hdr hq hbel
      go_wp2
      go_ret
      obtain ⟨hdr, hq⟩ := HE.out
      refine ⟨?_, q, hq⟩
      rw [hdr, drop_end (l := a) (by rw [H1.out.2]; exact Nat.le_refl _), ltB_nil_l, List.length_drop, H2.out.2]
      refine ret_bool ?_
      rw [decide_eq_decide]; omega

end Go.Proofs.Ytdepncdknofocaa
