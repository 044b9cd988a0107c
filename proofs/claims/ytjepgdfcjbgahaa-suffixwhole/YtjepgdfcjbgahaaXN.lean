/- The contracts of slices.Compare, begin, halved, Find. -/
import Derived.Test.YtjepgdfcjbgahaaXC
import Derived.Test.YtjepgdfcjbgahaaOH
set_option maxRecDepth 100000
namespace Go.Proofs.Ytjepgdfcjbgahaa
open Go.RowKit
open M
attribute [local go_sem ↓] Go.wp_at_zero Go.wp_at_succ

theorem nan_any (x : Int) (w : World) : Calls Try.prog 55 #[.int .i64 x] w fun e w' => e = .returned (.bool false) ∧ w' = w := by
  have q : (x != x) = false := by simp
  go_enter Try.func55, Try.ntmps55
  go_wp2
  go_ret
  exact ⟨rfl, rfl⟩
def cmpI (x y : Int) : Int := if x < y then -1 else if y < x then 1 else 0
theorem cmp1_any (x y : Int) (w : World) : Calls Try.prog 48 #[.int .i64 x, .int .i64 y] w fun e w' => e = .returned (.int .i64 (cmpI x y)) ∧ w' = w := by
  have n1 := nan_any x w
  have n2 := nan_any y w
  have HN := Lib.hid (And.intro n1 n2)
  clear n1 n2
  obtain ⟨z, hz⟩ : ∃ z, cmpI x y = z := ⟨_, rfl⟩
  rw [hz]
  have HZ := Lib.hid hz
  clear hz
  by_cases h1 : x < y
  · go_enter Try.func48, Try.ntmps48
    go_wp2_with fail
    (with_reducible refine HN.out.1.mono ?_)
    rintro e u ⟨rfl, rfl⟩
    go_wp2_with fail
    (with_reducible refine HN.out.2.mono ?_)
    rintro e u ⟨rfl, rfl⟩
    go_wp2
    go_ret
    exact ⟨by rw [← HZ.out]; unfold cmpI; rw [if_pos h1]; rfl, rfl⟩
  · by_cases h2 : y < x
    · have h3 : x > y := h2
      go_enter Try.func48, Try.ntmps48
      go_wp2_with fail
      (with_reducible refine HN.out.1.mono ?_)
      rintro e u ⟨rfl, rfl⟩
      go_wp2_with fail
      (with_reducible refine HN.out.2.mono ?_)
      rintro e u ⟨rfl, rfl⟩
      go_wp2
      go_ret
      exact ⟨by rw [← HZ.out]; unfold cmpI; rw [if_neg (by omega), if_pos (by omega)]; rfl, rfl⟩
    · have h3 : ¬ x > y := h2
      go_enter Try.func48, Try.ntmps48
      go_wp2_with fail
      (with_reducible refine HN.out.1.mono ?_)
      rintro e u ⟨rfl, rfl⟩
      go_wp2_with fail
      (with_reducible refine HN.out.2.mono ?_)
      rintro e u ⟨rfl, rfl⟩
      go_wp2
      go_ret
      exact ⟨by rw [← HZ.out]; unfold cmpI; rw [if_neg (by omega), if_neg (by omega)]; rfl, rfl⟩

def cmpL (a b : List Int) : Int := if ltB a b then -1 else if ltB b a then 1 else 0
theorem ltB_irr : ∀ a : List Int, ltB a a = false := by
  intro a
  induction a with
  | nil => rfl
  | cons x s ih => rw [ltB_cc, if_neg (by omega), if_neg (by omega)]; exact ih
theorem cmpL_drop (i : Nat) {a b : List Int} (ha : i ≤ a.length) (hb : i ≤ b.length) (h : ∀ j, j < i → a.getD j 0 = b.getD j 0) : cmpL a b = cmpL (a.drop i) (b.drop i) := by
  unfold cmpL
  rw [ltB_drop i ha hb h, ltB_drop i hb ha (fun j hj => (h j hj).symm)]

set_option maxHeartbeats 2000000 in
theorem scmp_any (A B : Option Addr) (n m ca cb : Nat) (a b : List Int) (w : World) (hA : NumsAt .i64 w A a) (hB : NumsAt .i64 w B b) (hla : a.length = n) (hlb : b.length = m) (hn : n ≤ 1000000) (hm : m ≤ 1000000) :
    Calls Try.prog 30 #[.slice A n ca, .slice B m cb] w fun e w' => e = .returned (.int .i64 (cmpL a b)) ∧ w' = w := by
  have H1 := Lib.hid (And.intro hA hla)
  have H2 := Lib.hid (And.intro hB hlb)
  clear hA hB hla hlb
  go_enter Try.func30, Try.ntmps30
  go_wp2
  go_loopw [5, 6, 7, 8, 11] (fun _ _ _ _ v11 wr => ∃ i : Nat, i ≤ n ∧ i ≤ m ∧ v11 = .int .i64 (i : Int) ∧ (∀ j, j < i → a.getD j 0 = b.getD j 0) ∧ wr = w) (fun _ _ _ _ v11 _ => n - (intOf v11).toNat)
  case atStart => exact ⟨0, Nat.zero_le _, Nat.zero_le _, rfl, fun j hj => by omega, rfl⟩
  case round =>
    obtain ⟨i, hin, him, rfl, heq, rfl⟩ := hrel
    have hdr := cmpL_drop i (by rw [H1.out.2]; exact hin) (by rw [H2.out.2]; exact him) heq
    have q3 : (0 : Int) ≤ (i : Int) := by omega
    by_cases hlt : i < n
    · have q1 : (i : Int) < (n : Int) := by omega
      obtain ⟨ba, oa, hAe, -, c1⟩ := num_at H1.out.1 (i := i) (by rw [H1.out.2]; exact hlt)
      rw [at_drop (l := a) (i := i) (by rw [H1.out.2]; exact hlt)] at hdr
      obtain ⟨x, hx⟩ : ∃ x, a.getD i 0 = x := ⟨_, rfl⟩
      rw [hx] at c1 hdr
      subst hAe
      by_cases hlm : i < m
      · have q2 : (i : Int) < (m : Int) := by omega
        have q4 : ¬ (i : Int) ≥ (m : Int) := by omega
        have q5 : ¬ (m : Int) ≤ (i : Int) := by omega
        obtain ⟨bb, ob, hBe, -, c2⟩ := num_at H2.out.1 (i := i) (by rw [H2.out.2]; exact hlm)
        rw [at_drop (l := b) (i := i) (by rw [H2.out.2]; exact hlm)] at hdr
        obtain ⟨y, hy⟩ : ∃ y, b.getD i 0 = y := ⟨_, rfl⟩
        rw [hy] at c2 hdr
        subst hBe
        have hc := cmp1_any x y wr
        obtain ⟨z, hz⟩ : ∃ z, cmpI x y = z := ⟨_, rfl⟩
        rw [hz] at hc
        have HE := Lib.hid (And.intro heq (And.intro hx (And.intro hy (And.intro hdr (And.intro hc hz)))))
        clear heq hx hy hdr hc hz
        by_cases e : z = 0
        · subst e
          have qn : ((0 : Int) != 0) = false := by decide
          go_wp2_with fail
          (with_reducible refine HE.out.2.2.2.2.1.mono ?_)
          rintro e u ⟨rfl, rfl⟩
          go_wp2
          go_roundw
          case rel =>
            obtain ⟨heq, hx, hy, -, -, hz⟩ := HE.out
            refine ⟨i + 1, by omega, by omega, by go_num, fun j hj => ?_, trivial⟩
            by_cases ej : j = i
            · rw [ej, hx, hy]
              unfold cmpI at hz
              split at hz
              · omega
              · split at hz <;> omega
            · exact heq j (by omega)
          case measure => simp [intOf]; omega
        · have qn : (z != 0) = true := by simpa using e
          go_wp2_with fail
          (with_reducible refine HE.out.2.2.2.2.1.mono ?_)
          rintro e u ⟨rfl, rfl⟩
          go_wp2
          go_ret
          obtain ⟨heq, hx, hy, hdr, -, hz⟩ := HE.out
          refine ⟨?_, rfl⟩
          rw [hdr]
          refine ret_int (hz.symm.trans ?_)
          unfold cmpL cmpI
          rw [ltB_cc, ltB_cc]
          unfold cmpI at hz
          by_cases h1 : x < y
          · rw [if_pos h1, if_pos h1]; rfl
          · rw [if_neg h1, if_neg h1]
            by_cases h2 : y < x
            · simp [h2]
            · rw [if_neg h1, if_neg h2] at hz; omega
      · obtain rfl : i = m := by omega
        have q2 : ¬ (i : Int) < (i : Int) := by omega
        have q4 : (i : Int) ≥ (i : Int) := Int.le_refl _
        have HE := Lib.hid hdr
        clear heq hdr hx
        go_wp2
        go_ret
        refine ⟨?_, rfl⟩
        rw [HE.out, drop_end (l := b) (by rw [H2.out.2]; exact Nat.le_refl _)]
        rfl
    · obtain rfl : i = n := by omega
      have q1 : ¬ (i : Int) < (i : Int) := by omega
      have HE := Lib.hid hdr
      clear heq hdr
      by_cases hlm : i < m
      · have q2 : (i : Int) < (m : Int) := by omega
        go_wp2
        go_ret
        refine ⟨?_, rfl⟩
        rw [HE.out, drop_end (l := a) (by rw [H1.out.2]; exact Nat.le_refl _), at_drop (l := b) (i := i) (by rw [H2.out.2]; exact hlm)]
        rfl
      · obtain rfl : i = m := by omega
        have q2 : ¬ (i : Int) < (i : Int) := by omega
        go_wp2
        go_ret
        refine ⟨?_, rfl⟩
        rw [HE.out, drop_end (l := a) (by rw [H1.out.2]; exact Nat.le_refl _), drop_end (l := b) (by rw [H2.out.2]; exact Nat.le_refl _)]
        rfl

/-- At most so many numbers from a place on. -/
def beg (l : List Int) (place : Int) (most : Nat) : List Int := if 0 ≤ place ∧ place ≤ l.length then (l.drop place.toNat).take most else []

theorem begin_any (A : Option Addr) (n c : Nat) (l : List Int) (place : Int) (most : Nat) (w : World) (hA : NumsAt .i64 w A l) (hl : l.length = n) (hc : n ≤ c) (hn : n ≤ 1000000) (hm : most ≤ 1000000) (hAn : A = none → c = 0) :
    ∃ B k cb, NumsAt .i64 w B (beg l place most) ∧ (beg l place most).length = k ∧ k ≤ 1000000 ∧ ∀ u, Calls Try.prog 31 #[.slice A n c, .int .i64 place, .int .i64 (most : Int)] u fun e u' => e = .returned (.slice B k cb) ∧ u' = u := by
  unfold beg
  rw [hl]
  by_cases h0 : place < 0
  · rw [if_neg (by omega)]
    refine ⟨none, 0, 0, .inl rfl, rfl, by omega, fun u => ?_⟩
    clear hA hl
    go_enter Try.func31, Try.ntmps31
    go_wp2
    go_ret
    exact ⟨rfl, rfl⟩
  · obtain ⟨p, rfl⟩ : ∃ p : Nat, place = (p : Int) := ⟨place.toNat, by omega⟩
    by_cases h1 : n < p
    · rw [if_neg (by omega)]
      refine ⟨none, 0, 0, .inl rfl, rfl, by omega, fun u => ?_⟩
      clear hA hl
      have q1 : (p : Int) > (n : Int) := by omega
      have q2 : (n : Int) < (p : Int) := by omega
      go_enter Try.func31, Try.ntmps31
      go_wp2
      go_ret
      exact ⟨rfl, rfl⟩
    · rw [if_pos (by omega), Int.toNat_natCast]
      have q1 : ¬ (p : Int) > (n : Int) := by omega
      have q2 : ¬ (n : Int) < (p : Int) := by omega
      obtain ⟨t, ht⟩ : ∃ t, t = min most (n - p) := ⟨_, rfl⟩
      have hln : ((l.drop p).take most).length = t := by rw [List.length_take, List.length_drop, hl]; omega
      have q3 : IntKind.i64.wrap ((n : Int) - (p : Int)) = (n : Int) - (p : Int) := IntWalk.i64_in _ (by omega)
      have q4 : (if (n : Int) - (p : Int) < (most : Int) then (n : Int) - (p : Int) else (most : Int)) = (t : Int) := by split <;> omega
      have q5 : IntKind.i64.wrap ((p : Int) + (t : Int)) = (p : Int) + (t : Int) := IntWalk.i64_in _ (by omega)
      have q6 : (p : Int) + (t : Int) ≤ (c : Int) := by omega
      by_cases ht0 : t = 0
      · subst ht0
        have hnil : (l.drop p).take most = [] := List.eq_nil_of_length_eq_zero hln
        rw [hnil]
        clear hln hnil hA hl
        rcases A with _ | ⟨bb, off, sp⟩
        · have hc0 := hAn rfl
          subst hc0
          obtain rfl : n = 0 := by omega
          obtain rfl : p = 0 := by omega
          refine ⟨none, 0, 0, .inl rfl, rfl, by omega, fun u => ?_⟩
          clear hAn ht
          go_enter Try.func31, Try.ntmps31
          go_wp2
          all_goals
            go_ret
            refine ⟨?_, rfl⟩
            first | rfl | (obtain rfl : most = 0 := by omega
                           rfl)
        · clear hAn
          refine ⟨some ⟨bb, off, sp⟩, 0, 0, .inl rfl, rfl, by omega, fun u => ?_⟩
          clear ht
          go_enter Try.func31, Try.ntmps31
          go_wp2
          all_goals
            go_ret
            exact ⟨rfl, rfl⟩
      · obtain ⟨bb, off, hAe, -, -⟩ := num_at hA (i := 0) (by omega)
        subst hAe
        have hd := (hA.drop p).take most
        have q7 : (p : Int) < (c : Int) := by omega
        have q8 : ¬ (t : Int) = 0 := by omega
        have q9 : (p : Int) < (n : Int) := by omega
        have q10 : (0 : Int) < (t : Int) := by omega
        refine ⟨some ⟨bb, off + p, none⟩, t, t, hd, hln, by omega, fun u => ?_⟩
        clear hln hd hA hl hAn ht
        go_enter Try.func31, Try.ntmps31
        go_wp2
        go_ret
        exact ⟨rfl, rfl⟩

theorem ent33 (args : Array Value) (w : World) : (callFunc 33 args).run Try.prog w = .ok (.enter 33 args) w := by kernel_rfl
theorem ent34 (args : Array Value) (w : World) : (callFunc 34 args).run Try.prog w = .ok (.enter 34 args) w := by kernel_rfl

/-- What a search by halves tells. -/
def HalfEnd (a b : Nat) (P : Nat → Bool) (I : World → Prop) (e : Ending) (u : World) : Prop :=
  ∃ r : Nat, e = .returned (.int .i64 (r : Int)) ∧ a ≤ r ∧ r ≤ b ∧ (a < r → P (r - 1) = true) ∧ (r < b → P r = false) ∧ I u

theorem halved_any (f : Nat) (caps : Array Value) (a b : Nat) (P : Nat → Bool) (I : World → Prop) (w : World) (hf : ∀ (args : Array Value) (w : World), (callFunc f args).run Try.prog w = .ok (.enter f args) w)
    (hab : a ≤ b) (hb : b ≤ 1000000000) (h0 : I w)
    (ht : ∀ (i : Nat) (x : Int) (u : World), i < b → x = (i : Int) → I u → Calls Try.prog f (#[.int .i64 x] ++ caps) u fun e u' => e = .returned (.bool (P i)) ∧ I u') :
    Calls Try.prog 32 #[.int .i64 (a : Int), .int .i64 (b : Int), .func (.func f) #[] caps] w (HalfEnd a b P I) := by
  have HT := Lib.hid ht
  have H0 := Lib.hid h0
  clear ht h0
  go_enter Try.func32, Try.ntmps32
  go_wp2
  go_loopw [0, 1, 7] (fun v0 v1 _ wr => ∃ x y : Nat, x ≤ y ∧ a ≤ x ∧ y ≤ b ∧ v0 = .int .i64 (x : Int) ∧ v1 = .int .i64 (y : Int) ∧ (a < x → P (x - 1) = true) ∧ (y < b → P y = false) ∧ I wr) (fun v0 v1 _ _ => (intOf v1).toNat - (intOf v0).toNat)
  case atStart => exact ⟨a, b, hab, Nat.le_refl _, Nat.le_refl _, rfl, rfl, fun h => by omega, fun h => by omega, H0.out⟩
  case round =>
    obtain ⟨x, y, hxy, hax, hyb, rfl, rfl, h1, h2, hI⟩ := hrel
    have HL := Lib.hid (And.intro h1 (And.intro h2 hI))
    clear h1 h2 hI
    by_cases hq : x < y
    · obtain ⟨m, hm⟩ : ∃ m : Nat, m = x + (y - x) / 2 := ⟨_, rfl⟩
      have hm1 : x ≤ m := by omega
      have hm2 : m < y := by omega
      have q1 : (x : Int) < (y : Int) := by omega
      have e0 : IntKind.i64.wrap ((y : Int) - (x : Int)) = (y : Int) - (x : Int) := IntWalk.i64_in _ (by omega)
      have e1 : ((y : Int) - (x : Int)).tdiv 2 = ((y : Int) - (x : Int)) / 2 := Int.tdiv_eq_ediv_of_nonneg (by omega)
      have e2 : IntKind.i64.wrap (((y : Int) - (x : Int)) / 2) = ((y : Int) - (x : Int)) / 2 := IntWalk.i64_in _ (by omega)
      have e3 : (x : Int) + ((y : Int) - (x : Int)) / 2 = (m : Int) := by omega
      have e4 : IntKind.i64.wrap ((m : Int)) = (m : Int) := IntWalk.i64_in _ (by omega)
      clear hm
      cases hp : P m
      · go_wp2_with fail
        refine (HT.out m _ _ (by omega) (by omega) HL.out.2.2).mono ?_
        rw [hp]
        rintro e u ⟨rfl, hI⟩
        have HI := Lib.hid (And.intro hI hp)
        clear hI hp
        go_wp2
        go_roundw
        case rel => exact ⟨x, m, hm1, hax, by omega, rfl, by go_num, HL.out.1, fun _ => HI.out.2, HI.out.1⟩
        case measure => simp [intOf]; omega
      · go_wp2_with fail
        refine (HT.out m _ _ (by omega) (by omega) HL.out.2.2).mono ?_
        rw [hp]
        rintro e u ⟨rfl, hI⟩
        have HI := Lib.hid (And.intro hI hp)
        clear hI hp
        go_wp2
        go_roundw
        case rel => exact ⟨m + 1, y, by omega, by omega, hyb, by go_num, rfl, fun _ => HI.out.2, HL.out.2.1, HI.out.1⟩
        case measure => simp [intOf]; omega
    · obtain rfl : x = y := by omega
      have q1 : ¬ (x : Int) < (x : Int) := by omega
      go_wp2
      go_ret
      obtain ⟨h1, h2, hI⟩ := HL.out
      exact ⟨x, rfl, hax, hyb, h1, h2, hI⟩

end Go.Proofs.Ytjepgdfcjbgahaa
