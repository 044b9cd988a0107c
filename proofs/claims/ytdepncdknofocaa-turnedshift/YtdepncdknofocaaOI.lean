/- The contracts of Pairs and Stable. -/
import Derived.Test.YtdepncdknofocaaOH
set_option maxRecDepth 100000
namespace Go.Proofs.Ytdepncdknofocaa
open Go.RowKit
open M
attribute [local go_sem ↓] Go.wp_at_zero Go.wp_at_succ

/-- A pair's key. -/
def kyP (a b : List Int) (x : Int) : Int := kyI a x * 18446744073709551616 + (kyI b x + 9223372036854775808)

theorem Same.add {α : Type} {κ : α → Int} {xs ys : List α} (h : Same κ xs ys) (c : Int) : Same (fun x => κ x + c) xs ys := by
  intro k
  have e : ∀ l : List α, l.filter (fun x => decide (κ x + c = k)) = l.filter (fun x => decide (κ x = k - c)) := fun l => List.filter_congr fun x _ => by rw [decide_eq_decide]; omega
  rw [e, e, h]
theorem Pw.add {α : Type} {κ : α → Int} {ys : List α} (h : Pw κ ys) (c : Int) : Pw (fun x => κ x + c) ys := h.imp fun {a b} h => by show κ a + c ≤ κ b + c; omega

theorem ky_in {l : List Int} (h64 : I64s l) {x : Int} (hx : 0 ≤ x ∧ x < l.length) : -9223372036854775808 ≤ kyI l x ∧ kyI l x ≤ 9223372036854775807 := h64 _ (memI l x.toNat (by omega))

theorem pair_uniq {a b : List Int} {n : Nat} (hb : b.length = n) (h64 : I64s b) {outs : List Int} (h1 : Same (kyI a) (ordP (kyI b) n) outs) (h2 : Pw (kyI a) outs) : outs = ordP (kyP a b) n := by
  have := lsd (κ := fun x => kyI b x + 9223372036854775808) (δ := kyI a) (B := 18446744073709551616) (xs := plcs n) (fun x hx => by
    have := ky_in h64 (x := x) (by rw [hb]; exact plcs_mem.1 hx)
    show 0 ≤ kyI b x + 9223372036854775808 ∧ kyI b x + 9223372036854775808 < 18446744073709551616
    omega) ((ordP_same _ _).add _) ((ordP_pw _ _).add _) h1 h2
  exact isort_uniq this.1 this.2

theorem pair_eq {a b : List Int} {n : Nat} (hb : b.length = n) (h64 : I64s b) {x y : Nat} (hx : x < n) (hy : y < n) : kyP a b x = kyP a b y ↔ a.getD x 0 = a.getD y 0 ∧ b.getD x 0 = b.getD y 0 := by
  have h1 := ky_in h64 (x := (x : Int)) (by omega)
  have h2 := ky_in h64 (x := (y : Int)) (by omega)
  unfold kyP
  unfold kyI at h1 h2 ⊢
  rw [Int.toNat_natCast] at h1 h2 ⊢
  rw [Int.toNat_natCast]
  omega

/-- Two lists in their boxes. -/
structure PrX (w : World) (ka kb : Nat) (A B : Option Addr) (n ca cb : Nat) (a b : List Int) (u : World) : Prop where
  xa : KX w ka A n ca a u
  xb : KX w kb B n cb b u
variable {w u u' : World} {ka kb : Nat} {A B : Option Addr} {n ca cb : Nat} {a b : List Int}
theorem PrX.kept (h : PrX w ka kb A B n ca cb a b u) (hb : Below u.heap.size u u') : PrX w ka kb A B n ca cb a b u' := ⟨h.xa.kept hb, h.xb.kept hb⟩
theorem PrX.drew (h : PrX w ka kb A B n ca cb a b u) : PrX w ka kb A B n ca cb a b u.drew := ⟨h.xa.drew, h.xb.drew⟩

theorem eq_pair (h : PrX w ka kb A B n ca cb a b u) (h64 : I64s b) : EqC33 u (.pointer (some ⟨ka, 0, none⟩)) (.pointer (some ⟨kb, 0, none⟩)) n (kyP a b) := by
  intro v hv x y hx hy
  have hP := h.kept hv
  have c0 := hP.xa.c0
  have d0 := hP.xb.c0
  obtain ⟨bb, off, hAe, -, hax⟩ := num_at hP.xa.nums (i := x) (by rw [hP.xa.len]; exact hx)
  obtain ⟨bb2, off2, hAe2, -, hay⟩ := num_at hP.xa.nums (i := y) (by rw [hP.xa.len]; exact hy)
  obtain ⟨cc, cof, hBe, -, hbx⟩ := num_at hP.xb.nums (i := x) (by rw [hP.xb.len]; exact hx)
  obtain ⟨cc2, cof2, hBe2, -, hby⟩ := num_at hP.xb.nums (i := y) (by rw [hP.xb.len]; exact hy)
  have hpe := pair_eq (a := a) hP.xb.len h64 hx hy
  subst hAe hBe
  simp only [Option.some.injEq, Addr.mk.injEq, and_true] at hAe2 hBe2
  obtain ⟨rfl, rfl⟩ := hAe2
  obtain ⟨rfl, rfl⟩ := hBe2
  have HP := Lib.hid hpe
  clear hP h hv hpe
  generalize a.getD x 0 = a0 at *
  generalize a.getD y 0 = a1 at *
  generalize b.getD x 0 = b0 at *
  generalize b.getD y 0 = b1 at *
  have q1 : (x : Int) < (n : Int) := by omega
  have q2 : (y : Int) < (n : Int) := by omega
  have q3 : (0 : Int) ≤ (x : Int) := by omega
  have q4 : (0 : Int) ≤ (y : Int) := by omega
  by_cases hab : a0 = a1
  · subst hab
    have qa : (a0 == a0) = true := by simp
    go_enter Try.func54, Try.ntmps54
    go_wp2
    go_quiet (fail)
    go_wp2
    go_ret
    refine ⟨?_, _, rfl⟩
    show Ending.returned (.bool (b0 == b1)) = _
    congr 2
    have := HP.out
    by_cases e : b0 = b1
    · rw [decide_eq_true (this.2 ⟨trivial, e⟩)]; simpa using e
    · rw [decide_eq_false (fun h => e (this.1 h).2)]; simpa using e
  · have qa : (a0 == a1) = false := by simpa using hab
    go_enter Try.func54, Try.ntmps54
    go_wp2
    go_quiet (fail)
    go_wp2
    go_ret
    refine ⟨?_, _, rfl⟩
    rw [decide_eq_false (fun h => hab (HP.out.1 h).1)]; rfl

/-- What Pairs tells. -/
def PairsEnd (w : World) (a b : List Int) (n : Nat) (e : Ending) (u : World) : Prop :=
  ∃ D, e = .returned (.tuple #[.slice (some ⟨D, 0, none⟩) n n, .int .i64 0]) ∧ NumsAt .i64 u (some ⟨D, 0, none⟩) (rnkL (kyP a b) n) ∧ Below w.heap.size w u

theorem pairs_no (A B : Option Addr) (n m ca cb : Nat) (w : World) (h : n ≠ m) : Calls Try.prog 43 #[.slice A n ca, .slice B m cb] w fun e u => e = .returned (.tuple #[.slice none 0 0, .int .i64 1]) ∧ Below w.heap.size w u := by
  have q : ((n : Int) == (m : Int)) = false := by simp; omega
  have hne : (n : Int) ≠ (m : Int) := by omega
  go_enter Try.func43, Try.ntmps43
  go_wp2
  go_ret2
  exact ⟨rfl, boxed2 _ _ _⟩

theorem pairs_any (A B : Option Addr) (n ca cb : Nat) (a b : List Int) (w : World) (ha : NumsAt .i64 w A a) (hb : NumsAt .i64 w B b) (hla : a.length = n) (hlb : b.length = n) (hn : n ≤ 1000000) (h64a : I64s a) (h64b : I64s b) :
    Calls Try.prog 43 #[.slice A n ca, .slice B n cb] w (PairsEnd w a b n) := by
  have hA0 := KX.new w A n ca a ha hla
  obtain ⟨w0, hw0⟩ : ∃ w0, w0 = w.alloc (.cells #[.slice A n ca] 22) := ⟨_, rfl⟩
  obtain ⟨ka, hka⟩ : ∃ ka, ka = w.heap.size := ⟨_, rfl⟩
  obtain ⟨kb, hkb⟩ : ∃ kb, kb = w.heap.size + 1 := ⟨_, rfl⟩
  obtain ⟨w1, hw1⟩ : ∃ w1, w1 = w0.alloc (.cells #[.slice B n cb] 22) := ⟨_, rfl⟩
  rw [← hw0, ← hka] at hA0
  have hs0 : w0.heap.size = kb := by rw [hw0, hkb]; simp
  have hB0 := KX.new w0 B n cb b (hb.kept hA0.bel) hlb
  rw [hs0, ← hw1] at hB0
  have hb1 : Below w0.heap.size w0 w1 := by rw [hw1]; exact (Below.refl _ _).alloc (Nat.le_refl _) _
  have hA : PrX w ka kb A B n ca cb a b w1 := ⟨hA0.kept hb1, ⟨hB0.c0, hB0.nums, hB0.len, hA0.bel.trans (hb1.mono hA0.bel.size)⟩⟩
  have pl := fun u (h : PrX w ka kb A B n ca cb a b u) => (places_nums n u hn).mono fun e u' h1 => (show ∃ D, e = .returned (.slice (some ⟨D, 0, none⟩) n n) ∧ NumsAt .i64 u' (some ⟨D, 0, none⟩) (plcs n) ∧ PrX w ka kb A B n ca cb a b u' by obtain ⟨D, e1, e2, e3⟩ := h1; exact ⟨D, e1, e2, h.kept e3⟩)
  have so := fun u D (h : PrX w ka kb A B n ca cb a b u) (h2 : NumsAt .i64 u (some ⟨D, 0, none⟩) (plcs n)) => (sorted_plcs (some ⟨D, 0, none⟩) B n n cb b u h2 h.xb.nums h.xb.len (Nat.le_refl _) hn h64b).mono fun e u' h1 => (show ∃ A' cA', e = .returned (.slice A' n cA') ∧ n ≤ cA' ∧ NumsAt .i64 u' A' (ordP (kyI b) n) ∧ PrX w ka kb A B n ca cb a b u' by obtain ⟨A', cA', e1, e4, e2, e3⟩ := h1; exact ⟨A', cA', e1, e4, e2, h.kept e3⟩)
  have so2 := fun u D c (h : PrX w ka kb A B n ca cb a b u) (h2 : NumsAt .i64 u D (ordP (kyI b) n)) (hc : n ≤ c) => (sorted_all D A n c ca (ordP (kyI b) n) a (kyP a b) u h2 h.xa.nums h.xa.len hc hn h64a (ordP_length _ _) (fun _ hx => ordP_mem.1 hx) (fun _ h3 h4 => pair_uniq hlb h64b h3 h4)).mono fun e u' h1 => (show ∃ A' cA', e = .returned (.slice A' n cA') ∧ NumsAt .i64 u' A' (ordP (kyP a b) n) ∧ PrX w ka kb A B n ca cb a b u' by obtain ⟨A', cA', e1, e4, e2, e3⟩ := h1; exact ⟨A', cA', e1, e2, h.kept e3⟩)
  have PL := Lib.hid pl
  have SO := Lib.hid so
  have SO2 := Lib.hid so2
  have HA0 := Lib.hid hA
  clear ha hb hla hlb pl so so2 hA0 hB0 hb1
  go_enter Try.func43, Try.ntmps43
  go_upto_region 1 with fail
  rw [← hw0, ← hw1, ← hkb, ← hka]
  have c0 := hA.xa.c0
  have d0 := hA.xb.c0
  clear hw0 hka hkb hw1 hs0 hA
  have hA := HA0
  go_wp2
  go_region_held3 (fun w' => w'.cell? ⟨ka, 0, none⟩ = some (.slice A n ca) ∧ w'.cell? ⟨kb, 0, none⟩ = some (.slice B n cb))
    (first
      | go_keep
      | (with_reducible exact ⟨hA.out.xa.c0, hA.out.xb.c0⟩))
    (first
      | (go_at_call 36; (with_reducible refine (PL.out _ hA.out.drew).mono ?_); rintro e u ⟨D, rfl, hP, hA'⟩; have hA := Lib.hid hA'; have HP := Lib.hid hP; clear hA' hP)
      | (go_at_call 36; (with_reducible refine (PL.out _ hA.out).mono ?_); rintro e u ⟨D, rfl, hP, hA'⟩; have hA := Lib.hid hA'; have HP := Lib.hid hP; clear hA' hP)
      | (go_at_call 35; (with_reducible refine (SO.out _ _ hA.out HP.out).mono ?_); rintro e u ⟨A', cA', rfl, hc', hP, hA'⟩; have hA := Lib.hid hA'; have HQ := Lib.hid (And.intro hP hc'); clear hA' hP hc')
      | (go_at_call 35; (with_reducible refine (SO2.out _ _ _ hA.out HQ.out.1 HQ.out.2).mono ?_); rintro e u ⟨A2, cA2, rfl, hP, hA'⟩; have hA := Lib.hid hA'; have HR := Lib.hid hP; clear hA' hP))
  all_goals
    have hr := ranked33_any A2 n cA2 (kyP a b) (.pointer (some ⟨ka, 0, none⟩)) (.pointer (some ⟨kb, 0, none⟩)) u HR.out hn (eq_pair hA.out h64b)
    have HRR := Lib.hid hr
    clear hr
    go_wp2_with fail
    (with_reducible refine HRR.out.mono ?_)
    rintro e u2 ⟨D2, rfl, h1, h2⟩
    have HF := Lib.hid (And.intro h1 (hA.out.xa.bel.trans (h2.mono hA.out.xa.bel.size)))
    clear h1 h2
    go_wp2
    go_ret2
    exact ⟨D2, rfl, HF.out.1, HF.out.2⟩

/-- Keys that may be. -/
def MayS (keys : List Int) (size : Int) : Prop := 1 ≤ size ∧ size ≤ 1048576 ∧ ∀ x ∈ keys, 0 ≤ x ∧ x < size
def StabEnd (w : World) (keys : List Int) (size : Int) (n : Nat) (e : Ending) (u : World) : Prop :=
  Below w.heap.size w u ∧ ((MayS keys size ∧ ∃ A cA, n ≤ cA ∧ e = .returned (.tuple #[.slice A n cA, .int .i64 0]) ∧ NumsAt .i64 u A (ordP (kyI keys) n)) ∨ (¬ MayS keys size ∧ e = .returned (.tuple #[.slice none 0 0, .int .i64 1])))

end Go.Proofs.Ytdepncdknofocaa
