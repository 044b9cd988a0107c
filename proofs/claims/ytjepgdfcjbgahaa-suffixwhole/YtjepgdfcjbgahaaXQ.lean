/- The contract of Find. -/
import Derived.Test.YtjepgdfcjbgahaaXN
import Derived.Test.YtjepgdfcjbgahaaXH
import Derived.Laws.EntriesVeiled
set_option maxRecDepth 100000
namespace Go.Proofs.Ytjepgdfcjbgahaa
open Go.RowKit
open M
attribute [local go_sem ↓] Go.wp_at_zero Go.wp_at_succ

/-- Three lists in their boxes. -/
structure F3 (w : World) (bl bo bp : Nat) (A O P : Option Addr) (n c no co np cp : Nat) (l o p : List Int) (u : World) : Prop where
  l : KX w bl A n c l u
  o : KX w bo O no co o u
  p : KX w bp P np cp p u
theorem F3.kept {w u u' : World} {bl bo bp : Nat} {A O P : Option Addr} {n c no co np cp : Nat} {l o p : List Int} (h : F3 w bl bo bp A O P n c no co np cp l o p u) (hb : Below u.heap.size u u') : F3 w bl bo bp A O P n c no co np cp l o p u' := ⟨h.l.kept hb, h.o.kept hb, h.p.kept hb⟩

/-- How the suffix at the place that stands at i is held against p. -/
def agI (l o p : List Int) (i : Nat) : Int := cmpL (beg l (o.getD i 0) p.length) p

set_option maxHeartbeats 2000000 in
theorem against_any (bl bo bp : Nat) (A O P : Option Addr) (n c no co np cp : Nat) (l o p : List Int) (w u : World) (h : F3 w bl bo bp A O P n c no co np cp l o p u) (hc : n ≤ c) (hn : n ≤ 1000000) (hnp : np ≤ 1000000) (hAn : A = none → c = 0) (i : Nat) (hi : i < no) :
    Calls Try.prog 29 #[.int .i64 (i : Int), .pointer (some ⟨bl, 0, none⟩), .pointer (some ⟨bo, 0, none⟩), .pointer (some ⟨bp, 0, none⟩)] u fun e u' => e = .returned (.int .i64 (agI l o p i)) ∧ ∃ m, u' = u.drewN m := by
  unfold agI
  have hpl := h.p.len
  obtain ⟨B, k, cb, hB, hk, hk1, hcall⟩ := begin_any A n c l (o.getD i 0) p.length u h.l.nums h.l.len hc hn (by rw [hpl]; exact hnp) hAn
  rw [hpl] at hB hk hcall ⊢
  obtain ⟨ob, oo, hOe, -, ci⟩ := num_at h.o.nums (i := i) (by rw [h.o.len]; exact hi)
  obtain ⟨x, hx⟩ : ∃ x, o.getD i 0 = x := ⟨_, rfl⟩
  rw [hx] at hB hk hcall ci ⊢
  have hcm := fun m => scmp_any B P k np cb cp (beg l x np) p (u.drewN m) (hB.kept (below_drewN u m)) (h.p.nums.kept (below_drewN u m)) hk hpl hk1 hnp
  generalize cmpL (beg l x np) p = z at *
  have c1 := h.l.c0
  have c2 := h.o.c0
  have c3 := h.p.c0
  have HC := Lib.hid (And.intro hcall hcm)
  subst hOe
  clear h hB hk hcall hcm hx hpl
  have q1 : (i : Int) < (no : Int) := by omega
  have q2 : (0 : Int) ≤ (i : Int) := by omega
  go_enter Try.func29, Try.ntmps29
  go_wp2
  go_quiet (first | (go_at_call 31; refine Calls.quiet_of_same (HC.out.1 _)) | (go_at_call 30; refine Calls.quiet_of_same (HC.out.2 _)))
  go_wp2
  go_ret
  exact ⟨rfl, _, rfl⟩

/-- .. and the closure that holds them. -/
structure F4 (w : World) (bc bl bo bp : Nat) (A O P : Option Addr) (n c no co np cp : Nat) (l o p : List Int) (u : World) : Prop where
  f : F3 w bl bo bp A O P n c no co np cp l o p u
  c0 : u.cell? ⟨bc, 0, none⟩ = some (.func (.func 29) #[] #[.pointer (some ⟨bl, 0, none⟩), .pointer (some ⟨bo, 0, none⟩), .pointer (some ⟨bp, 0, none⟩)])
theorem F4.kept {w u u' : World} {bc bl bo bp : Nat} {A O P : Option Addr} {n c no co np cp : Nat} {l o p : List Int} (h : F4 w bc bl bo bp A O P n c no co np cp l o p u) (hb : Below u.heap.size u u') : F4 w bc bl bo bp A O P n c no co np cp l o p u' :=
  ⟨h.f.kept hb, by rw [hb.cell (p := ⟨bc, 0, none⟩) (World.block_lt_of_cell? u _ h.c0)]; exact h.c0⟩

theorem low_any (bc bl bo bp : Nat) (A O P : Option Addr) (n c no co np cp : Nat) (l o p : List Int) (w u : World) (h : F4 w bc bl bo bp A O P n c no co np cp l o p u) (hc : n ≤ c) (hn : n ≤ 1000000) (hnp : np ≤ 1000000) (hAn : A = none → c = 0) (i : Nat) (hi : i < no) :
    Calls Try.prog 33 #[.int .i64 (i : Int), .pointer (some ⟨bc, 0, none⟩)] u fun e u' => e = .returned (.bool (decide (agI l o p i < 0))) ∧ ∃ m, u' = u.drewN m := by
  have ha := against_any bl bo bp A O P n c no co np cp l o p w u h.f hc hn hnp hAn i hi
  have c0 := h.c0
  generalize agI l o p i = z at *
  have HA := Lib.hid ha
  clear h ha
  go_enter Try.func33, Try.ntmps33
  go_wp2_with fail
  (with_reducible refine HA.out.mono ?_)
  rintro e u1 ⟨rfl, m, rfl⟩
  go_wp2
  go_ret
  exact ⟨rfl, m, rfl⟩

theorem lowe_any (bc bl bo bp : Nat) (A O P : Option Addr) (n c no co np cp : Nat) (l o p : List Int) (w u : World) (h : F4 w bc bl bo bp A O P n c no co np cp l o p u) (hc : n ≤ c) (hn : n ≤ 1000000) (hnp : np ≤ 1000000) (hAn : A = none → c = 0) (i : Nat) (hi : i < no) :
    Calls Try.prog 34 #[.int .i64 (i : Int), .pointer (some ⟨bc, 0, none⟩)] u fun e u' => e = .returned (.bool (decide (agI l o p i ≤ 0))) ∧ ∃ m, u' = u.drewN m := by
  have ha := against_any bl bo bp A O P n c no co np cp l o p w u h.f hc hn hnp hAn i hi
  have c0 := h.c0
  generalize agI l o p i = z at *
  have HA := Lib.hid ha
  clear h ha
  go_enter Try.func34, Try.ntmps34
  go_wp2_with fail
  (with_reducible refine HA.out.mono ?_)
  rintro e u1 ⟨rfl, m, rfl⟩
  go_wp2
  go_ret
  exact ⟨rfl, m, rfl⟩

/-- What Find tells. -/
def FindEnd (w : World) (l o p : List Int) (e : Ending) (u : World) : Prop :=
  ∃ f t : Nat, e = .returned (.tuple #[.int .i64 (f : Int), .int .i64 (t : Int)]) ∧ f ≤ t ∧ t ≤ o.length ∧ (0 < f → agI l o p (f - 1) < 0) ∧ (f < o.length → ¬ agI l o p f < 0) ∧ (f < t → agI l o p (t - 1) ≤ 0) ∧ (t < o.length → ¬ agI l o p t ≤ 0) ∧ Below w.heap.size w u

set_option maxHeartbeats 2000000 in
theorem find_any (A O P : Option Addr) (n c no co np cp : Nat) (l o p : List Int) (w : World) (hA : NumsAt .i64 w A l) (hO : NumsAt .i64 w O o) (hP : NumsAt .i64 w P p) (hl : l.length = n) (ho : o.length = no) (hp : p.length = np) (hc : n ≤ c) (hn : n ≤ 1000000) (hno : no ≤ 1000000) (hnp : np ≤ 1000000) (hAn : A = none → c = 0) :
    Calls Try.prog 18 #[.slice A n c, .slice O no co, .slice P np cp] w (FindEnd w l o p) := by
  obtain ⟨b, hb⟩ : ∃ b, b = w.heap.size := ⟨_, rfl⟩
  have h1 := KX.new w A n c l hA hl
  obtain ⟨w1, hw1⟩ : ∃ w1, w1 = w.alloc (.cells #[.slice A n c] 22) := ⟨_, rfl⟩
  have s1 : w1.heap.size = b + 1 := by rw [hw1, hb]; exact World.size_alloc _ _
  rw [← hw1, ← hb] at h1
  have h2 := (KX.new w1 O no co o (hO.kept h1.bel) ho).of h1.bel
  obtain ⟨w2, hw2⟩ : ∃ w2, w2 = w1.alloc (.cells #[.slice O no co] 22) := ⟨_, rfl⟩
  have s2 : w2.heap.size = b + 1 + 1 := by rw [hw2, ← s1]; exact World.size_alloc _ _
  have h1' := h1.kept (al w1 (.cells #[.slice O no co] 22))
  rw [← hw2] at h2 h1'
  rw [s1] at h2
  have h3 := (KX.new w2 P np cp p (hP.kept h2.bel) hp).of h2.bel
  obtain ⟨w3, hw3⟩ : ∃ w3, w3 = w2.alloc (.cells #[.slice P np cp] 22) := ⟨_, rfl⟩
  have s3 : w3.heap.size = b + 1 + 1 + 1 := by rw [hw3, ← s2]; exact World.size_alloc _ _
  have h1'' := h1'.kept (al w2 (.cells #[.slice P np cp] 22))
  have h2' := h2.kept (al w2 (.cells #[.slice P np cp] 22))
  rw [← hw3] at h3 h1'' h2'
  rw [s2] at h3
  have hF3 : F3 w b (b + 1) (b + 1 + 1) A O P n c no co np cp l o p w3 := ⟨h1'', h2', h3⟩
  obtain ⟨w4, hw4⟩ : ∃ w4, w4 = w3.alloc (.cells #[.func (.func 29) #[] #[.pointer (some ⟨b, 0, none⟩), .pointer (some ⟨b + 1, 0, none⟩), .pointer (some ⟨b + 1 + 1, 0, none⟩)]] 47) := ⟨_, rfl⟩
  have hF4 : F4 w (b + 1 + 1 + 1) b (b + 1) (b + 1 + 1) A O P n c no co np cp l o p w4 := ⟨by rw [hw4]; exact hF3.kept (al _ _), by rw [hw4, cell_new _ _ _ _ _ s3.symm]; rfl⟩
  have hh := fun (a : Nat) (ha : a ≤ no) (u : World) (hu : F4 w (b + 1 + 1 + 1) b (b + 1) (b + 1 + 1) A O P n c no co np cp l o p u) => halved_any 34 #[.pointer (some ⟨b + 1 + 1 + 1, 0, none⟩)] a no (fun i => decide (agI l o p i ≤ 0)) (F4 w (b + 1 + 1 + 1) b (b + 1) (b + 1 + 1) A O P n c no co np cp l o p) u ent34 ha (by omega) hu (fun i x u hi hx hu => by
    subst hx
    exact (lowe_any (b + 1 + 1 + 1) b (b + 1) (b + 1 + 1) A O P n c no co np cp l o p w u hu hc hn hnp hAn i hi).mono fun e u' ⟨h1, m, h2⟩ => ⟨h1, by rw [h2]; exact hu.kept (below_drewN _ _)⟩)
  have hh0 : Calls Try.prog 32 #[.int .i64 0, .int .i64 (no : Int), .func (.func 33) #[] #[.pointer (some ⟨b + 1 + 1 + 1, 0, none⟩)]] w4 (HalfEnd 0 no (fun i => decide (agI l o p i < 0)) (F4 w (b + 1 + 1 + 1) b (b + 1) (b + 1 + 1) A O P n c no co np cp l o p)) := halved_any 33 #[.pointer (some ⟨b + 1 + 1 + 1, 0, none⟩)] 0 no (fun i => decide (agI l o p i < 0)) (F4 w (b + 1 + 1 + 1) b (b + 1) (b + 1 + 1) A O P n c no co np cp l o p) w4 ent33 (Nat.zero_le _) (by omega) hF4 (fun i x u hi hx hu => by
    subst hx
    exact (low_any (b + 1 + 1 + 1) b (b + 1) (b + 1 + 1) A O P n c no co np cp l o p w u hu hc hn hnp hAn i hi).mono fun e u' ⟨h1, m, h2⟩ => ⟨h1, by rw [h2]; exact hu.kept (below_drewN _ _)⟩)
  have HH := Lib.hid (And.intro hF4 (And.intro hh0 (And.intro hh ho)))
  have c1 := hF4.f.o.c0
  clear hA hO hP hl ho hp h1 h1' h1'' h2 h2' h3 hF3 hF4 hh hh0 s1 s2 s3
  go_enter Try.func18, Try.ntmps18
  go_upto_region 2 with fail
  rw [← hw1, ← hw2, ← hw3, ← hb, ← hw4]
  clear hw1 hw2 hw3 hw4 hb
  go_wp2_with fail
  (with_reducible refine HH.out.2.1.mono ?_)
  rintro e u1 ⟨f, rfl, -, hf, hf1, hf2, hF⟩
  have c2 := hF.f.o.c0
  have h34 := HH.out.2.2.1 f hf u1 hF
  have H1 := Lib.hid (And.intro hf1 (And.intro hf2 (And.intro hF h34)))
  clear hf1 hf2 hF h34 c1
  go_wp2_with fail
  (with_reducible refine H1.out.2.2.2.mono ?_)
  rintro e u2 ⟨t, rfl, hft, ht, ht1, ht2, hF⟩
  have H2 := Lib.hid (And.intro ht1 (And.intro ht2 hF))
  clear ht1 ht2 hF c2
  go_wp2
  go_ret2
  obtain ⟨ht1, ht2, hF⟩ := H2.out
  obtain ⟨hf1, hf2, -, -⟩ := H1.out
  simp only [decide_eq_true_eq, decide_eq_false_iff_not] at ht1 ht2 hf1 hf2
  rw [← HH.out.2.2.2] at ht ht2 hf2
  exact ⟨f, t, rfl, hft, ht, hf1, hf2, ht1, ht2, hF.f.l.bel⟩

end Go.Proofs.Ytjepgdfcjbgahaa
