/- The contracts of Ranks, Pairs and Stable. -/
import Derived.Test.YtdepncdknofocaaOG
set_option maxRecDepth 100000
namespace Go.Proofs.Ytdepncdknofocaa
open Go.RowKit
open M
attribute [local go_sem ↓] Go.wp_at_zero Go.wp_at_succ

/-- A list in its box. -/
structure KX (w : World) (kb : Nat) (K : Option Addr) (n cK : Nat) (keys : List Int) (u : World) : Prop where
  c0 : u.cell? ⟨kb, 0, none⟩ = some (.slice K n cK)
  nums : NumsAt .i64 u K keys
  len : keys.length = n
  bel : Below w.heap.size w u
variable {w u u' : World} {kb : Nat} {K : Option Addr} {n cK : Nat} {keys : List Int}
theorem KX.kept (h : KX w kb K n cK keys u) (hb : Below u.heap.size u u') : KX w kb K n cK keys u' :=
  ⟨by rw [hb.cell (p := ⟨kb, 0, none⟩) (World.block_lt_of_cell? u _ h.c0)]; exact h.c0, h.nums.kept hb, h.len, h.bel.trans (hb.mono h.bel.size)⟩
theorem KX.drew (h : KX w kb K n cK keys u) : KX w kb K n cK keys u.drew := h.kept ((Below.refl _ _).drew)
theorem KX.new (w : World) (K : Option Addr) (n cK : Nat) (keys : List Int) (h : NumsAt .i64 w K keys) (hl : keys.length = n) : KX w w.heap.size K n cK keys (w.alloc (.cells #[.slice K n cK] 22)) := by
  have hb : Below w.heap.size w (w.alloc (.cells #[.slice K n cK] 22)) := (Below.refl _ _).alloc (Nat.le_refl _) _
  exact ⟨by rw [cell_new _ _ _ _ _ rfl]; rfl, h.kept hb, hl, hb⟩

theorem places_nums (n : Nat) (w : World) (hn : n ≤ 1000000) : Calls Try.prog 36 #[.int .i64 (n : Int)] w fun e u => ∃ D, e = .returned (.slice (some ⟨D, 0, none⟩) n n) ∧ NumsAt .i64 u (some ⟨D, 0, none⟩) (plcs n) ∧ Below w.heap.size w u :=
  (places_any n w hn).mono fun _ _ ⟨D, h1, h2⟩ => ⟨D, h1, h2.nums (plcs_length n) (fun i hi => (plcs_at n i hi).symm), h2.bel⟩

/-- Sorted tells all places in order. -/
theorem sorted_all (A K : Option Addr) (n cA cK : Nat) (ins keys : List Int) (κ : Int → Int) (w : World) (hx : NumsAt .i64 w A ins) (hk : NumsAt .i64 w K keys) (hm : keys.length = n) (hcA : n ≤ cA) (hn : n ≤ 1000000) (h64 : I64s keys) (hl : ins.length = n) (hin : ∀ x ∈ ins, 0 ≤ x ∧ x < n) (hκ : ∀ outs, Same (kyI keys) ins outs → Pw (kyI keys) outs → outs = ordP κ n) :
    Calls Try.prog 35 #[.slice A n cA, .slice K n cK] w fun e u => ∃ A' cA', e = .returned (.slice A' n cA') ∧ n ≤ cA' ∧ NumsAt .i64 u A' (ordP κ n) ∧ Below w.heap.size w u :=
  (sorted_any A K n cA n cK ins keys w hx hl hk hm hcA hn hn h64 hin).mono fun _ _ ⟨A', cA', outs, h1, h2, h3, h4, h5, h6⟩ => ⟨A', cA', by rw [h1, hl], by rw [hl] at h2; exact h2, by rw [hκ outs h4 h5] at h3; exact h3, h6⟩

theorem sorted_plcs (A K : Option Addr) (n cA cK : Nat) (keys : List Int) (w : World) (hx : NumsAt .i64 w A (plcs n)) (hk : NumsAt .i64 w K keys) (hm : keys.length = n) (hcA : n ≤ cA) (hn : n ≤ 1000000) (h64 : I64s keys) :
    Calls Try.prog 35 #[.slice A n cA, .slice K n cK] w fun e u => ∃ A' cA', e = .returned (.slice A' n cA') ∧ n ≤ cA' ∧ NumsAt .i64 u A' (ordP (kyI keys) n) ∧ Below w.heap.size w u :=
  sorted_all A K n cA cK (plcs n) keys (kyI keys) w hx hk hm hcA hn h64 (plcs_length n) (fun _ hx => plcs_mem.1 hx) (fun _ h1 h2 => isort_uniq h1 h2)

theorem eq_closure (kb : Nat) (K : Option Addr) (n cK : Nat) (keys : List Int) (w : World) (h : KX w kb K n cK keys u) : EqC32 u (.pointer (some ⟨kb, 0, none⟩)) n (kyI keys) := by
  intro v hv x y hx hy
  have hK := h.kept hv
  have c0 := hK.c0
  obtain ⟨bb, off, hAe, -, hcx⟩ := num_at hK.nums (i := x) (by rw [hK.len]; exact hx)
  obtain ⟨bb2, off2, hAe2, -, hcy⟩ := num_at hK.nums (i := y) (by rw [hK.len]; exact hy)
  subst hAe
  simp only [Option.some.injEq, Addr.mk.injEq, and_true] at hAe2
  obtain ⟨rfl, rfl⟩ := hAe2
  have e1 : kyI keys (x : Int) = keys.getD x 0 := by unfold kyI; rw [Int.toNat_natCast]
  have e2 : kyI keys (y : Int) = keys.getD y 0 := by unfold kyI; rw [Int.toNat_natCast]
  rw [e1, e2]
  clear hK e1 e2 h hv
  generalize keys.getD x 0 = a at *
  generalize keys.getD y 0 = b at *
  have q1 : (x : Int) < (n : Int) := by omega
  have q2 : (y : Int) < (n : Int) := by omega
  have q3 : (0 : Int) ≤ (x : Int) := by omega
  have q4 : (0 : Int) ≤ (y : Int) := by omega
  go_enter Try.func38, Try.ntmps38
  go_wp2
  go_quiet (fail)
  go_wp2
  go_ret
  refine ⟨?_, _, rfl⟩
  show Ending.returned (.bool (a == b)) = _
  rfl

/-- What Ranks tells. -/
theorem ranks_any (K : Option Addr) (n cK : Nat) (keys : List Int) (w : World) (hk : NumsAt .i64 w K keys) (hl : keys.length = n) (hn : n ≤ 1000000) (h64 : I64s keys) :
    Calls Try.prog 28 #[.slice K n cK] w (RankEnd w (kyI keys) n) := by
  have hA0 := KX.new w K n cK keys hk hl
  obtain ⟨kb, hkb⟩ : ∃ kb, kb = w.heap.size := ⟨_, rfl⟩
  obtain ⟨w0, hw0⟩ : ∃ w0, w0 = w.alloc (.cells #[.slice K n cK] 22) := ⟨_, rfl⟩
  rw [← hw0] at hA0
  have hA : KX w kb K n cK keys w0 := by rw [hkb]; exact hA0
  have pl := fun u (h : KX w kb K n cK keys u) => (places_nums n u hn).mono fun e u' h1 => (show ∃ D, e = .returned (.slice (some ⟨D, 0, none⟩) n n) ∧ NumsAt .i64 u' (some ⟨D, 0, none⟩) (plcs n) ∧ KX w kb K n cK keys u' by obtain ⟨D, e1, e2, e3⟩ := h1; exact ⟨D, e1, e2, h.kept e3⟩)
  have so := fun u D (h : KX w kb K n cK keys u) (h2 : NumsAt .i64 u (some ⟨D, 0, none⟩) (plcs n)) => (sorted_plcs (some ⟨D, 0, none⟩) K n n cK keys u h2 h.nums h.len (Nat.le_refl _) hn h64).mono fun e u' h1 => (show ∃ A' cA', e = .returned (.slice A' n cA') ∧ NumsAt .i64 u' A' (ordP (kyI keys) n) ∧ KX w kb K n cK keys u' by obtain ⟨A', cA', e1, -, e2, e3⟩ := h1; exact ⟨A', cA', e1, e2, h.kept e3⟩)
  have PL := Lib.hid pl
  have SO := Lib.hid so
  have HA0 := Lib.hid hA
  clear hk hl pl so hA0
  go_enter Try.func28, Try.ntmps28
  go_upto_region 1 with fail
  rw [← hw0, ← hkb]
  clear hkb hw0
  have c0 := hA.c0
  have hA := HA0
  go_region_held3 (fun w' => w'.cell? ⟨kb, 0, none⟩ = some (.slice K n cK))
    (first
      | go_keep
      | (with_reducible exact hA.out.c0))
    (first
      | (go_at_call 36; (with_reducible refine (PL.out _ hA.out.drew).mono ?_); rintro e u ⟨D, rfl, hP, hA'⟩; have hA := Lib.hid hA'; have HP := Lib.hid hP; clear hA' hP)
      | (go_at_call 36; (with_reducible refine (PL.out _ hA.out).mono ?_); rintro e u ⟨D, rfl, hP, hA'⟩; have hA := Lib.hid hA'; have HP := Lib.hid hP; clear hA' hP)
      | (go_at_call 35; (with_reducible refine (SO.out _ _ hA.out HP.out).mono ?_); rintro e u ⟨A', cA', rfl, hP, hA'⟩; have hA := Lib.hid hA'; have HQ := Lib.hid hP; clear hA' hP))
  all_goals
    have hr := ranked32_any A' n cA' (kyI keys) (.pointer (some ⟨kb, 0, none⟩)) u HQ.out hn (eq_closure kb K n cK keys w hA.out)
    have HR := Lib.hid hr
    clear hr
    go_wp2_with fail
    (with_reducible refine HR.out.mono ?_)
    rintro e u2 ⟨D2, rfl, h1, h2⟩
    have HF := Lib.hid (And.intro h1 (hA.out.bel.trans (h2.mono hA.out.bel.size)))
    clear h1 h2
    go_wp2
    go_ret
    exact ⟨D2, rfl, HF.out.1, HF.out.2⟩

end Go.Proofs.Ytdepncdknofocaa
