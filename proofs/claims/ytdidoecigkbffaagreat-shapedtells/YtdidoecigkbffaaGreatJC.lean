/- The contracts of the library's Clone of heaps and of the closure that picks the lightest heap. -/
import Derived.Test.YtdidoecigkbffaaGreatJB
set_option maxRecDepth 100000
namespace Go.Proofs.YtdidoecigkbffaaGreat
open Go.RowKit
open S

set_option maxHeartbeats 1000000 in
theorem clone_any (base : Nat) (u : World) (v : Value) (ys : List Hp) (h : HRow base u v ys) (hn : ys.length ≤ 39) :
    Calls Tryz.prog 75 #[v] u fun e u' => ∃ v', e = .returned v' ∧ u'.ownsRow u.heap.size 81 3 v' ys.length (ys.flatMap hcl) ∧ Below u.heap.size u u' := by
  have q59 : ∀ (w : World) (a : Option Addr) (n c n' c' : Nat), (binOp .eql 77 (.slice a n c) (.slice none n' c')).run Tryz.prog w = .ok (.bool a.isNone) w := fun w a n c n' c' => Lib.run_eql_slice_nil w _ _ a n c n' c' Tryz.underlying77
  rcases h with ⟨rfl, rfl⟩ | ⟨g, cap, rfl, -, hpos, hc1, hc2, hcell⟩
  · go_enter Tryz.func75, Tryz.ntmps75
    go_wp2
    go_ret
    exact ⟨_, rfl, World.ownsRow_nil _ _ _ _, Below.refl _ _⟩
  · have hsrc : ∀ (W : World), (∀ p : Addr, p.block < u.heap.size → W.cell? p = u.cell? p) → ∀ j x, (ys.flatMap hcl)[j]? = some x → W.cell? ((⟨g, 0, none⟩ : Addr).add j) = some x := by
      intro W hW j x hx
      have hadd : (⟨g, 0, none⟩ : Addr).add j = ⟨g, j, none⟩ := by unfold Addr.add; split <;> simp_all
      rw [hadd]
      have hj : j < ys.length * 3 := by
        have := (List.getElem?_eq_some_iff.1 hx).1
        rw [hcl_length] at this; exact this
      obtain ⟨c0, c1, c2⟩ := hcell (j / 3) (by omega)
      obtain ⟨d0, d1, d2⟩ := hcl_at ys (j / 3) (by omega)
      have hl := World.block_lt_of_cell? u _ c0
      have h3 : j = j / 3 * 3 ∨ j = j / 3 * 3 + 1 ∨ j = j / 3 * 3 + 2 := by omega
      rw [hW ⟨g, j, none⟩ hl]
      rcases h3 with e | e | e <;> rw [e] at hx ⊢
      · rw [c0, ← d0]; exact hx
      · rw [c1, ← d1]; exact hx
      · rw [c2, ← d2]; exact hx
    have HS := Lib.hid hsrc
    clear hsrc hcell
    obtain ⟨i0, hi, hz0, hz1, hz2⟩ := info_parts info81
    go_enter Tryz.func75, Tryz.ntmps75
    go_wp2_with (first
      | (at_builtin
         refine wpList_append_own_at _ rfl (.tmp 5) (.tmp 6) 77 rfl u.heap.size 81 i0 (.agg #[.int .i64 0, .int .i64 0, .int .i64 0]) 3 24 Tryz.underlying77 hi hz0 hz1 hz2 rfl (by omega) _ 0 [] rfl (World.ownsRow_made u #[] 0 (Nat.le_refl _) (Nat.zero_le _) rfl) ⟨g, 0, none⟩ ys.length cap (ys.flatMap hcl) rfl (hcl_length ys) ?c1 ?c5 ?c2 ?c3 ?c4 ?_))
    case c1 => exact HS.out _ (fun p hp => World.cell?_of_block (Below.heap_alloc _ _ _ hp))
    case c5 =>
      intro x hx
      obtain ⟨y, -, hy⟩ := List.mem_flatMap.1 hx
      simp only [hcl, List.mem_cons, List.not_mem_nil, or_false] at hy
      rcases hy with rfl | rfl | rfl <;> rfl
    case c2 => unfold maxLen; omega
    case c3 => omega
    case c4 => simp
    intro v9 w5 hown hgrow _ hat
    have hb5 : Below u.heap.size u w5 := ((Below.refl _ _).alloc (Nat.le_refl _) _).grown hgrow (by simp) (fun r hr => by simp [Value.ownBlock] at hr; omega)
    have HR := Lib.hid (And.intro hown hb5)
    clear hown hgrow hat hb5 hi hz0 hz1 hz2
    go_wp2
    go_ret
    exact ⟨_, rfl, by have := HR.out.1; simpa using this, HR.out.2⟩

/-- Is the next lone heap the lightest one? -/
def pickB (L a b T : Nat) (W : Nat → Int) : Bool := decide (a < L ∧ (b = T ∨ W a ≤ W b))

/-- What the closure reads: both counters, both rows, the weights. -/
structure LI (nb ab lb hb g : Nat) (L a b T cap : Nat) (lv : Value) (W : Nat → Int) (u : World) : Prop where
  cn : u.cell? ⟨nb, 0, none⟩ = some (.int .i64 (b : Int))
  ca : u.cell? ⟨ab, 0, none⟩ = some (.int .i64 (a : Int))
  cl : u.cell? ⟨lb, 0, none⟩ = some lv
  ch : u.cell? ⟨hb, 0, none⟩ = some (.slice (some ⟨g, 0, none⟩) T cap)
  zn : u.frozen? ⟨nb, 0, none⟩ = false
  za : u.frozen? ⟨ab, 0, none⟩ = false
  wt : ∀ k, k < T → u.cell? ⟨g, k * 3 + 1, none⟩ = some (.int .i64 (W k))

set_option maxHeartbeats 2000000 in
theorem light_any (nb ab lb hb g L a b T cap lcap : Nat) (la : Option Addr) (W : Nat → Int) (u : World) (h : LI nb ab lb hb g L a b T cap (.slice la L lcap) W u) (hb' : b ≤ T) (hLT : L ≤ T) (hT : T ≤ 1000000) :
    Calls Tryz.prog 76 #[.pointer (some ⟨nb, 0, none⟩), .pointer (some ⟨ab, 0, none⟩), .pointer (some ⟨lb, 0, none⟩), .pointer (some ⟨hb, 0, none⟩)] u fun e u' =>
      (pickB L a b T W = true → e = .returned (.int .i64 (a : Int)) ∧ ∃ n, u' = (u.drewN n).setCell ⟨ab, 0, none⟩ (.int .i64 ((a : Int) + 1))) ∧
      (pickB L a b T W = false → e = .returned (.int .i64 (b : Int)) ∧ ∃ n, u' = (u.drewN n).setCell ⟨nb, 0, none⟩ (.int .i64 ((b : Int) + 1))) := by
  obtain ⟨cn, ca, cl, ch, zn, za, wt⟩ := h
  have hund : undef = Value.tuple #[] := rfl
  by_cases h1 : a < L
  · have q1 : (a : Int) < (L : Int) := by omega
    by_cases h2 : b = T
    · subst h2
      have HP := Lib.hid (show pickB L a b b W = true by simp [pickB, h1])
      have q2 : ((b : Int) == (b : Int)) = true := by simp
      clear wt
      go_enter Tryz.func76, Tryz.ntmps76
      go_wp2
      go_big_region
      all_goals go_wp2
      go_ret
      exact ⟨fun _ => ⟨rfl, 1, rfl⟩, fun e => by rw [HP.out] at e; cases e⟩
    · have q2 : ((b : Int) == (T : Int)) = false := by simp; omega
      have hbT : b < T := by omega
      have c1 := wt a (by omega)
      have c2 := wt b hbT
      have q3 : (a : Int) < (T : Int) := by omega
      have q4 : (b : Int) < (T : Int) := by omega
      have q5 : (0 : Int) ≤ (a : Int) := by omega
      have q6 : (0 : Int) ≤ (b : Int) := by omega
      clear wt
      by_cases h3 : W a ≤ W b
      · have HP := Lib.hid (show pickB L a b T W = true by simp [pickB, h1, h3])
        have q7 : decide (W a ≤ W b) = true := decide_eq_true h3
        generalize W a = x at *
        generalize W b = y at *
        go_enter Tryz.func76, Tryz.ntmps76
        go_wp2
        go_big_region
        all_goals go_wp2
        go_ret
        exact ⟨fun _ => ⟨rfl, 1, rfl⟩, fun e => by rw [HP.out] at e; cases e⟩
      · have HP := Lib.hid (show pickB L a b T W = false by simp [pickB, h2, h3])
        have q7 : decide (W a ≤ W b) = false := decide_eq_false h3
        have q8 : ¬ W a ≤ W b := h3
        generalize W a = x at *
        generalize W b = y at *
        go_enter Tryz.func76, Tryz.ntmps76
        go_wp2
        go_big_region
        all_goals go_wp2
        go_ret
        exact ⟨(fun e => by rw [HP.out] at e; cases e), fun _ => ⟨rfl, 1, rfl⟩⟩
  · have q1 : decide ((a : Int) < (L : Int)) = false := decide_eq_false (by omega)
    have q1' : ¬ (a : Int) < (L : Int) := by omega
    have HP := Lib.hid (show pickB L a b T W = false by simp [pickB, h1])
    clear wt
    go_enter Tryz.func76, Tryz.ntmps76
    go_wp2
    go_big_region
    all_goals go_wp2
    go_ret
    exact ⟨(fun e => by rw [HP.out] at e; cases e), fun _ => ⟨rfl, 1, rfl⟩⟩

end Go.Proofs.YtdidoecigkbffaaGreat
