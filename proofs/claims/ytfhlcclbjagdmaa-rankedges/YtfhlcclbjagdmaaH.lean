/- The contracts of sameWords and Same. -/
import Derived.Test.YtfhlcclbjagdmaaG
namespace Go.Proofs.Ytfhlcclbjagdmaa
open Go.RowKit
open M

theorem wd_ext (l1 l2 : List Bool) (h : l1.length = l2.length) (hw : ∀ k, k < nw l1.length → wd l1 k = wd l2 k) : l1 = l2 := by
  apply List.ext_getElem h
  intro i h1 h2
  have e := hw (i / 64) (by unfold nw; omega)
  have b1 := wd_bit l1 (i / 64) (i % 64) (by omega)
  have b2 := wd_bit l2 (i / 64) (i % 64) (by omega)
  rw [show 64 * (i / 64) + i % 64 = i by omega] at b1 b2
  rw [e, b2] at b1
  simpa [List.getD_eq_getElem?_getD, h1, h2] using b1.symm

theorem RowAt.some {w : World} {a0 : Option Addr} {m cap : Nat} {l : List Bool} (h : RowAt w (.slice a0 m cap) l) :
    m = nw l.length ∧ m ≤ cap ∧ cap ≤ maxLen ∧ ∀ k, k < m → ∃ g, a0 = some ⟨g, 0, none⟩ ∧ w.cell? ⟨g, k, none⟩ = some (.int .u64 (wd l k : Nat)) := by
  rcases h.form with ⟨rfl, hs⟩ | ⟨g, cap', hs, g1, g2, g3, g4⟩
  · simp only [Value.slice.injEq] at hs
    obtain ⟨rfl, rfl, rfl⟩ := hs
    exact ⟨rfl, by omega, by unfold maxLen; omega, fun k hk => by omega⟩
  · simp only [Value.slice.injEq] at hs
    obtain ⟨rfl, rfl, rfl⟩ := hs
    exact ⟨rfl, g1, g2, fun k hk => ⟨g, rfl, g4 k hk⟩⟩

theorem ret_bool {b c : Bool} (h : b = c) : Ending.returned (.bool b) = .returned (.bool c) := by rw [h]

set_option maxHeartbeats 1000000 in
theorem sameWords_any (a1 a2 : Option Addr) (m1 c1 m2 c2 : Nat) (l1 l2 : List Bool) (w : World) (h1 : RowAt w (.slice a1 m1 c1) l1) (h2 : RowAt w (.slice a2 m2 c2) l2) (hl : l1.length = l2.length) (hb : l1.length ≤ 1000000000) :
    Calls Try.prog 35 #[.slice a1 m1 c1, .slice a2 m2 c2] w fun e w' => e = .returned (.bool (decide (l1 = l2))) ∧ w = w' := by
  obtain ⟨e1, f1, g1, k1⟩ := h1.some
  obtain ⟨e2, f2, g2, k2⟩ := h2.some
  have em : m2 = m1 := by rw [e1, e2, hl]
  subst em
  have hm : m2 ≤ 1000000000 := by rw [e1]; unfold nw; omega
  unfold maxLen at g1 g2
  have K1 := Lib.hid k1
  have K2 := Lib.hid k2
  have HL := Lib.hid hl
  have E1 := Lib.hid e1
  clear h1 h2 k1 k2 hl e1 e2
  go_enter Try.func35, Try.ntmps35
  go_wp2
  go_loop [14] (fun v => ∃ i : Nat, i ≤ m2 ∧ v = .int .i64 (i : Int) ∧ ∀ k, k < i → wd l1 k = wd l2 k) (fun v => m2 - (intOf v).toNat)
  case atStart => exact ⟨0, Nat.zero_le _, rfl, fun k hk => absurd hk (by omega)⟩
  case round =>
    obtain ⟨i, hi, rfl, hall⟩ := hrel
    have HA := Lib.hid hall
    clear hall
    by_cases hlt : i < m2
    · obtain ⟨x1, rfl, d1⟩ := K1.out i hlt
      obtain ⟨x2, rfl, d2⟩ := K2.out i hlt
      by_cases he : wd l1 i = wd l2 i
      · have hall2 : ∀ k, k < i + 1 → wd l1 k = wd l2 k := fun k hk => by
          by_cases e : k = i
          · subst e; exact he
          · exact HA.out k (by omega)
        have HA2 := Lib.hid hall2
        rw [← he] at d2
        clear he hall2
        generalize hy : wd l1 i = y at d1 d2
        clear hy
        go_wp2
        go_round
        case rel => exact ⟨i + 1, by omega, by go_num, HA2.out⟩
        case measure => simp [intOf]; omega
      · have hne : l1 ≠ l2 := fun e => he (by rw [e])
        have HNE := Lib.hid hne
        clear hne
        have hb : ((wd l1 i : Int) != (wd l2 i : Int)) = true := by simp; omega
        generalize wd l1 i = y at *
        generalize wd l2 i = z at *
        go_wp2
        go_ret
        exact ⟨ret_bool (by rw [decide_eq_false HNE.out]), rfl⟩
    · obtain rfl : i = m2 := by omega
      have heq : l1 = l2 := wd_ext l1 l2 HL.out (fun k hk => HA.out k (by rw [E1.out]; exact hk))
      have HQ := Lib.hid heq
      clear heq
      go_wp2
      go_ret
      exact ⟨ret_bool (by rw [decide_eq_true HQ.out]), rfl⟩

theorem boxed2 (w : World) (o1 o2 : Obj) : Below w.heap.size w ((w.alloc o1).alloc o2) := ((Below.refl _ _).alloc (Nat.le_refl _) _).alloc (by simp) _

set_option maxHeartbeats 1000000 in
theorem same_any (a1 a2 : Option Addr) (m1 c1 m2 c2 : Nat) (l1 l2 : List Bool) (w : World) (h1 : RowAt w (.slice a1 m1 c1) l1) (h2 : RowAt w (.slice a2 m2 c2) l2) (hb1 : l1.length ≤ 1000000000) :
    Calls Try.prog 20 #[.agg #[.int .i64 (l1.length : Int), .slice a1 m1 c1], .agg #[.int .i64 (l2.length : Int), .slice a2 m2 c2]] w fun e w' => e = .returned (.bool (decide (l1 = l2))) ∧ Below w.heap.size w w' := by
  have hbox := boxed2 w (.cells #[.int .i64 (l1.length : Int), .slice a1 m1 c1] 30) (.cells #[.int .i64 (l2.length : Int), .slice a2 m2 c2] 30)
  have HB := Lib.hid hbox
  clear hbox
  by_cases hl : l1.length = l2.length
  · have hw := fun w1 (hk : Below w.heap.size w w1) => sameWords_any a1 a2 m1 c1 m2 c2 l1 l2 w1 (h1.kept hk) (h2.kept hk) hl hb1
    have HW := Lib.hid hw
    clear hw h1 h2
    rw [← hl] at HB ⊢
    clear hl
    generalize l1.length = n at *
    go_enter Try.func20, Try.ntmps20
    go_wp2_with fail
    refine (HW.out _ HB.out).mono ?_
    rintro e w' ⟨rfl, rfl⟩
    go_wp2
    go_ret
    exact ⟨rfl, HB.out⟩
  · have hne : l1 ≠ l2 := fun e => hl (by rw [e])
    have HNE := Lib.hid hne
    clear h1 h2 hne
    generalize l1.length = n1 at *
    generalize l2.length = n2 at *
    have hbq : ((n1 : Int) == (n2 : Int)) = false := by simp; omega
    have hbq2 : (n1 == n2) = false := by simp; omega
    go_enter Try.func20, Try.ntmps20
    go_wp2
    go_ret
    exact ⟨ret_bool (by rw [decide_eq_false HNE.out]), HB.out⟩

end Go.Proofs.Ytfhlcclbjagdmaa
