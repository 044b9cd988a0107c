/- awake answers true; the contract of few. -/
import Derived.Test.YtilfjdmgeflagaaIF
namespace Go.Proofs.Ytilfjdmgeflagaa
open Go.RowKit
open M

theorem few_any (a0 : Option Addr) (n cap : Nat) (w : World) (hn : n ≤ cap) (hc : cap ≤ maxLen) :
    Calls Try.prog 10 #[.slice a0 n cap] w fun e w' => e = .returned (.slice a0 (min n 100) cap) ∧ w = w' := by
  unfold maxLen at hc
  by_cases h : 100 < n
  · have e : min n 100 = 100 := by omega
    rw [e]
    go_enter Try.func10, Try.ntmps10
    go_wp2
    go_ret
    exact ⟨rfl, rfl⟩
  · have e : min n 100 = n := by omega
    rw [e]
    go_enter Try.func10, Try.ntmps10
    go_wp2
    go_ret
    exact ⟨rfl, rfl⟩

theorem wid_eq (n k : Nat) (h1 : n < 2 ^ (k + 1)) (h2 : 2 ^ k ≤ n) : wid n = k + 1 := by
  apply Nat.le_antisymm
  · exact (wid_le _ _).2 h1
  · rcases Nat.lt_or_ge (wid n) (k + 1) with h | h
    · have := (wid_le n k).1 (by omega); omega
    · exact h

/-- Two boxed rows of numbers of the call's own. -/
structure A2 (w : World) (bx nx Wx Lx : Nat) (ax : Option Addr) (mx cx : Nat) (xs : List Int) (b n W L : Nat) (a : Option Addr) (m c : Nat) (ys : List Int) (u : World) : Prop where
  bx : IBx u bx nx Wx Lx (.slice ax mx cx)
  rx : IRow u nx Wx Lx ax mx cx xs
  by' : IBx u b n W L (.slice a m c)
  ry : IRow u n W L a m c ys
  bel : Below w.heap.size w u

theorem A2.kept {w u u' : World} {bx nx Wx Lx : Nat} {ax : Option Addr} {mx cx : Nat} {xs : List Int} {b n W L : Nat} {a : Option Addr} {m c : Nat} {ys : List Int} (h : A2 w bx nx Wx Lx ax mx cx xs b n W L a m c ys u) (hb : Below u.heap.size u u') : A2 w bx nx Wx Lx ax mx cx xs b n W L a m c ys u' :=
  ⟨h.bx.kept hb, h.rx.kept hb, h.by'.kept hb, h.ry.kept hb, h.bel.trans (hb.mono h.bel.size)⟩

def X3 : List Int := [5, 1, 7]
def X4 : List Int := [1, 3, 4, 9]

theorem x3_fits : Fits X3 3 := by intro x hx; simp [X3] at hx; omega
theorem x4_fits : Fits X4 4 := by intro x hx; simp [X4] at hx; omega
theorem x4_64 : I64s X4 := by intro x hx; simp [X4] at hx; omega
theorem x4_wid : wid (mostI X4).toNat = 4 := by
  have e : (mostI X4).toNat = 9 := by decide
  rw [e]; exact wid_eq 9 3 (by decide) (by decide)
theorem x4_rises : Rises X4 := by
  intro i j hij hj
  simp only [X4, List.length_cons, List.length_nil] at hj
  match j, hj with
  | 0, _ => obtain rfl : i = 0 := by omega
            decide
  | 1, _ => rcases (show i = 0 ∨ i = 1 by omega) with rfl | rfl <;> decide
  | 2, _ => rcases (show i = 0 ∨ i = 1 ∨ i = 2 by omega) with rfl | rfl | rfl <;> decide
  | 3, _ => rcases (show i = 0 ∨ i = 1 ∨ i = 2 ∨ i = 3 by omega) with rfl | rfl | rfl | rfl <;> decide
theorem x3_bytes : bytI (rowB X3 3) (p8 9) = [205, 1] := by decide
theorem x4_find : findN X4 4 = 2 := by decide

theorem pack3 (u : World) (b : Nat) (h : ∀ j, j < 3 → u.cell? ⟨b, j, none⟩ = some (.int .i64 (X3.getD j 0))) (hb : b < u.heap.size) :
    Calls Try.prog 11 #[.slice (some ⟨b, 0, none⟩) 3 3, .int .i64 3] u fun e w' => ∃ g, e = .returned (.tuple #[.agg #[.int .i64 3, .int .i64 3, .int .i64 9, .slice (some ⟨g, 0, none⟩) 1 1], .int .i64 0]) ∧ IRow w' 3 3 9 (some ⟨g, 0, none⟩) 1 1 X3 ∧ Below u.heap.size u w' := by
  refine (pack_ok (some ⟨b, 0, none⟩) 3 3 X3 3 u (.inr ⟨b, 0, rfl, hb, fun j hj => by rw [Nat.zero_add]; exact h j hj⟩) rfl (by omega) (by omega) x3_fits).mono ?_
  rintro e w' ⟨g, rfl, hr, -, hbel⟩
  exact ⟨g, rfl, ⟨hr, rfl, rfl, x3_fits, by omega, by omega⟩, hbel⟩

theorem tight4 (u : World) (b : Nat) (h : ∀ j, j < 4 → u.cell? ⟨b, j, none⟩ = some (.int .i64 (X4.getD j 0))) (hb : b < u.heap.size) :
    Calls Try.prog 26 #[.slice (some ⟨b, 0, none⟩) 4 4] u fun e w' => ∃ g, e = .returned (.tuple #[.agg #[.int .i64 4, .int .i64 4, .int .i64 16, .slice (some ⟨g, 0, none⟩) 1 1], .int .i64 0]) ∧ IRow w' 4 4 16 (some ⟨g, 0, none⟩) 1 1 X4 ∧ Below u.heap.size u w' := by
  refine (tight_ok (some ⟨b, 0, none⟩) 4 4 X4 4 u (.inr ⟨b, 0, rfl, hb, fun j hj => by rw [Nat.zero_add]; exact h j hj⟩) rfl (by omega) x4_64 x4_wid (by omega) x4_fits).mono ?_
  rintro e w' ⟨g, rfl, hr, -, hbel⟩
  exact ⟨g, rfl, ⟨hr, rfl, rfl, x4_fits, by omega, by omega⟩, hbel⟩

set_option maxHeartbeats 1000000 in
theorem awake_any (w : World) : Calls Try.prog 9 #[] w fun e w' => e = .returned (.bool true) ∧ Below w.heap.size w w' := by
  have hp := pack3 (w.alloc (.cells #[.int .i64 5, .int .i64 1, .int .i64 7] 3)) w.heap.size (by
    intro j hj
    rw [cell_new _ _ _ _ _ rfl]
    match j, hj with
    | 0, _ => rfl
    | 1, _ => rfl
    | 2, _ => rfl) (by simp)
  have HP := Lib.hid hp
  clear hp
  go_enter Try.func9, Try.ntmps9
  go_wp2_with fail
  refine HP.out.mono ?_
  rintro e w2 ⟨gx, rfl, hrx, hb⟩
  have hB2 : Below w.heap.size w w2 := ((Below.refl _ _).alloc (Nat.le_refl _) _).trans (hb.mono (by simp))
  have HX := Lib.hid (And.intro hrx hB2)
  clear hrx hb hB2 HP
  go_wp2_with fail
  obtain ⟨hrx, hB2⟩ := HX.out
  have hal2 : Below w2.heap.size w2 ((w2.alloc (.cells #[.int .i64 3, .int .i64 3, .int .i64 9, .slice (some ⟨gx, 0, none⟩) 1 1] 31)).alloc (.cells #[.int .i64 1, .int .i64 3, .int .i64 4, .int .i64 9] 3)) := boxed2 _ _ _
  have hbx := (IBx.new w2 3 3 9 (.slice (some ⟨gx, 0, none⟩) 1 1)).kept ((Below.refl _ _).alloc (Nat.le_refl _) (.cells #[.int .i64 1, .int .i64 3, .int .i64 4, .int .i64 9] 3))
  have hrx2 := hrx.kept hal2
  have hsz := hB2.size
  have hB3 := hB2.trans (hal2.mono hsz)
  refine (tight4 _ (w2.heap.size + 1) ?_ (by simp)).mono ?_
  · intro j hj
    rw [cell_new _ _ _ _ _ (by simp)]
    match j, hj with
    | 0, _ => rfl
    | 1, _ => rfl
    | 2, _ => rfl
    | 3, _ => rfl
  rintro e w3 ⟨gy, rfl, hry, hb⟩
  have hal3 : Below w3.heap.size w3 (w3.alloc (.cells #[.int .i64 4, .int .i64 4, .int .i64 16, .slice (some ⟨gy, 0, none⟩) 1 1] 31)) := (Below.refl _ _).alloc (Nat.le_refl _) _
  have hA : A2 w w2.heap.size 3 3 9 (some ⟨gx, 0, none⟩) 1 1 X3 w3.heap.size 4 4 16 (some ⟨gy, 0, none⟩) 1 1 X4 (w3.alloc (.cells #[.int .i64 4, .int .i64 4, .int .i64 16, .slice (some ⟨gy, 0, none⟩) 1 1] 31)) :=
    ⟨(hbx.kept hb).kept hal3, (hrx2.kept hb).kept hal3, IBx.new w3 4 4 16 _, hry.kept hal3, (hB3.trans (hb.mono hB3.size)).trans (hal3.mono (Nat.le_trans hB3.size hb.size))⟩
  have hlt2 := (hbx.kept hb).lt
  obtain ⟨l0, l1, l2, l3⟩ := hbx.kept hb
  have HA := Lib.hid hA
  clear hA hal3 hry hb hB3 hsz hrx2 hbx hal2 hrx hB2 HX
  go_wp2_with fail
  clear l0 l1 l2 l3 hlt2
  have c := HA.out
  generalize (w3.alloc (.cells #[.int .i64 4, .int .i64 4, .int .i64 16, .slice (some ⟨gy, 0, none⟩) 1 1] 31)) = w4 at *
  generalize w2.heap.size = b2 at *
  generalize w3.heap.size = b3 at *
  have hby : Calls Try.prog 21 #[.agg #[.int .i64 3, .int .i64 3, .int .i64 9, .slice (some ⟨gx, 0, none⟩) 1 1]] w4 fun e w' => e = .returned (.string ⟨#[205, 1]⟩) ∧ Below w4.heap.size w4 w' := by
    have hby := ibytes_any 3 3 9 (some ⟨gx, 0, none⟩) 1 1 (rowB X3 3) w4 c.rx.row (by rfl) (by omega)
    rw [x3_bytes] at hby
    exact hby
  refine hby.mono ?_
  clear hby
  rintro e w5 ⟨rfl, hb⟩
  have hk := c.kept hb
  clear c hb HA
  obtain ⟨l0, l1, l2, l3⟩ := hk.bx
  have HA := Lib.hid hk
  clear hk
  go_wp2_with fail
  clear l0 l1 l2 l3
  have hcl : Calls Try.prog 20 #[.agg #[.int .i64 3, .int .i64 3, .int .i64 9, .slice (some ⟨gx, 0, none⟩) 1 1], .int .i64 2] w5 fun e w' => e = .returned (.int .i64 7) ∧ Below w5.heap.size w5 w' := iat_any 3 3 9 (some ⟨gx, 0, none⟩) 1 1 X3 2 w5 HA.out.rx
  refine hcl.mono ?_
  clear hcl
  rintro e w6 ⟨rfl, hb⟩
  have hk := HA.out.kept hb
  clear HA hb
  obtain ⟨l0, l1, l2, l3⟩ := hk.bx
  have HA := Lib.hid hk
  clear hk
  go_wp2_with fail
  clear l0 l1 l2 l3
  have hcl : Calls Try.prog 20 #[.agg #[.int .i64 3, .int .i64 3, .int .i64 9, .slice (some ⟨gx, 0, none⟩) 1 1], .int .i64 3] w6 fun e w' => e = .returned (.int .i64 (-1)) ∧ Below w6.heap.size w6 w' := iat_any 3 3 9 (some ⟨gx, 0, none⟩) 1 1 X3 3 w6 HA.out.rx
  refine hcl.mono ?_
  clear hcl
  rintro e w7 ⟨rfl, hb⟩
  have hk := HA.out.kept hb
  clear HA hb
  obtain ⟨l0, l1, l2, l3⟩ := hk.bx
  have HA := Lib.hid hk
  clear hk
  go_wp2_with fail
  clear l0 l1 l2 l3
  have hcl : Calls Try.prog 14 #[.int .i64 7] w7 fun e w' => e = .returned (.int .i64 3) ∧ w7 = w' := by have := width_any 7 w7 (by omega); rwa [show ((wid (7 : Int).toNat : Nat) : Int) = 3 by rw [show (7 : Int).toNat = 7 from rfl, wid_eq 7 2 (by decide) (by decide)]; rfl] at this
  refine hcl.mono ?_
  clear hcl
  rintro e w8 ⟨rfl, rfl⟩
  have hk := HA.out
  clear HA
  obtain ⟨l0, l1, l2, l3⟩ := hk.bx
  have HA := Lib.hid hk
  clear hk
  go_wp2_with fail
  clear l0 l1 l2 l3
  have hcl : Calls Try.prog 14 #[.int .i64 8] w7 fun e w' => e = .returned (.int .i64 4) ∧ w7 = w' := by have := width_any 8 w7 (by omega); rwa [show ((wid (8 : Int).toNat : Nat) : Int) = 4 by rw [show (8 : Int).toNat = 8 from rfl, wid_eq 8 3 (by decide) (by decide)]; rfl] at this
  refine hcl.mono ?_
  clear hcl
  rintro e w8 ⟨rfl, rfl⟩
  have hk := HA.out
  clear HA
  obtain ⟨l0, l1, l2, l3⟩ := hk.bx
  have HA := Lib.hid hk
  clear hk
  go_wp2_with fail
  clear l0 l1 l2 l3
  have hcl : Calls Try.prog 14 #[.int .i64 0] w7 fun e w' => e = .returned (.int .i64 0) ∧ w7 = w' := width_any 0 w7 (by omega)
  refine hcl.mono ?_
  clear hcl
  rintro e w8 ⟨rfl, rfl⟩
  have hk := HA.out
  clear HA
  obtain ⟨l0, l1, l2, l3⟩ := hk.by'
  have HA := Lib.hid hk
  clear hk
  go_wp2_with fail
  clear l0 l1 l2 l3
  have hcl : Calls Try.prog 29 #[.agg #[.int .i64 4, .int .i64 4, .int .i64 16, .slice (some ⟨gy, 0, none⟩) 1 1], .int .i64 4] w7 fun e w' => e = .returned (.int .i64 2) ∧ Below w7.heap.size w7 w' := by have := ifind_any 4 4 16 (some ⟨gy, 0, none⟩) 1 1 X4 4 w7 HA.out.ry x4_rises; rwa [x4_find] at this
  refine hcl.mono ?_
  clear hcl
  rintro e w8 ⟨rfl, hb⟩
  have hk := HA.out.kept hb
  clear HA hb
  have HA := Lib.hid hk
  clear hk
  go_wp2
  go_ret
  exact ⟨rfl, HA.out.bel⟩

end Go.Proofs.Ytilfjdmgeflagaa
