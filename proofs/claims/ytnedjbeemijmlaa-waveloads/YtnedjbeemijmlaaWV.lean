/- A boxed row of symbols in a call, with all its contracts; the chapter's examples: the contract of awake. -/
import Derived.Test.YtnedjbeemijmlaaWP
import Derived.Test.YtnedjbeemijmlaaWU
set_option maxRecDepth 100000
namespace Go.Proofs.Ytnedjbeemijmlaa
open Go.RowKit
open M
attribute [local go_sem ↓] Go.wp_at_zero Go.wp_at_succ

/-- A boxed row of symbols in a call that entered at w. -/
structure WL (w : World) (b n : Nat) (l : List Int) (W : Nat) (a : Option Addr) (cap : Nat) (size : Int) (u : World) : Prop where
  box : WBx u b (n : Int) size (.slice a W cap)
  wx : WX u l W a
  len : l.length = n
  sz : size ≤ 2 ^ W
  xs : ∀ x ∈ l, 0 ≤ x ∧ x < size
  bel : Below w.heap.size w u
variable {w u : World} {b n : Nat} {l : List Int} {W : Nat} {a : Option Addr} {cap : Nat} {size : Int}
theorem WL.kept {u' : World} (h : WL w b n l W a cap size u) (hb : Below u.heap.size u u') : WL w b n l W a cap size u' :=
  ⟨h.box.kept hb, h.wx.kept hb, h.len, h.sz, h.xs, h.bel.trans (hb.mono h.bel.size)⟩
theorem WL.drew (h : WL w b n l W a cap size u) : WL w b n l W a cap size u.drew := h.kept ((Below.refl _ _).drew)

theorem cnt_wl (c f t : Int) (h : WL w b n l W a cap size u) : Calls Try.prog 31 #[.agg #[.int .i64 (n : Int), .int .i64 size, .slice a W cap], .int .i64 c, .int .i64 f, .int .i64 t] u fun e u' => e = .returned (.int .i64 (cntN l size c f t : Nat)) ∧ WL w b n l W a cap size u' ∧ Below u.heap.size u u' := by
  have := wcount_any l W a cap size c f t u h.wx h.sz
  rw [h.len] at this
  exact this.mono fun _ _ hh => ⟨hh.1, h.kept hh.2, hh.2⟩
theorem rk_wl (c i : Int) (h : WL w b n l W a cap size u) : Calls Try.prog 28 #[.agg #[.int .i64 (n : Int), .int .i64 size, .slice a W cap], .int .i64 c, .int .i64 i] u fun e u' => e = .returned (.int .i64 (cntN l size c 0 i : Nat)) ∧ WL w b n l W a cap size u' ∧ Below u.heap.size u u' := by
  have := wrk_any l W a cap size c i u h.wx h.sz
  rw [h.len] at this
  exact this.mono fun _ _ hh => ⟨hh.1, h.kept hh.2, hh.2⟩
theorem bel_wl (c i : Int) (h : WL w b n l W a cap size u) : Calls Try.prog 32 #[.agg #[.int .i64 (n : Int), .int .i64 size, .slice a W cap], .int .i64 c, .int .i64 i] u fun e u' => e = .returned (.int .i64 (belN l size c i : Nat)) ∧ WL w b n l W a cap size u' ∧ Below u.heap.size u u' := by
  have := wbel_any l W a cap size c i u h.wx h.sz
  rw [h.len] at this
  exact this.mono fun _ _ hh => ⟨hh.1, h.kept hh.2, hh.2⟩
theorem sel_wl (c k : Int) (h : WL w b n l W a cap size u) : Calls Try.prog 29 #[.agg #[.int .i64 (n : Int), .int .i64 size, .slice a W cap], .int .i64 c, .int .i64 k] u fun e u' => e = .returned (.int .i64 (selN true (eqs l c) k)) ∧ WL w b n l W a cap size u' ∧ Below u.heap.size u u' := by
  have := wsel_any l W a cap size c k u h.wx h.sz h.xs
  rw [h.len] at this
  exact this.mono fun _ _ hh => ⟨hh.1, h.kept hh.2, hh.2⟩
theorem dis_wl (f t : Int) (h : WL w b n l W a cap size u) : Calls Try.prog 25 #[.agg #[.int .i64 (n : Int), .int .i64 size, .slice a W cap], .int .i64 f, .int .i64 t] u fun e u' => ∃ v, e = .returned v ∧ OwnI u v (disL (rng l (lo n f) (hi n f t)) W 0) u' ∧ WL w b n l W a cap size u' := by
  have := wdist_any l W a cap size f t u h.wx
  rw [h.len] at this
  exact this.mono fun _ _ ⟨v, h1, h2⟩ => ⟨v, h1, h2, h.kept h2.2⟩
theorem get_wl (j : Nat) (hj : j < n) (h : WL w b n l W a cap size u) : Calls Try.prog 23 #[.agg #[.int .i64 (n : Int), .int .i64 size, .slice a W cap], .int .i64 (j : Int)] u fun e u' => e = .returned (.tuple #[.int .i64 (l.getD j 0), .int .i64 0]) ∧ WL w b n l W a cap size u' ∧ Below u.heap.size u u' := by
  have := wget_any l W a cap size j u h.wx (by rw [h.len]; exact hj)
  rw [h.len] at this
  exact this.mono fun _ _ hh => ⟨hh.1, h.kept hh.2, hh.2⟩
/-- No such place. -/
theorem gets_wl (i : Int) (hi : i < 0 ∨ (n : Int) ≤ i) (h : WL w b n l W a cap size u) : Calls Try.prog 23 #[.agg #[.int .i64 (n : Int), .int .i64 size, .slice a W cap], .int .i64 i] u fun e u' => e = .returned (.tuple #[.int .i64 0, .int .i64 13]) ∧ WL w b n l W a cap size u' ∧ Below u.heap.size u u' := by
  have HB := Lib.hid (wbel u (.int .i64 (n : Int)) (.int .i64 size) (.slice a W cap))
  have HH := Lib.hid h
  clear h
  have hf : Calls Try.prog 23 #[.agg #[.int .i64 (n : Int), .int .i64 size, .slice a W cap], .int .i64 i] u fun e u' => e = .returned (.tuple #[.int .i64 0, .int .i64 13]) ∧ Below u.heap.size u u' := by
    rcases hi with hi | hi
    · go_enter Try.func23, Try.ntmps23
      go_wp2
      go_ret2
      exact ⟨rfl, HB.out⟩
    · have q : ¬ i < 0 := by omega
      go_enter Try.func23, Try.ntmps23
      go_wp2
      go_ret2
      exact ⟨rfl, HB.out⟩
  exact hf.mono fun _ _ hh => ⟨hh.1, HH.out.kept hh.2, hh.2⟩

/-- The symbol at place i; -1, if there is none. -/
def wAt (l : List Int) (i : Int) : Int := if 0 ≤ i ∧ i < (l.length : Int) then l.getD i.toNat 0 else -1
theorem at_wl (i : Int) (h : WL w b n l W a cap size u) : Calls Try.prog 27 #[.agg #[.int .i64 (n : Int), .int .i64 size, .slice a W cap], .int .i64 i] u fun e u' => e = .returned (.int .i64 (wAt l i)) ∧ WL w b n l W a cap size u' ∧ Below u.heap.size u u' := by
  have hB := wbel u (.int .i64 (n : Int)) (.int .i64 size) (.slice a W cap)
  have HB := Lib.hid hB
  have HH := Lib.hid h
  have h2 := h.kept hB
  have hlen := h.len
  have hf : Calls Try.prog 27 #[.agg #[.int .i64 (n : Int), .int .i64 size, .slice a W cap], .int .i64 i] u fun e u' => e = .returned (.int .i64 (wAt l i)) ∧ Below u.heap.size u u' := by
    by_cases hi : 0 ≤ i ∧ i < (n : Int)
    · obtain ⟨j, rfl⟩ : ∃ j : Nat, i = (j : Int) := ⟨i.toNat, by omega⟩
      have hg := get_wl j (by omega) h2
      have e1 : wAt l (j : Int) = l.getD j 0 := by unfold wAt; rw [if_pos (by rw [hlen]; exact hi), show ((j : Int)).toNat = j by omega]
      rw [e1]
      have HG := Lib.hid hg
      clear hg h2 h hlen e1
      generalize l.getD j 0 = x at *
      go_enter Try.func27, Try.ntmps27
      go_wp2_with fail
      refine HG.out.mono ?_
      rintro e u1 ⟨rfl, -, hb⟩
      have HB1 := Lib.hid (HB.out.trans (hb.mono HB.out.size))
      clear hb
      go_wp2
      go_ret
      exact ⟨rfl, HB1.out⟩
    · have hg := gets_wl i (by omega) h2
      have e1 : wAt l i = -1 := by unfold wAt; rw [if_neg (by rw [hlen]; exact hi)]
      rw [e1]
      have HG := Lib.hid hg
      clear hg h2 h hlen e1
      go_enter Try.func27, Try.ntmps27
      go_wp2_with fail
      refine HG.out.mono ?_
      rintro e u1 ⟨rfl, -, hb⟩
      have HB1 := Lib.hid (HB.out.trans (hb.mono HB.out.size))
      clear hb
      go_wp2
      go_ret
      exact ⟨rfl, HB1.out⟩
  exact hf.mono fun _ _ hh => ⟨hh.1, HH.out.kept hh.2, hh.2⟩

def L4s : List Int := [3, 1, 2, 1]
theorem wdt_four : wdt 4 = 2 := wid_eq 3 1 (by decide) (by decide)

set_option maxHeartbeats 1000000 in
theorem awake_any (w : World) : Calls Try.prog 10 #[] w fun e w' => e = .returned (.bool true) ∧ Below w.heap.size w w' := by
  have hb0 : Below w.heap.size w (w.alloc (.cells #[.int .i64 3, .int .i64 1, .int .i64 2, .int .i64 1] 3)) := (Below.refl _ _).alloc (Nat.le_refl _) _
  have hnum : NumsAt .i64 (w.alloc (.cells #[.int .i64 3, .int .i64 1, .int .i64 2, .int .i64 1] 3)) (some ⟨w.heap.size, 0, none⟩) L4s := .inr ⟨w.heap.size, 0, rfl, by simp, fun j hj => by
    rw [Nat.zero_add, cell_new _ _ _ _ _ rfl]
    match j, hj with
    | 0, _ => rfl
    | 1, _ => rfl
    | 2, _ => rfl
    | 3, _ => rfl⟩
  have hnew := wnew_any (some ⟨w.heap.size, 0, none⟩) 4 4 L4s 4 _ hnum rfl (by decide) (Nat.le_refl _) (by decide) (fun b o e => by
    simp only [Option.some.injEq, Addr.mk.injEq, and_true] at e
    simp; omega)
  rw [wdt_four] at hnew
  have HN := Lib.hid hnew
  have HB0 := Lib.hid hb0
  clear hnew hnum hb0
  go_enter Try.func10, Try.ntmps10
  go_wp2_with fail
  refine HN.out.mono ?_
  rintro e u ⟨a, cap, rfl, hwx, hb⟩
  have hb1 := HB0.out.trans (hb.mono HB0.out.size)
  have hbn : Below u.heap.size u (u.alloc (.cells #[.int .i64 ((4 : Nat) : Int), .int .i64 4, .slice a 2 cap] 27)) := (Below.refl _ _).alloc (Nat.le_refl _) _
  have hA : WL w u.heap.size 4 L4s 2 a cap 4 (u.alloc (.cells #[.int .i64 ((4 : Nat) : Int), .int .i64 4, .slice a 2 cap] 27)) := ⟨WBx.new _ _ _ _, hwx.kept hbn, rfl, by decide, by decide, hb1.trans (hbn.mono hb1.size)⟩
  have HA := Lib.hid hA
  clear hb hb1 hbn hA hwx HN HB0
  go_wp2_with fail
  generalize u.heap.size = bx at *
  refine (dis_wl 1 4 HA.out).mono ?_
  rintro e u1 ⟨v, rfl, hown, hA1⟩
  rw [show disL (rng L4s (lo 4 1) (hi 4 1 4)) 2 0 = [1, 2] by decide] at hown
  obtain ⟨da, dc, rfl, hdn, -⟩ := nums_of_own hown.1
  have hdn1 := hdn
  obtain ⟨db, dof, rfl, hdl, hd0⟩ := num_at hdn (i := 0) (by decide)
  obtain ⟨db2, dof2, hde, -, hd1⟩ := num_at hdn1 (i := 1) (by decide)
  simp only [Option.some.injEq, Addr.mk.injEq, and_true] at hde
  obtain ⟨rfl, rfl⟩ := hde
  have HD := Lib.hid (And.intro hdl (And.intro hd0 hd1))
  have HA1 := Lib.hid hA1
  obtain ⟨x0, x1, x2⟩ := hA1.box
  clear hown hdn hdn1 hdl hd0 hd1 hA1 HA
  go_wp2_with fail
  clear x0 x1 x2
  refine (rk_wl 1 3 HA1.out).mono ?_
  rintro e u2 ⟨rfl, hA, hb2⟩
  rw [show cntN L4s 4 1 0 3 = 1 by decide]
  have HA2 := Lib.hid hA
  obtain ⟨x0, x1, x2⟩ := hA.box
  have HB2 := Lib.hid hb2
  clear hA hb2
  go_wp2_with fail
  clear x0 x1 x2
  refine (sel_wl 1 1 HA2.out).mono ?_
  rintro e u3 ⟨rfl, hA, hb3⟩
  rw [show selN true (eqs L4s 1) 1 = 3 by decide]
  have HA3 := Lib.hid hA
  obtain ⟨x0, x1, x2⟩ := hA.box
  have HB3 := Lib.hid (HB2.out.trans (hb3.mono HB2.out.size))
  clear hA hb3
  go_wp2_with fail
  clear x0 x1 x2
  refine (sel_wl 0 0 HA3.out).mono ?_
  rintro e u4 ⟨rfl, hA, hb4⟩
  rw [show selN true (eqs L4s 0) 0 = -1 by decide]
  have HA4 := Lib.hid hA
  obtain ⟨x0, x1, x2⟩ := hA.box
  have hb5 := HB3.out.trans (hb4.mono HB3.out.size)
  have y0 := hb5.cell (p := ⟨db, dof + 0, none⟩) HD.out.1
  have y1 := hb5.cell (p := ⟨db, dof + 1, none⟩) HD.out.1
  rw [HD.out.2.1, Nat.add_zero] at y0
  rw [HD.out.2.2] at y1
  have y0 : u4.cell? ⟨db, dof, none⟩ = some (.int .i64 1) := y0
  have y1 : u4.cell? ⟨db, dof + 1, none⟩ = some (.int .i64 2) := y1
  clear hA hb4 hb5
  go_wp2_with fail
  clear x0 x1 x2
  refine (bel_wl 3 4 HA4.out).mono ?_
  rintro e u5 ⟨rfl, hA, hb6⟩
  rw [show belN L4s 4 3 4 = 3 by decide]
  have HA5 := Lib.hid hA
  obtain ⟨x0, x1, x2⟩ := hA.box
  clear hA hb6 y0 y1
  go_wp2_with fail
  clear x0 x1 x2
  refine (cnt_wl 1 1 4 HA5.out).mono ?_
  rintro e u6 ⟨rfl, hA, -⟩
  rw [show cntN L4s 4 1 1 4 = 2 by decide]
  have HA6 := Lib.hid hA
  clear hA
  go_wp2
  go_ret
  exact ⟨rfl, HA6.out.bel⟩

end Go.Proofs.Ytnedjbeemijmlaa
