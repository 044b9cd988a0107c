/- A boxed row of symbols in a call, with all its contracts; the chapter's examples: the contract of awake. -/
import Derived.Test.YtpnjccomngdblaaGreatWP
import Derived.Test.YtpnjccomngdblaaGreatWU
set_option maxRecDepth 100000
namespace Go.Proofs.YtpnjccomngdblaaGreat
open Go.RowKit
open M
attribute [local go_sem ↓] Go.wp_at_zero Go.wp_at_succ

/-- A boxed row of symbols in a call that entered at w. -/
structure WL (w : World) (b n : Nat) (l : List Int) (W : Nat) (a : Option Addr) (cap : Nat) (size : Int) (u : World) : Prop where
  box : WBx u b (n : Int) size (.slice a W cap)
  wx : WX u l W a
  len : l.length = n
  sz : size ≤ 2 ^ W
  xs : ∀ x ∈ l, 0 ≤ x ∧ x < size
  bel : Below w.heap.size w u
variable {w u : World} {b n : Nat} {l : List Int} {W : Nat} {a : Option Addr} {cap : Nat} {size : Int}
theorem WL.kept {u' : World} (h : WL w b n l W a cap size u) (hb : Below u.heap.size u u') : WL w b n l W a cap size u' :=
  ⟨h.box.kept hb, h.wx.kept hb, h.len, h.sz, h.xs, h.bel.trans (hb.mono h.bel.size)⟩
theorem WL.drew (h : WL w b n l W a cap size u) : WL w b n l W a cap size u.drew := h.kept ((Below.refl _ _).drew)

theorem cnt_wl (c f t : Int) (h : WL w b n l W a cap size u) : Calls Tryz.prog 82 #[.agg #[.int .i64 (n : Int), .int .i64 size, .slice a W cap], .int .i64 c, .int .i64 f, .int .i64 t] u fun e u' => e = .returned (.int .i64 (cntN l size c f t : Nat)) ∧ WL w b n l W a cap size u' ∧ Below u.heap.size u u' := by
  have := wcount_any l W a cap size c f t u h.wx h.sz
  rw [h.len] at this
  exact this.mono fun _ _ hh => ⟨hh.1, h.kept hh.2, hh.2⟩
theorem rk_wl (c i : Int) (h : WL w b n l W a cap size u) : Calls Tryz.prog 61 #[.agg #[.int .i64 (n : Int), .int .i64 size, .slice a W cap], .int .i64 c, .int .i64 i] u fun e u' => e = .returned (.int .i64 (cntN l size c 0 i : Nat)) ∧ WL w b n l W a cap size u' ∧ Below u.heap.size u u' := by
  have := wrk_any l W a cap size c i u h.wx h.sz
  rw [h.len] at this
  exact this.mono fun _ _ hh => ⟨hh.1, h.kept hh.2, hh.2⟩
theorem bel_wl (c i : Int) (h : WL w b n l W a cap size u) : Calls Tryz.prog 60 #[.agg #[.int .i64 (n : Int), .int .i64 size, .slice a W cap], .int .i64 c, .int .i64 i] u fun e u' => e = .returned (.int .i64 (belN l size c i : Nat)) ∧ WL w b n l W a cap size u' ∧ Below u.heap.size u u' := by
  have := wbel_any l W a cap size c i u h.wx h.sz
  rw [h.len] at this
  exact this.mono fun _ _ hh => ⟨hh.1, h.kept hh.2, hh.2⟩
theorem get_wl (j : Nat) (hj : j < n) (h : WL w b n l W a cap size u) : Calls Tryz.prog 62 #[.agg #[.int .i64 (n : Int), .int .i64 size, .slice a W cap], .int .i64 (j : Int)] u fun e u' => e = .returned (.tuple #[.int .i64 (l.getD j 0), .int .i64 0]) ∧ WL w b n l W a cap size u' ∧ Below u.heap.size u u' := by
  have := wget_any l W a cap size j u h.wx (by rw [h.len]; exact hj)
  rw [h.len] at this
  exact this.mono fun _ _ hh => ⟨hh.1, h.kept hh.2, hh.2⟩
/-- No such place. -/
theorem gets_wl (i : Int) (hi : i < 0 ∨ (n : Int) ≤ i) (h : WL w b n l W a cap size u) : Calls Tryz.prog 62 #[.agg #[.int .i64 (n : Int), .int .i64 size, .slice a W cap], .int .i64 i] u fun e u' => e = .returned (.tuple #[.int .i64 0, .int .i64 13]) ∧ WL w b n l W a cap size u' ∧ Below u.heap.size u u' := by
  have HB := Lib.hid (wbel u (.int .i64 (n : Int)) (.int .i64 size) (.slice a W cap))
  have HH := Lib.hid h
  clear h
  have hf : Calls Tryz.prog 62 #[.agg #[.int .i64 (n : Int), .int .i64 size, .slice a W cap], .int .i64 i] u fun e u' => e = .returned (.tuple #[.int .i64 0, .int .i64 13]) ∧ Below u.heap.size u u' := by
    rcases hi with hi | hi
    · go_enter Tryz.func62, Tryz.ntmps62
      go_wp2
      go_ret2
      exact ⟨rfl, HB.out⟩
    · have q : ¬ i < 0 := by omega
      go_enter Tryz.func62, Tryz.ntmps62
      go_wp2
      go_ret2
      exact ⟨rfl, HB.out⟩
  exact hf.mono fun _ _ hh => ⟨hh.1, HH.out.kept hh.2, hh.2⟩

/-- The symbol at place i; -1, if there is none. -/
def wAt (l : List Int) (i : Int) : Int := if 0 ≤ i ∧ i < (l.length : Int) then l.getD i.toNat 0 else -1
theorem at_wl (i : Int) (h : WL w b n l W a cap size u) : Calls Tryz.prog 43 #[.agg #[.int .i64 (n : Int), .int .i64 size, .slice a W cap], .int .i64 i] u fun e u' => e = .returned (.int .i64 (wAt l i)) ∧ WL w b n l W a cap size u' ∧ Below u.heap.size u u' := by
  have hB := wbel u (.int .i64 (n : Int)) (.int .i64 size) (.slice a W cap)
  have HB := Lib.hid hB
  have HH := Lib.hid h
  have h2 := h.kept hB
  have hlen := h.len
  have hf : Calls Tryz.prog 43 #[.agg #[.int .i64 (n : Int), .int .i64 size, .slice a W cap], .int .i64 i] u fun e u' => e = .returned (.int .i64 (wAt l i)) ∧ Below u.heap.size u u' := by
    by_cases hi : 0 ≤ i ∧ i < (n : Int)
    · obtain ⟨j, rfl⟩ : ∃ j : Nat, i = (j : Int) := ⟨i.toNat, by omega⟩
      have hg := get_wl j (by omega) h2
      have e1 : wAt l (j : Int) = l.getD j 0 := by unfold wAt; rw [if_pos (by rw [hlen]; exact hi), show ((j : Int)).toNat = j by omega]
      rw [e1]
      have HG := Lib.hid hg
      clear hg h2 h hlen e1
      generalize l.getD j 0 = x at *
      go_enter Tryz.func43, Tryz.ntmps43
      go_wp2_with fail
      refine HG.out.mono ?_
      rintro e u1 ⟨rfl, -, hb⟩
      have HB1 := Lib.hid (HB.out.trans (hb.mono HB.out.size))
      clear hb
      go_wp2
      go_ret
      exact ⟨rfl, HB1.out⟩
    · have hg := gets_wl i (by omega) h2
      have e1 : wAt l i = -1 := by unfold wAt; rw [if_neg (by rw [hlen]; exact hi)]
      rw [e1]
      have HG := Lib.hid hg
      clear hg h2 h hlen e1
      go_enter Tryz.func43, Tryz.ntmps43
      go_wp2_with fail
      refine HG.out.mono ?_
      rintro e u1 ⟨rfl, -, hb⟩
      have HB1 := Lib.hid (HB.out.trans (hb.mono HB.out.size))
      clear hb
      go_wp2
      go_ret
      exact ⟨rfl, HB1.out⟩
  exact hf.mono fun _ _ hh => ⟨hh.1, HH.out.kept hh.2, hh.2⟩

def L4s : List Int := [3, 1, 2, 1]
theorem wdt_four : wdt 4 = 2 := wid_eq 3 1 (by decide) (by decide)

end Go.Proofs.YtpnjccomngdblaaGreat
