/- A slice that a call makes and fills place by place; the contract of bitsAt. -/
import Derived.Test.YtpnjccomngdblaaGreatWF
set_option maxRecDepth 100000
namespace Go.Proofs.YtpnjccomngdblaaGreat
open Go.RowKit
open M
attribute [local go_sem ↓] Go.wp_at_zero Go.wp_at_succ

/-- The block g of n places, of which the first k are filled by f. -/
structure Arr (w : World) (g n : Nat) (f : Nat → Value) (k : Nat) (u : World) : Prop where
  gl : w.heap.size ≤ g
  ex : ∀ o, o < n → (∃ v, u.cell? ⟨g, o, none⟩ = some v) ∧ u.frozen? ⟨g, o, none⟩ = false
  at_ : ∀ j, j < k → u.cell? ⟨g, j, none⟩ = some (f j)
  bel : Below w.heap.size w u
  lt : g < u.heap.size

theorem Arr.start {w w1 w2 : World} {e n : Nat} {xs : List Value} (f : Nat → Value) (hb : Below w.heap.size w w1) (hown : w2.ownsRow w.heap.size e 1 (.slice (some ⟨w1.heap.size, 0, none⟩) n n) n xs) (hg : w1.grownBy w2 none) : Arr w w1.heap.size n f 0 w2 := by
  refine ⟨hb.size, fun o ho => ?_, fun j hj => absurd hj (by omega), hb.trans ((below_grown hg).mono hb.size), (hown.lt _ rfl).2⟩
  rcases hown.2 with ⟨e, -⟩ | ⟨g, cp, cur, e, hg, hh, k1, k2, k3, k4⟩
  · simp at e
  · simp only [Value.slice.injEq, Option.some.injEq, Addr.mk.injEq, and_true, true_and] at e
    obtain ⟨e1, e2⟩ := e
    subst e1 e2
    refine ⟨⟨cur[o]'(by omega), ?_⟩, ?_⟩
    · simp [World.cell?, hh, show o < cur.size by omega]
    · simp [World.frozen?, hh]

theorem Arr.kept {w u u' : World} {g n k : Nat} {f : Nat → Value} (h : Arr w g n f k u) (hb : Below u.heap.size u u') : Arr w g n f k u' :=
  ⟨h.gl, fun o ho => ⟨by rw [hb.cell (p := ⟨g, o, none⟩) h.lt]; exact (h.ex o ho).1, by rw [hb.frozen (p := ⟨g, o, none⟩) h.lt]; exact (h.ex o ho).2⟩,
   fun j hj => by rw [hb.cell (p := ⟨g, j, none⟩) h.lt]; exact h.at_ j hj, h.bel.trans (hb.mono h.bel.size), Nat.lt_of_lt_of_le h.lt hb.size⟩

theorem Arr.put {w u : World} {g n k : Nat} {f : Nat → Value} (h : Arr w g n f k u) (hk : k < n) : Arr w g n f (k + 1) (u.setCell ⟨g, k, none⟩ (f k)) := by
  obtain ⟨⟨y, e⟩, -⟩ := h.ex k hk
  have far : ∀ o, o ≠ k → (u.setCell ⟨g, k, none⟩ (f k)).cell? ⟨g, o, none⟩ = u.cell? ⟨g, o, none⟩ := fun o ho => World.cell?_setCell_other _ _ _ _ (by simp only [ne_eq, Addr.mk.injEq]; omega)
  have at0 := World.cell?_setCell_same u ⟨g, k, none⟩ (f k) e
  refine ⟨h.gl, fun o ho => ⟨?_, by simpa using (h.ex o ho).2⟩, fun j hj => ?_, h.bel.setCell (p := ⟨g, k, none⟩) h.gl _, by simpa using h.lt⟩
  · by_cases hok : o = k
    · subst hok; exact ⟨_, at0⟩
    · rw [far o hok]; exact (h.ex o ho).1
  · by_cases hjk : j = k
    · subst hjk; exact at0
    · rw [far j hjk]; exact h.at_ j (by omega)

theorem Arr.bools {w u : World} {g : Nat} {l : List Bool} (h : Arr w g l.length (fun j => .bool (l.getD j false)) l.length u) : BoolsAt u (some ⟨g, 0, none⟩) l :=
  .inr ⟨g, 0, rfl, h.lt, fun j hj => by rw [Nat.zero_add]; exact h.at_ j hj⟩
theorem Arr.nums {w u : World} {g : Nat} {l : List Int} (h : Arr w g l.length (fun j => .int .i64 (l.getD j 0)) l.length u) : NumsAt .i64 u (some ⟨g, 0, none⟩) l :=
  .inr ⟨g, 0, rfl, h.lt, fun j hj => by rw [Nat.zero_add]; exact h.at_ j hj⟩

theorem bitsI_at (l : List Int) (s i : Nat) (h : i < l.length) : (bitsI l s).getD i false = decide (l.getD i 0 / 2 ^ s % 2 = 1) := by simp [bitsI, List.getD_eq_getElem?_getD, h]

set_option maxHeartbeats 1000000 in
theorem bitsAt_any (a : Option Addr) (n cap : Nat) (l : List Int) (s : Nat) (w : World) (h : NumsAt .i64 w a l) (hl : l.length = n) (hn : n ≤ 1000000) (hs : s ≤ 62) :
    Calls Tryz.prog 73 #[.slice a n cap, .int .i64 (s : Int)] w fun e w' => ∃ g, e = .returned (.slice (some ⟨g, 0, none⟩) n n) ∧ BoolsAt w' (some ⟨g, 0, none⟩) (bitsI l s) ∧ Below w.heap.size w w' := by
  obtain ⟨i0, hi0, hz0, hz1, hz2⟩ := info_parts info4
  have hbl : (bitsI l s).length = n := by rw [bitsI_len, hl]
  have HH := Lib.hid (And.intro h (And.intro hl hbl))
  clear h hl hbl
  go_enter Tryz.func73, Tryz.ntmps73
  go_wp2_with (first | (at_make; refine wpList_make_full _ rfl _ _ 99 rfl w.heap.size 4 i0 (.bool false) 1 Tryz.underlying99 hi0 hz0 hz1 _ _ _ _ n rfl rfl rfl rfl ?b2 ?b3 ?b4 ?_))
  case b2 => rw [hz2]; omega
  case b3 => unfold maxLen; omega
  case b4 => omega
  intro w2 hown hgrow
  have HI := Lib.hid (Arr.start (fun j => .bool ((bitsI l s).getD j false)) (Below.refl _ _) hown hgrow)
  clear hown hgrow
  go_wp2
  go_loopw [13] (fun v13 wr => ∃ i : Nat, i ≤ n ∧ v13 = .int .i64 (i : Int) ∧ Arr w w.heap.size n (fun j => .bool ((bitsI l s).getD j false)) i wr) (fun v13 _ => n - (intOf v13).toNat)
  case atStart => exact ⟨0, Nat.zero_le _, rfl, HI.out⟩
  case round =>
    obtain ⟨i, hi, rfl, hI⟩ := hrel
    clear HI
    by_cases hlt : i < n
    · obtain ⟨bb, off, rfl, hbb, hcb⟩ := num_at (HH.out.1.kept hI.bel) (i := i) (by rw [HH.out.2.1]; exact hlt)
      have hat := bitsI_at l s i (by rw [HH.out.2.1]; exact hlt)
      have hand := and_mask (l.getD i 0 / 2 ^ s) 1 (by omega)
      obtain ⟨⟨y0, ey⟩, fy⟩ := hI.ex i hlt
      generalize l.getD i 0 = x at *
      obtain ⟨y, hy⟩ : ∃ y, x / 2 ^ s = y := ⟨_, rfl⟩
      rw [hy] at hat hand
      have hand : bits .and .i64 y 1 = y % 2 := hand
      have hdec : (y % 2 == 1) = decide (y % 2 = 1) := rfl
      have q1 : (i : Int) < (n : Int) := by omega
      have q2 : (0 : Int) ≤ (i : Int) := by omega
      have q3 : (0 : Int) ≤ (s : Int) := by omega
      have q5 : ((s : Int)).toNat = s := by omega
      have q6 : min s 64 = s := by omega
      have HB := Lib.hid (And.intro (hI.put hlt) hat)
      clear hI hat
      generalize hz : decide (y % 2 = 1) = z at *
      clear hz
      go_wp2
      go_roundw
      case rel => exact ⟨i + 1, by omega, by go_num, by have := HB.out.1; rw [HB.out.2] at this; exact this⟩
      case measure => simp [intOf]; omega
    · obtain rfl : i = n := by omega
      have HB := Lib.hid hI
      clear hI
      go_wp2
      go_ret
      refine ⟨_, rfl, ?_, HB.out.bel⟩
      have := HB.out
      rw [← HH.out.2.2] at this
      exact this.bools

end Go.Proofs.YtpnjccomngdblaaGreat
