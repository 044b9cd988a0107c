/- awake answers true. -/
import Derived.Test.YtpbemhcibhnhkaaN
namespace Go.Proofs.Ytpbemhcibhnhkaa
open Go.RowKit
open M

theorem row_kp {w w' : World} {X : Nat → Prop} {s : Value} {l : List Bool} (h : RowAt w s l) (hb : Kp X w w') (hx : ∀ k, s.ownBlock = some k → ¬ X k) : RowAt w' s l := by
  obtain ⟨h1, h2⟩ := h
  refine ⟨h1, ?_⟩
  rcases h2 with h2 | ⟨g, cap, cur, rfl, hg, hh, r⟩
  · exact .inl h2
  · have hlt : g < w.heap.size := by
      rcases Nat.lt_or_ge g w.heap.size with h | h
      · exact h
      · rw [Array.getElem?_eq_none h] at hh; simp at hh
    exact .inr ⟨g, cap, cur, rfl, hg, by rw [hb.block g hlt (hx g rfl)]; exact hh, r⟩

theorem Kp.toBelow {X : Nat → Prop} {B : Nat} {w w' : World} (h : Kp X w w') (hB : B ≤ w.heap.size) (hx : ∀ k, k < B → ¬ X k) : Below B w w' :=
  ⟨h.os, h.tape, h.output, h.size, fun k hk => h.block k (by omega) (hx k hk)⟩

theorem row_lt {w : World} {s : Value} {l : List Bool} (h : RowAt w s l) : ∀ k, s.ownBlock = some k → k < w.heap.size := fun k hk => (World.ownsRow.lt h k hk).2

theorem BuildAt.form {w : World} {pb : Nat} {s : Value} {l : List Bool} (h : BuildAt w pb s l) : ∃ a m c, s = .slice a m c := by
  rcases h.2.2.2.2.1.form with ⟨-, rfl⟩ | ⟨g, cap, rfl, -⟩
  · exact ⟨_, _, _, rfl⟩
  · exact ⟨_, _, _, rfl⟩

theorem BuildAt.kept {w w' : World} {pb : Nat} {s : Value} {l : List Bool} (h : BuildAt w pb s l) (hb : Below w.heap.size w w') : BuildAt w' pb s l := by
  obtain ⟨b1, b2, b3, b4, b5, b6⟩ := h
  have hp := World.block_lt_of_cell? w _ b1
  simp only at hp
  exact ⟨by rw [hb.cell (p := ⟨pb, 0, none⟩) hp]; exact b1, by rw [hb.cell (p := ⟨pb, 1, none⟩) hp]; exact b2, by rw [hb.frozen (p := ⟨pb, 0, none⟩) hp]; exact b3, by rw [hb.frozen (p := ⟨pb, 1, none⟩) hp]; exact b4, b5.kept hb, b6⟩

theorem BuildAt.lt {w : World} {pb : Nat} {s : Value} {l : List Bool} (h : BuildAt w pb s l) : pb < w.heap.size := World.block_lt_of_cell? w _ h.1

def L4 : List Bool := [true, false, true, true]

theorem make4 (b : Nat) (w : World) (h : ∀ j, j < 4 → w.cell? ⟨b, j, none⟩ = some (.bool (L4.getD j false))) (hb : b < w.heap.size) :
    Calls Try.prog 13 #[.slice (some ⟨b, 0, none⟩) 4 4] w fun e w' => e = .returned (.agg #[.int .i64 4, .slice (some ⟨w.heap.size + 1, 0, none⟩) 1 1]) ∧ RowAt w' (.slice (some ⟨w.heap.size + 1, 0, none⟩) 1 1) L4 ∧ Below w.heap.size w w' :=
  make_any (some ⟨b, 0, none⟩) 4 L4 w (.inr ⟨b, 0, rfl, hb, fun j hj => by rw [Nat.zero_add]; exact h j hj⟩) (by decide)

/-- The two cells of a boxed row. -/
def Bx (w : World) (b : Nat) (n : Nat) (s : Value) : Prop := w.cell? ⟨b, 0, none⟩ = some (.int .i64 (n : Int)) ∧ w.cell? ⟨b, 1, none⟩ = some s
theorem Bx.lt {w : World} {b n : Nat} {s : Value} (h : Bx w b n s) : b < w.heap.size := World.block_lt_of_cell? w _ h.1
theorem Bx.kept {w w' : World} {b n : Nat} {s : Value} (h : Bx w b n s) (hb : Below w.heap.size w w') : Bx w' b n s :=
  ⟨by rw [hb.cell (p := ⟨b, 0, none⟩) h.lt]; exact h.1, by rw [hb.cell (p := ⟨b, 1, none⟩) h.lt]; exact h.2⟩
theorem Bx.kp {X : Nat → Prop} {w w' : World} {b n : Nat} {s : Value} (h : Bx w b n s) (hb : Kp X w w') (hx : ¬ X b) : Bx w' b n s :=
  ⟨by rw [hb.cell (p := ⟨b, 0, none⟩) h.lt hx]; exact h.1, by rw [hb.cell (p := ⟨b, 1, none⟩) h.lt hx]; exact h.2⟩
theorem Bx.new (w : World) (n : Nat) (s : Value) : Bx (w.alloc (.cells #[.int .i64 (n : Int), s] 28)) w.heap.size n s := ⟨by simp, by simp⟩

/-- What awake has made, up to the builder's row. -/
def AW (w : World) (bb cb : Nat) (sb sc : Value) (wr : World) : Prop := Bx wr bb 4 sb ∧ RowAt wr sb L4 ∧ Bx wr cb 4 sc ∧ RowAt wr sc L4 ∧ Below w.heap.size w wr
theorem AW.kept {w wr w' : World} {bb cb : Nat} {sb sc : Value} (h : AW w bb cb sb sc wr) (hb : Below wr.heap.size wr w') : AW w bb cb sb sc w' :=
  ⟨h.1.kept hb, h.2.1.kept hb, h.2.2.1.kept hb, h.2.2.2.1.kept hb, h.2.2.2.2.trans (hb.mono h.2.2.2.2.size)⟩

theorem bytes4 : bytI L4 (p8 L4.length) = [13] := by decide

set_option maxHeartbeats 1000000 in
theorem awake_any (w : World) : Calls Try.prog 11 #[] w fun e w' => e = .returned (.bool true) ∧ Below w.heap.size w w' := by
  have hmk := make4 w.heap.size (w.alloc (.cells #[.bool true, .bool false, .bool true, .bool true] 4)) (by
    intro j hj
    rw [cell_new _ _ _ _ _ rfl]
    match j, hj with
    | 0, _ => rfl
    | 1, _ => rfl
    | 2, _ => rfl
    | 3, _ => rfl) (by simp)
  have HMK := Lib.hid hmk
  clear hmk
  go_enter Try.func11, Try.ntmps11
  go_wp2_with fail
  refine HMK.out.mono ?_
  rintro e w2 ⟨rfl, hrow, hbel⟩
  simp only [World.size_alloc] at hrow
  have hB2 : Below w.heap.size w w2 := ((Below.refl _ _).alloc (Nat.le_refl _) _).trans (hbel.mono (by simp))
  have hz2 := hB2.size
  have hlb : w.heap.size + 1 + 1 < w2.heap.size := row_lt hrow _ rfl
  have HA := Lib.hid (And.intro hrow hB2)
  clear hrow hbel hB2 HMK
  go_wp2_with fail
  refine (new_any _).mono ?_
  rintro e w4 ⟨rfl, hbd, hbel⟩
  obtain ⟨hrow, hB2⟩ := HA.out
  have hbx := (Bx.new w2 4 (.slice (some ⟨w.heap.size + 1 + 1, 0, none⟩) 1 1)).kept hbel
  have hrow4 := (hrow.kept ((Below.refl _ _).alloc (Nat.le_refl _) (.cells #[.int .i64 4, .slice (some ⟨w.heap.size + 1 + 1, 0, none⟩) 1 1] 28))).kept hbel
  have hB4 : Below w.heap.size w w4 := (hB2.alloc hz2 _).trans (hbel.mono (by simp; omega))
  simp only [World.size_alloc] at hbd
  have hz4 := hbel.size
  simp only [World.size_alloc] at hz4
  have hp1 := put_ok (w2.heap.size + 1) none 0 0 [] [true, false, true] 5 3 w4 hbd rfl rfl (by omega) (by simp)
  have HA4 := Lib.hid (And.intro hbx (And.intro hrow4 (And.intro hB4 hp1)))
  clear hbx hrow4 hB4 hp1 hrow hB2 HA hbel hbd
  go_wp2_with fail
  refine HA4.out.2.2.2.mono ?_
  rintro e w5 ⟨rfl, s5, hb5, hs5, hk5⟩
  obtain ⟨a5, m5, c5, rfl⟩ := hb5.form
  have hp2 := put_ok (w2.heap.size + 1) a5 m5 c5 _ [true] 1 1 w5 hb5 rfl rfl (by omega) (by simp)
  have HA5 := Lib.hid (And.intro hs5 (And.intro hk5 hp2))
  clear hs5 hk5 hp2 hb5
  go_wp2_with fail
  refine HA5.out.2.2.mono ?_
  rintro e w6 ⟨rfl, s6, hb6, hs6, hk6⟩
  obtain ⟨a6, m6, c6, rfl⟩ := hb6.form
  have hbt : Calls Try.prog 32 #[.pointer (some ⟨w2.heap.size + 1, 0, none⟩)] w6 fun e w' => e = .returned (.agg #[.int .i64 4, .slice (some ⟨w6.heap.size + 1, 0, none⟩) 1 1]) ∧ RowAt w' (.slice (some ⟨w6.heap.size + 1, 0, none⟩) 1 1) L4 ∧ Below w6.heap.size w6 w' :=
    bits_any (w2.heap.size + 1) a6 m6 c6 _ w6 hb6 (by simp)
  obtain ⟨hbx4, hrow4, hB4, -⟩ := HA4.out
  obtain ⟨hs5, hk5, -⟩ := HA5.out
  have k5 : ∀ k, k < w2.heap.size + 1 → ¬ PX (w2.heap.size + 1) (.slice none 0 0) k := by
    rintro k hk (e | e)
    · omega
    · simp [Value.ownBlock] at e
  have k6 : ∀ k, k < w2.heap.size + 1 → ¬ PX (w2.heap.size + 1) (.slice a5 m5 c5) k := by
    rintro k hk (e | e)
    · omega
    · rcases hs5 k e with e2 | e2
      · simp [Value.ownBlock] at e2
      · omega
  have hbx6 := (hbx4.kp hk5 (k5 _ (by omega))).kp hk6 (k6 _ (by omega))
  have hrow6 := row_kp (row_kp hrow4 hk5 (fun k hk => k5 k (by simp [Value.ownBlock] at hk; omega))) hk6 (fun k hk => k6 k (by simp [Value.ownBlock] at hk; omega))
  have hB6 : Below w.heap.size w w6 := (hB4.trans (hk5.toBelow hB4.size (fun k hk => k5 k (by omega)))).trans (hk6.toBelow (Nat.le_trans hB4.size hk5.size) (fun k hk => k6 k (by omega)))
  have HA6 := Lib.hid (And.intro hbx6 (And.intro hrow6 (And.intro hB6 hbt)))
  clear hbx6 hrow6 hB6 hbt hs6 hk6 hb6 HA5 HA4 hs5 hk5 k5 k6 hbx4 hrow4 hB4
  go_wp2_with fail
  refine HA6.out.2.2.2.mono ?_
  rintro e w7 ⟨rfl, hrow7, hbel7⟩
  obtain ⟨hbx6, hrow6, hB6, -⟩ := HA6.out
  have hsz6 := hB6.size
  have hAW : AW w w2.heap.size w7.heap.size (.slice (some ⟨w.heap.size + 1 + 1, 0, none⟩) 1 1) (.slice (some ⟨w6.heap.size + 1, 0, none⟩) 1 1) (w7.alloc (.cells #[.int .i64 4, .slice (some ⟨w6.heap.size + 1, 0, none⟩) 1 1] 28)) := by
    have hal : Below w7.heap.size w7 (w7.alloc (.cells #[.int .i64 4, .slice (some ⟨w6.heap.size + 1, 0, none⟩) 1 1] 28)) := (Below.refl _ _).alloc (Nat.le_refl _) _
    have hz := hbel7.size
    refine ⟨(hbx6.kept hbel7).kept hal, (hrow6.kept hbel7).kept hal, Bx.new w7 4 _, hrow7.kept hal, (hB6.trans (hbel7.mono hsz6)).trans (hal.mono (by omega))⟩
  have HW8 := Lib.hid hAW
  clear hAW hrow7 hbel7 hbx6 hrow6 hB6 hsz6 HA6
  go_wp2_with fail
  generalize (w7.alloc (.cells #[.int .i64 4, .slice (some ⟨w6.heap.size + 1, 0, none⟩) 1 1] 28)) = w8 at *
  have hnum : Calls Try.prog 16 #[.agg #[.int .i64 4, .slice (some ⟨w6.heap.size + 1, 0, none⟩) 1 1], .int .i64 1, .int .i64 3] w8 fun e w' => e = .returned (.tuple #[.int .u64 6, .int .i64 0]) ∧ Below w8.heap.size w8 w' :=
    number_in (some ⟨w6.heap.size + 1, 0, none⟩) 1 1 L4 1 3 w8 HW8.out.2.2.2.1 (by decide) (by decide) (by decide)
  refine hnum.mono ?_
  clear hnum
  rintro e w9 ⟨rfl, hb9⟩
  have hW9 := HW8.out.kept hb9
  have l1 := hW9.1.1
  have l2 := hW9.1.2
  have HW9 := Lib.hid hW9
  clear hW9 hb9 HW8
  go_wp2_with fail
  have hby : Calls Try.prog 24 #[.agg #[.int .i64 4, .slice (some ⟨w.heap.size + 1 + 1, 0, none⟩) 1 1]] w9 fun e w' => e = .returned (.string ⟨#[13]⟩) ∧ Below w9.heap.size w9 w' := by
    have := bytes_any (some ⟨w.heap.size + 1 + 1, 0, none⟩) 1 1 L4 w9 HW9.out.2.1 (by decide)
    rw [bytes4] at this
    exact this
  refine hby.mono ?_
  clear hby l1 l2
  rintro e w10 ⟨rfl, hb10⟩
  have hW10 := HW9.out.kept hb10
  have l1 := hW10.1.1
  have l2 := hW10.1.2
  have HW10 := Lib.hid hW10
  clear hW10 hb10 HW9
  go_wp2_with fail
  have hon : Calls Try.prog 22 #[.agg #[.int .i64 4, .slice (some ⟨w.heap.size + 1 + 1, 0, none⟩) 1 1], .int .i64 1, .int .i64 4] w10 fun e w' => e = .returned (.int .i64 2) ∧ Below w10.heap.size w10 w' :=
    ones_any (some ⟨w.heap.size + 1 + 1, 0, none⟩) 1 1 L4 1 4 w10 HW10.out.2.1 (by decide)
  refine hon.mono ?_
  clear hon l1 l2
  rintro e w11 ⟨rfl, hb11⟩
  have hW11 := HW10.out.kept hb11
  have l1 := hW11.1.1
  have l2 := hW11.1.2
  have l3 := hW11.2.2.1.1
  have l4 := hW11.2.2.1.2
  have HW11 := Lib.hid hW11
  clear hW11 hb11 HW10
  go_wp2_with fail
  have hsm : Calls Try.prog 33 #[.agg #[.int .i64 4, .slice (some ⟨w6.heap.size + 1, 0, none⟩) 1 1], .agg #[.int .i64 4, .slice (some ⟨w.heap.size + 1 + 1, 0, none⟩) 1 1]] w11 fun e w' => e = .returned (.bool true) ∧ Below w11.heap.size w11 w' :=
    same_any (some ⟨w6.heap.size + 1, 0, none⟩) (some ⟨w.heap.size + 1 + 1, 0, none⟩) 1 1 1 1 L4 L4 w11 HW11.out.2.2.2.1 HW11.out.2.1 (by decide)
  refine hsm.mono ?_
  clear hsm l1 l2 l3 l4
  rintro e w12 ⟨rfl, hb12⟩
  have hW12 := HW11.out.2.2.2.2.trans (hb12.mono HW11.out.2.2.2.2.size)
  have HW12 := Lib.hid hW12
  clear hW12 hb12 HW11
  go_wp2
  go_ret
  exact ⟨rfl, HW12.out⟩

end Go.Proofs.Ytpbemhcibhnhkaa
