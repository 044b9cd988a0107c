/- The walk of BitsNil. -/
import Derived.Test.YtpbemhcibhnhkaaO
import Derived.Deep.RegionHeld3
import Derived.Deep.DrawnRows
namespace Go.Proofs.Ytpbemhcibhnhkaa
open Go.RowKit
open M
attribute [local go_sem ↓] Go.wp_at_zero Go.wp_at_succ

theorem build_new (w : World) : BuildAt (w.alloc (.cells #[.int .i64 0, .slice none 0 0] 67)) w.heap.size (.slice none 0 0) [] :=
  ⟨by simp, by simp, by simp, by simp, Row_nil _, by simp [Value.ownBlock]⟩

theorem oneI_nil (i : Int) : oneI [] i = 0 := by simp [oneI, getB]
theorem onesN_nil (x y : Int) : onesN [] x y = 0 := by simp [onesN, cnt]

theorem len0 (w : World) : Calls Try.prog 20 #[.agg #[.int .i64 0, .slice none 0 0]] w fun e w' => e = .returned (.int .i64 0) ∧ Below w.heap.size w w' := len_any (.slice none 0 0) [] w (Row_nil _)
theorem one0 (i : Int) (w : World) : Calls Try.prog 21 #[.agg #[.int .i64 0, .slice none 0 0], .int .i64 i] w fun e w' => e = .returned (.int .i64 0) ∧ Below w.heap.size w w' := by
  have := one_any (.slice none 0 0) [] i w (Row_nil _) (by simp)
  rw [oneI_nil] at this
  exact this
theorem ones0 (x y : Int) (w : World) : Calls Try.prog 22 #[.agg #[.int .i64 0, .slice none 0 0], .int .i64 x, .int .i64 y] w fun e w' => e = .returned (.int .i64 0) ∧ Below w.heap.size w w' := by
  have := ones_any none 0 0 [] x y w (Row_nil _) (by simp)
  rw [onesN_nil] at this
  exact this
theorem list0 (w : World) : Calls Try.prog 19 #[.agg #[.int .i64 0, .slice none 0 0]] w fun e w' => (∃ a cap, e = .returned (.slice a 0 cap)) ∧ Below w.heap.size w w' := by
  refine (list_any none 0 0 [] w (Row_nil _) (by simp)).mono ?_
  rintro e w' ⟨v, rfl, ⟨a, cap, rfl, -⟩, hb⟩
  exact ⟨⟨a, cap, rfl⟩, hb⟩
theorem bytes0 (w : World) : Calls Try.prog 24 #[.agg #[.int .i64 0, .slice none 0 0]] w fun e w' => e = .returned (.string ⟨#[]⟩) ∧ Below w.heap.size w w' := bytes_any none 0 0 [] w (Row_nil _) (by simp)

/-- What holds of the worlds of BitsNil's last statement, before and behind the one call that writes. -/
def NB (w : World) (zb cb : Nat) (u : World) : Prop := BuildAt u zb (.slice none 0 0) [] ∧ Bx u (zb + 1) 0 (.slice none 0 0) ∧ Bx u cb 0 (.slice none 0 0) ∧ Below zb w u ∧ zb + 1 < cb ∧ zb ≤ w.heap.size
def NA (w : World) (zb cb : Nat) (u : World) : Prop := Bx u (zb + 1) 0 (.slice none 0 0) ∧ Bx u cb 0 (.slice none 0 0) ∧ Below zb w u ∧ zb + 1 < cb ∧ zb ≤ w.heap.size
theorem NB.kept {w u u' : World} {zb cb : Nat} (h : NB w zb cb u) (hb : Below u.heap.size u u') : NB w zb cb u' := by
  obtain ⟨h1, h2, h3, h4, h5, h6⟩ := h
  exact ⟨h1.kept hb, h2.kept hb, h3.kept hb, h4.trans (hb.mono (Nat.le_trans h6 h4.size)), h5, h6⟩
theorem NA.kept {w u u' : World} {zb cb : Nat} (h : NA w zb cb u) (hb : Below u.heap.size u u') : NA w zb cb u' := by
  obtain ⟨h2, h3, h4, h5, h6⟩ := h
  exact ⟨h2.kept hb, h3.kept hb, h4.trans (hb.mono (Nat.le_trans h6 h4.size)), h5, h6⟩
theorem NB.drew {w u : World} {zb cb : Nat} (h : NB w zb cb u) : NB w zb cb u.drew := h.kept ((Below.refl _ _).drew)
theorem NA.drew {w u : World} {zb cb : Nat} (h : NA w zb cb u) : NA w zb cb u.drew := h.kept ((Below.refl _ _).drew)
theorem NB.put {w u u' : World} {zb cb : Nat} {L : List Bool} (h : NB w zb cb u) (hp : PutPost u zb (.slice none 0 0) L u') : NA w zb cb u' := by
  obtain ⟨h1, h2, h3, h4, h5, h6⟩ := h
  obtain ⟨s', -, -, hk⟩ := hp
  have hx : ∀ k, k ≠ zb → ¬ PX zb (.slice none 0 0) k := by
    rintro k hk (e | e)
    · exact hk e
    · simp [Value.ownBlock] at e
  exact ⟨h2.kp hk (hx _ (by omega)), h3.kp hk (hx _ (by omega)), h4.trans (hk.toBelow (Nat.le_trans h6 h4.size) (fun k hk => hx k (by omega))), h5, h6⟩
theorem addz {w u : World} {zb cb : Nat} (h : NB w zb cb u) : Calls Try.prog 31 #[.pointer (some ⟨zb, 0, none⟩), .bool true] u fun e w' => e = .returned (.int .i64 1) ∧ NA w zb cb w' := by
  refine (add_any zb none 0 0 [] true u h.1 (by simp)).mono ?_
  rintro e u' ⟨rfl, hp⟩
  exact ⟨rfl, h.put hp⟩

set_option maxHeartbeats 2000000 in
set_option maxRecDepth 100000 in
theorem nil_walk (i : Int) (w : World) : Calls Try.prog 9 #[.int .i64 i] w fun e w' => e = .returned (.bool true) ∧ Below w.heap.size w w' := by
  have hbd := build_new w
  have HBD := Lib.hid hbd
  clear hbd
  go_enter Try.func9, Try.ntmps9
  go_wp2_with fail
  have hget : Calls Try.prog 14 #[.agg #[.int .i64 0, .slice none 0 0], .int .i64 i] ((w.alloc (.cells #[.int .i64 0, .slice none 0 0] 67)).alloc (.cells #[.int .i64 0, .slice none 0 0] 28)) fun e w' => e = .returned (.tuple #[.bool false, .int .i64 13]) ∧ Below ((w.alloc (.cells #[.int .i64 0, .slice none 0 0] 67)).alloc (.cells #[.int .i64 0, .slice none 0 0] 28)).heap.size ((w.alloc (.cells #[.int .i64 0, .slice none 0 0] 67)).alloc (.cells #[.int .i64 0, .slice none 0 0] 28)) w' :=
    get_out (.slice none 0 0) [] i _ (Row_nil _) (by simp; omega) (by simp)
  refine hget.mono ?_
  clear hget
  rintro e w1 ⟨rfl, hb1⟩
  have hbd1 := (HBD.out.kept ((Below.refl _ _).alloc (Nat.le_refl _) (.cells #[.int .i64 0, .slice none 0 0] 28))).kept hb1
  have hbx1 := (Bx.new (w.alloc (.cells #[.int .i64 0, .slice none 0 0] 67)) 0 (.slice none 0 0)).kept hb1
  have hB1 : Below w.heap.size w w1 := (((Below.refl _ _).alloc (Nat.le_refl _) _).alloc (by simp) _).trans (hb1.mono (by simp; omega))
  simp only [World.size_alloc] at hbx1
  have H1 := Lib.hid (And.intro hbd1 (And.intro hbx1 hB1))
  clear hbd1 hbx1 hB1 hb1 HBD
  go_wp2_with fail
  refine (bits_nil _).mono ?_
  rintro e w2 ⟨rfl, hb2⟩
  obtain ⟨hbd1, hbx1, hB1⟩ := H1.out
  have hal : Below w2.heap.size w2 (w2.alloc (.cells #[.int .i64 0, .slice none 0 0] 28)) := (Below.refl _ _).alloc (Nat.le_refl _) _
  have hbd2 := (hbd1.kept hb2).kept hal
  have hbx2 := (hbx1.kept hb2).kept hal
  have hcx2 := Bx.new w2 0 (.slice none 0 0)
  have hB2 := (hB1.trans (hb2.mono hB1.size)).trans (hal.mono (Nat.le_trans hB1.size hb2.size))
  have hz : w.heap.size + 1 < w2.heap.size := (hbx1.kept hb2).lt
  have H2 := Lib.hid (And.intro hbd2 (And.intro hbx2 (And.intro hcx2 hB2)))
  clear hbd1 hbx1 hB1 hbd2 hbx2 hcx2 hB2 hb2 hal H1
  go_wp2
  generalize w2.heap.size = cb at *
  generalize (w2.alloc (.cells #[.int .i64 0, .slice none 0 0] 28)) = W at *
  obtain ⟨l1, l2⟩ := H2.out.2.1
  obtain ⟨l3, l4⟩ := H2.out.2.2.1
  have nb : NB w w.heap.size cb W := ⟨H2.out.1, H2.out.2.1, H2.out.2.2.1, H2.out.2.2.2, hz, Nat.le_refl _⟩
  clear H2
  go_region_held3 (fun w' => w'.cell? ⟨w.heap.size + 1, 0, none⟩ = some (.int .i64 0) ∧ w'.cell? ⟨w.heap.size + 1, 1, none⟩ = some (.slice none 0 0) ∧ w'.cell? ⟨cb, 0, none⟩ = some (.int .i64 0) ∧ w'.cell? ⟨cb, 1, none⟩ = some (.slice none 0 0))
    (first
      | go_keep
      | exact ⟨na.1.1, na.1.2, na.2.1.1, na.2.1.2⟩
      | exact ⟨nb.2.1.1, nb.2.1.2, nb.2.2.1.1, nb.2.2.1.2⟩)
    (first
      | (go_at_call 11; (with_reducible refine (awake_any _).mono ?_); rintro e u ⟨rfl, hb⟩; have nb := nb.drew.kept hb)
      | (go_at_call 31; (with_reducible refine (add_nil _ _).mono ?_); rintro e u ⟨rfl, rfl⟩)
      | (go_at_call 30; (with_reducible refine (put_nil _ _ _).mono ?_); rintro e u ⟨rfl, rfl⟩)
      | (go_at_call 31; (with_reducible refine (addz nb).mono ?_); rintro e u ⟨rfl, na⟩)
      | (go_at_call 20; (with_reducible refine (len0 _).mono ?_); rintro e u ⟨rfl, hb⟩; have na := na.kept hb)
      | (go_at_call 20; (with_reducible refine (len0 _).mono ?_); rintro e u ⟨rfl, hb⟩; have nb := nb.kept hb)
      | (go_at_call 21; (with_reducible refine (one0 _ _).mono ?_); rintro e u ⟨rfl, hb⟩; have na := na.kept hb)
      | (go_at_call 22; (with_reducible refine (ones0 _ _ _).mono ?_); rintro e u ⟨rfl, hb⟩; have na := na.kept hb)
      | (go_at_call 19; (with_reducible refine (list0 _).mono ?_); rintro e u ⟨⟨la, lcap, rfl⟩, hb⟩; have na := na.kept hb)
      | (go_at_call 24; (with_reducible refine (bytes0 _).mono ?_); rintro e u ⟨rfl, hb⟩; have na := na.kept hb))
  all_goals
    go_wp2
    go_ret
    exact ⟨rfl, na.2.2.1⟩

end Go.Proofs.Ytpbemhcibhnhkaa
