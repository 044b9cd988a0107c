/- The contracts of slices.Grow (of nil), slices.Concat (of two) and sample. -/
import Derived.Test.YtdepncdknofocaaXE
import Derived.Lib.AppendZeros
set_option maxRecDepth 100000
namespace Go.Proofs.Ytdepncdknofocaa
open Go.RowKit
open M
attribute [local go_sem ↓] Go.wp_at_zero Go.wp_at_succ

theorem grow_nil (k : Nat) (w : World) (hk : k ≤ 10000000) : Calls Try.prog 55 #[.slice none 0 0, .int .i64 (k : Int)] w fun e u => ∃ v, e = .returned v ∧ OwnI w v [] u := by
  by_cases h0 : k = 0
  · subst h0
    go_enter Try.func55, Try.ntmps55
    go_wp2
    go_ret
    exact ⟨_, rfl, World.ownsRow_nil _ _ _ _, Below.refl _ _⟩
  · obtain ⟨i0, hi, hz0, hz1, hz2⟩ := info_parts info3
    have hrz : ∀ ty, (Builtin.append_ #[22, 3] ty #[.slice none 0 0, .int .i64 (k : Int)]).run Try.prog w = .ok (.slice (some ⟨w.heap.size, 0, none⟩) k (grownCap w k 0 3)) (w.drew.alloc (.cells (Builtin.zeroCells (Value.int .i64 0).cells k ++ Builtin.zeroCells (Value.int .i64 0).cells (grownCap w k 0 3 - k)) 3)) := fun ty =>
      Lib.run_append_nil_zeros w 22 3 ty 3 i0 _ .i64 .i64 Try.underlying22 Try.underlying3 hi hz0 k (by omega) (by rw [hz1]; omega) (by omega) (by rw [hz2]; omega)
    have hG := grownCap_ge w k 0 3
    have hG2 := grownCap_le_maxLen w k 0 3 (by unfold maxLen; omega)
    generalize grownCap w k 0 3 = G at *
    have hsz : (Builtin.zeroCells (Value.int .i64 0).cells k ++ Builtin.zeroCells (Value.int .i64 0).cells (G - k)).size = G * 1 := by
      simp [Builtin.zeroCells, Value.cells]; omega
    have hown : OwnI w (.slice (some ⟨w.heap.size, 0, none⟩) 0 G) [] (w.drew.alloc (.cells (Builtin.zeroCells (Value.int .i64 0).cells k ++ Builtin.zeroCells (Value.int .i64 0).cells (G - k)) 3)) :=
      ⟨World.ownsRow_made (e := 3) (size := 1) w.drew _ G (Nat.le_refl _) hG2 hsz, ((Below.refl _ w).drew).alloc (Nat.le_refl _) _⟩
    obtain ⟨u, hu⟩ : ∃ u, u = w.drew.alloc (.cells (Builtin.zeroCells (Value.int .i64 0).cells k ++ Builtin.zeroCells (Value.int .i64 0).cells (G - k)) 3) := ⟨_, rfl⟩
    rw [← hu] at hown hrz
    have HO := Lib.hid hown
    clear hu hown hsz hi hz0 hz1 hz2
    unfold maxLen at hG2
    have q1 : ¬ ((k : Int) < 0) := by omega
    have q2 : (0 : Int) < (k : Int) := by omega
    have q3 : IntKind.i64.wrap ((k : Int)) = k := IntWalk.i64_in _ (by omega)
    go_enter Try.func55, Try.ntmps55
    go_wp2_with (at_builtin; refine Lib.wpList_append_run _ rfl _ _ _ _ rfl _ _ rfl rfl _ _ (hrz _) ?_)
    all_goals
      go_wp2
      go_ret
      exact ⟨_, rfl, HO.out⟩

set_option maxHeartbeats 2000000 in
theorem concat_any (S : Nat) (A B : Option Addr) (n m ca cb : Nat) (a b : List Int) (w : World) (c0 : w.cell? ⟨S, 0, none⟩ = some (.slice A n ca)) (c1 : w.cell? ⟨S, 1, none⟩ = some (.slice B m cb))
    (hA : NumsAt .i64 w A a) (hB : NumsAt .i64 w B b) (hla : a.length = n) (hlb : b.length = m) (hAn : A = none → n = 0 ∧ ca = 0) (hBn : B = none → m = 0 ∧ cb = 0) (hn : n ≤ 1000000) (hm : m ≤ 1000000) :
    Calls Try.prog 52 #[.slice (some ⟨S, 0, none⟩) 2 2] w fun e u => ∃ v, e = .returned v ∧ OwnI w v (a ++ b) u := by
  have hgr := grow_nil (n + m) w (by omega)
  rw [Int.natCast_add] at hgr
  have hS := World.block_lt_of_cell? w _ c0
  have HX := Lib.hid (And.intro hA (And.intro hB (And.intro hla (And.intro hlb (And.intro hAn (And.intro hBn (And.intro c0 (And.intro c1 (And.intro hgr hS)))))))))
  clear hA hB hla hlb hAn hBn hgr hS
  have z1 : IntKind.i64.wrap (n : Int) = n := IntWalk.i64_in _ (by omega)
  have z2 : IntKind.i64.wrap ((n : Int) + (m : Int)) = (n : Int) + m := IntWalk.i64_in _ (by omega)
  have z3 : ¬ ((n : Int) < 0) := by omega
  have z4 : ¬ ((n : Int) + (m : Int) < 0) := by omega
  go_enter Try.func52, Try.ntmps52
  go_wp2
  go_loopw [3, 5, 11] (fun v3 _ v11 wr => wr = w ∧ ((v11 = .int .i64 0 ∧ v3 = .int .i64 0) ∨ (v11 = .int .i64 1 ∧ v3 = .int .i64 (n : Int)) ∨ (v11 = .int .i64 2 ∧ v3 = .int .i64 (((n + m : Nat)) : Int)))) (fun _ _ v11 _ => 2 - (intOf v11).toNat)
  case atStart => exact ⟨rfl, .inl ⟨rfl, rfl⟩⟩
  case round =>
    obtain ⟨rfl, ⟨rfl, rfl⟩ | ⟨rfl, rfl⟩ | ⟨rfl, rfl⟩⟩ := hrel
    · go_wp2
      go_roundw
      case rel => exact ⟨trivial, .inr (.inl ⟨rfl, by go_num⟩)⟩
      case measure => simp [intOf]
    · go_wp2
      go_roundw
      case rel => exact ⟨trivial, .inr (.inr ⟨rfl, by go_num⟩)⟩
      case measure => simp [intOf]
    · clear z1 z2 z3 z4 c0 c1
      obtain ⟨w1, rfl⟩ : ∃ w1, w1 = wr := ⟨_, rfl⟩
      go_wp2_with fail
      (with_reducible refine HX.out.2.2.2.2.2.2.2.2.1.mono ?_)
      rintro e u ⟨v, rfl, hI⟩
      have HI := Lib.hid hI
      clear hI
      go_wp2
      go_loopw [6, 8, 27] (fun v6 _ v27 wq => (v27 = .int .i64 0 ∧ OwnI w1 v6 [] wq) ∨ (v27 = .int .i64 1 ∧ OwnI w1 v6 a wq) ∨ (v27 = .int .i64 2 ∧ OwnI w1 v6 (a ++ b) wq)) (fun _ _ v27 _ => 2 - (intOf v27).toNat)
      case atStart => exact .inl ⟨rfl, HI.out⟩
      case round =>
        obtain ⟨hA, hB, hla, hlb, hAn, hBn, c0, c1, hgr, hS⟩ := HX.out
        rcases hrel with ⟨rfl, hI⟩ | ⟨rfl, hI⟩ | ⟨rfl, hI⟩
        · rw [← hI.2.cell (p := ⟨S, 0, none⟩) hS] at c0
          have hA' := hA.kept hI.2
          have HH := Lib.hid (And.intro hI (And.intro hA' (And.intro hla hAn)))
          have hsz := hI.2.size
          clear HI HX hA hB hla hlb hAn hBn c1 hgr hI hA'
          go_wp2_with (first
            | (at_builtin
               refine wpList_append_nums rfl (.tmp 31) (.tmp 32) rfl w1.heap.size _ _ _ rfl HH.out.1.1 A n ca a rfl HH.out.2.2.1 HH.out.2.1 HH.out.2.2.2 ?c2 ?c3 ?_))
          case c2 => simp; omega
          case c3 => omega
          intro v' w5 hown hgrow _
          have hI5 := HH.out.1.app (l' := a) (by rw [HH.out.2.2.1]; simpa using hown) hgrow
          have HX5 := Lib.hid hI5
          clear hown hgrow hI5
          go_wp2
          go_roundw
          case rel => exact .inr (.inl ⟨rfl, HX5.out⟩)
          case measure => simp [intOf]
        · rw [← hI.2.cell (p := ⟨S, 1, none⟩) hS] at c1
          have hB' := hB.kept hI.2
          have HH := Lib.hid (And.intro hI (And.intro hB' (And.intro hlb (And.intro hBn hla))))
          have hsz := hI.2.size
          clear HI HX hA hB hla hlb hAn hBn c0 hgr hI hB'
          go_wp2_with (first
            | (at_builtin
               refine wpList_append_nums rfl (.tmp 31) (.tmp 32) rfl w1.heap.size _ _ _ rfl HH.out.1.1 B m cb b rfl HH.out.2.2.1 HH.out.2.1 HH.out.2.2.2.1 ?c2 ?c3 ?_))
          case c2 => rw [HH.out.2.2.2.2]; omega
          case c3 => omega
          intro v' w5 hown hgrow _
          have hI5 := HH.out.1.app (l' := a ++ b) (by rw [List.length_append, HH.out.2.2.1]; simpa using hown) hgrow
          have HX5 := Lib.hid hI5
          clear hown hgrow hI5
          go_wp2
          go_roundw
          case rel => exact .inr (.inr ⟨rfl, HX5.out⟩)
          case measure => simp [intOf]
        · have HH := Lib.hid hI
          clear HI HX hA hB hla hlb hAn hBn c0 c1 hgr hI
          go_wp2
          go_ret
          exact ⟨_, rfl, HH.out⟩

/-- The places of the sample. -/
def smp (n : Nat) : List Int := thL n 1 ++ thL n 2
theorem smp_len (n : Nat) : (smp n).length = thC n 1 + thC n 2 := by rw [smp, List.length_append, thL_len, thL_len]
theorem thC_le (n r : Nat) : thC n r ≤ n := by
  unfold thC
  have : thS n r < 3 := Nat.mod_lt _ (by omega)
  omega

theorem nums_nil {k : IntKind} {w : World} {A : Option Addr} {l : List Int} {n : Nat} (h : NumsAt k w A l) (hl : l.length = n) (hA : A = none) : n = 0 := by
  rcases h with h | ⟨_, _, h, _⟩
  · rw [← hl, h]; rfl
  · rw [hA] at h; cases h
theorem sample_any (n : Nat) (w : World) (hn : n ≤ 1000000) : Calls Try.prog 40 #[.int .i64 (n : Int)] w fun e u => ∃ v, e = .returned v ∧ OwnI w v (smp n) u := by
  have t1 : ∀ u, Calls Try.prog 53 #[.int .i64 (n : Int), .int .i64 1] u fun e u' => ∃ v, e = .returned v ∧ OwnI u v (thL n 1) u' := fun u => thirds_any n 1 u hn (by omega)
  have t2 : ∀ u, Calls Try.prog 53 #[.int .i64 (n : Int), .int .i64 2] u fun e u' => ∃ v, e = .returned v ∧ OwnI u v (thL n 2) u' := fun u => thirds_any n 2 u hn (by omega)
  have HT := Lib.hid (And.intro t1 t2)
  clear t1 t2
  go_enter Try.func40, Try.ntmps40
  go_wp2_with fail
  (with_reducible refine (HT.out.1 _).mono ?_)
  rintro e u1 ⟨v1, rfl, hI1⟩
  have H1 := Lib.hid hI1
  clear hI1
  go_wp2_with fail
  (with_reducible refine (HT.out.2 _).mono ?_)
  rintro e u2 ⟨v2, rfl, hI2⟩
  obtain ⟨A, ca, rfl, hA, hla, -, -, hAn⟩ := nums_of_own H1.out.1
  obtain ⟨B, cb, rfl, hB, hlb, -, -, hBn⟩ := nums_of_own hI2.1
  have hla' := thL_len n 1
  have hlb' := thL_len n 2
  rw [hla', hlb']
  have hb3 : Below u2.heap.size u2 (u2.alloc (.cells #[.slice A (thC n 1) ca, .slice B (thC n 2) cb] 22)) := (Below.refl _ _).alloc (Nat.le_refl _) _
  have hc := concat_any u2.heap.size A B (thC n 1) (thC n 2) ca cb (thL n 1) (thL n 2) (u2.alloc (.cells #[.slice A (thC n 1) ca, .slice B (thC n 2) cb] 22)) (by rw [cell_new _ _ _ _ _ rfl]; rfl) (by rw [cell_new _ _ _ _ _ rfl]; rfl) ((hA.kept hI2.2).kept hb3) (hB.kept hb3) (thL_len _ _) (thL_len _ _) (fun h => ⟨nums_nil hA hla' h, hAn h⟩) (fun h => ⟨nums_nil hB hlb' h, hBn h⟩) (by have := thC_le n 1; omega) (by have := thC_le n 2; omega)
  have HC := Lib.hid (And.intro hc ((H1.out.2.trans (hI2.2.mono H1.out.2.size)).trans (hb3.mono (H1.out.2.trans (hI2.2.mono H1.out.2.size)).size)))
  clear hc hb3 hA hB hI2 hla hlb hAn hBn hla' hlb'
  go_wp2_with fail
  (with_reducible refine HC.out.1.mono ?_)
  rintro e u3 ⟨v, rfl, hI⟩
  have HF := Lib.hid hI
  clear hI
  go_wp2
  go_ret
  exact ⟨v, rfl, own_mono HF.out.1 HC.out.2.size, HC.out.2.trans (HF.out.2.mono HC.out.2.size)⟩

end Go.Proofs.Ytdepncdknofocaa
