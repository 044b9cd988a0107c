/- The document's Pairs. -/
import Derived.Test.YtjijkiafjlfeiaaOR
set_option maxRecDepth 100000
namespace Go.Proofs.Ytjijkiafjlfeiaa
open Go.RowKit
open M
attribute [local go_sem ↓] Go.wp_at_zero Go.wp_at_succ

theorem pair_lt {a b : List Int} {n : Nat} (hb : b.length = n) (h64 : I64s b) {x y : Nat} (hx : x < n) (hy : y < n) : kyP a b x < kyP a b y ↔ a.getD x 0 < a.getD y 0 ∨ (a.getD x 0 = a.getD y 0 ∧ b.getD x 0 < b.getD y 0) := by
  have h1 := ky_in h64 (x := (x : Int)) (by omega)
  have h2 := ky_in h64 (x := (y : Int)) (by omega)
  unfold kyP
  unfold kyI at h1 h2 ⊢
  rw [Int.toNat_natCast] at h1 h2 ⊢
  rw [Int.toNat_natCast]
  omega

/-- Is a pair less? -/
theorem rless_any (A B : Option Addr) (n ca cb : Nat) (a b : List Int) (x y : Nat) (w : World) (hA : NumsAt .i64 w A a) (hB : NumsAt .i64 w B b) (hl : a.length = n) (hlb : b.length = n) (hx : x < n) (hy : y < n) (h64 : I64s b) :
    Calls Try.prog 34 #[.slice A n ca, .slice B n cb, .int .i64 (x : Int), .int .i64 (y : Int)] w fun e u => e = .returned (.bool (decide (kyP a b x < kyP a b y))) ∧ ∃ q, u = w.drewN q := by
  have hpl := pair_lt (a := a) hlb h64 hx hy
  obtain ⟨bb, off, hAe, -, hax⟩ := num_at hA (i := x) (by omega)
  obtain ⟨bb2, off2, hAe2, -, hay⟩ := num_at hA (i := y) (by omega)
  obtain ⟨cc, cof, hBe, -, hbx⟩ := num_at hB (i := x) (by omega)
  obtain ⟨cc2, cof2, hBe2, -, hby⟩ := num_at hB (i := y) (by omega)
  rw [hAe] at hAe2
  rw [hBe] at hBe2
  simp only [Option.some.injEq, Addr.mk.injEq, and_true] at hAe2 hBe2
  obtain ⟨rfl, rfl⟩ := hAe2
  obtain ⟨rfl, rfl⟩ := hBe2
  have HP := Lib.hid hpl
  subst hAe hBe
  clear hpl hA hB hl hlb h64
  generalize a.getD x 0 = a0 at *
  generalize a.getD y 0 = a1 at *
  generalize b.getD x 0 = b0 at *
  generalize b.getD y 0 = b1 at *
  have q1 : (x : Int) < (n : Int) := by omega
  have q2 : (y : Int) < (n : Int) := by omega
  have q3 : (0 : Int) ≤ (x : Int) := by omega
  have q4 : (0 : Int) ≤ (y : Int) := by omega
  rcases Int.lt_trichotomy a0 a1 with h | h | h
  · have d1 : decide (a0 < a1) = true := decide_eq_true h
    go_enter Try.func34, Try.ntmps34
    go_wp2
    go_quiet (fail)
    go_wp2
    go_ret
    exact ⟨by rw [decide_eq_true (HP.out.2 (.inl h))]; rfl, _, rfl⟩
  · subst h
    have d1 : decide (a0 < a0) = false := by simp
    have d2 : (a0 == a0) = true := by simp
    by_cases hb : b0 < b1
    · have d3 : decide (b0 < b1) = true := decide_eq_true hb
      go_enter Try.func34, Try.ntmps34
      go_wp2
      go_quiet (fail)
      go_wp2
      go_ret
      exact ⟨by rw [decide_eq_true (HP.out.2 (.inr ⟨trivial, hb⟩))]; rfl, _, rfl⟩
    · have d3 : decide (b0 < b1) = false := decide_eq_false hb
      go_enter Try.func34, Try.ntmps34
      go_wp2
      go_quiet (fail)
      go_wp2
      go_ret
      refine ⟨?_, _, rfl⟩
      rw [decide_eq_false (fun h => by have h2 := HP.out.1 h; omega)]; rfl
  · have d1 : decide (a0 < a1) = false := decide_eq_false (by omega)
    have d2 : (a0 == a1) = false := by simp; omega
    go_enter Try.func34, Try.ntmps34
    go_wp2
    go_quiet (fail)
    go_wp2
    go_ret
    refine ⟨?_, _, rfl⟩
    rw [decide_eq_false (fun h => by have h2 := HP.out.1 h; omega)]; rfl

set_option maxHeartbeats 8000000 in
theorem rpairs_any (A B : Option Addr) (n ca cb : Nat) (a b : List Int) (w : World) (hA : NumsAt .i64 w A a) (hB : NumsAt .i64 w B b) (hl : a.length = n) (hlb : b.length = n) (hn : n ≤ 1000000) (h64 : I64s b) :
    Calls Try.prog 18 #[.slice A n ca, .slice B n cb] w fun e u => ∃ v, e = .returned v ∧ OwnI w v (rnkL (kyP a b) n) u := by
  obtain ⟨κ, hκ⟩ : ∃ κ, κ = kyP a b := ⟨_, rfl⟩
  have hls := fun (x y : Nat) (hx : x < n) (hy : y < n) (u : World) (hb : Below w.heap.size w u) => rless_any A B n ca cb a b x y u (hA.kept hb) (hB.kept hb) hl hlb hx hy h64
  have hpe := fun (x y : Nat) (hx : x < n) (hy : y < n) => pair_eq (a := a) hlb h64 hx hy
  rw [← hκ] at hls hpe ⊢
  have HX := Lib.hid (And.intro hA (And.intro hl (And.intro hB (And.intro hlb (And.intro hls hpe)))))
  clear hA hl hκ hB hlb hls hpe
  go_enter Try.func18, Try.ntmps18
  go_wp2
  go_loopw [5, 6, 7, 8, 9, 10] (fun v3 v4 _ _ _ _ wr => ∃ i : Nat, i ≤ n ∧ v4 = .int .i64 (i : Int) ∧ OwnI w v3 ((rnkL κ n).take i) wr) (fun _ v4 _ _ _ _ _ => n - (intOf v4).toNat)
  case atStart => exact ⟨0, Nat.zero_le _, rfl, World.ownsRow_nil _ _ _ _, Below.refl _ _⟩
  case round =>
    obtain ⟨i, hin, rfl, hI⟩ := hrel
    by_cases hlt : i < n
    · have q1 : (i : Int) < (n : Int) := by omega
      have q2 : (0 : Int) ≤ (i : Int) := by omega
      obtain ⟨w5, rfl⟩ : ∃ w5, w5 = wr := ⟨_, rfl⟩
      have HI := Lib.hid hI
      clear hI
      go_wp2
      go_loopw [7, 8, 9, 10] (fun v5 v6 _ _ wq => ∃ k : Nat, k ≤ n ∧ v6 = .int .i64 (k : Int) ∧ v5 = .int .i64 (lessN κ (κ i) k : Nat) ∧ Below w5.heap.size w5 wq) (fun _ v6 _ _ _ => n - (intOf v6).toNat)
      case atStart => exact ⟨0, Nat.zero_le _, rfl, rfl, Below.refl _ _⟩
      case round =>
        obtain ⟨k, hkn, rfl, rfl, hbk⟩ := hrel
        by_cases hlt2 : k < n
        · have hbw := HI.out.2.trans (hbk.mono HI.out.2.size)
          have hlc := HX.out.2.2.2.2.1 k i hlt2 hlt wr hbw
          have HLC := Lib.hid hlc
          have HBK := Lib.hid hbk
          have hcl := lessN_le κ (κ i) k
          have hcs := lessN_succ κ (κ i) k
          have HCS := Lib.hid hcs
          clear hbk hcs hbw hlc
          have q3 : (k : Int) < (n : Int) := by omega
          have q4 : (0 : Int) ≤ (k : Int) := by omega
          obtain ⟨ct, hct⟩ : ∃ ct, ct = lessN κ (κ i) k := ⟨_, rfl⟩
          rw [← hct] at hcl HCS ⊢
          clear hct
          obtain ⟨b0, hb0⟩ : ∃ b0, b0 = decide (κ k < κ i) := ⟨_, rfl⟩
          have HB0 := Lib.hid hb0
          rw [← hb0] at HLC
          obtain ⟨w6, rfl⟩ : ∃ w6, w6 = wr := ⟨_, rfl⟩
          clear hb0
          go_wp2_with fail
          (with_reducible refine HLC.out.mono ?_)
          rintro e u1 ⟨rfl, q, rfl⟩
          go_wp2
          go_loopw [9, 10] (fun v7 v8 wz => ∃ j : Nat, j ≤ k ∧ v8 = .int .i64 (j : Int) ∧ v7 = .bool (b0 && fstN κ k j) ∧ Below w6.heap.size w6 wz) (fun _ v8 _ => k - (intOf v8).toNat)
          case atStart => exact ⟨0, Nat.zero_le _, rfl, by rw [show fstN κ k 0 = true from rfl, Bool.and_true], below_drewN w6 _⟩
          case round =>
            obtain ⟨j, hjk, rfl, rfl, hbj⟩ := hrel
            by_cases hlt3 : j < k
            · have hbz := HI.out.2.trans ((HBK.out.trans (hbj.mono HBK.out.size)).mono HI.out.2.size)
              have hnj := HX.out.1.kept hbz
              have hmj := HX.out.2.2.1.kept hbz
              obtain ⟨bb3, off3, hAe3, -, dj⟩ := num_at hnj (i := j) (by rw [HX.out.2.1]; omega)
              obtain ⟨bb4, off4, hAe4, -, dk⟩ := num_at hnj (i := k) (by rw [HX.out.2.1]; exact hlt2)
              obtain ⟨cc3, cff3, hBe3, -, ej⟩ := num_at hmj (i := j) (by rw [HX.out.2.2.2.1]; omega)
              obtain ⟨cc4, cff4, hBe4, -, ek⟩ := num_at hmj (i := k) (by rw [HX.out.2.2.2.1]; exact hlt2)
              rw [hAe3] at hAe4
              rw [hBe3] at hBe4
              simp only [Option.some.injEq, Addr.mk.injEq, and_true] at hAe4 hBe4
              obtain ⟨rfl, rfl⟩ := hAe4
              obtain ⟨rfl, rfl⟩ := hBe4
              have hpe := HX.out.2.2.2.2.2 j k (by omega) hlt2
              have HPE := Lib.hid hpe
              subst hAe3 hBe3
              clear hbz hpe
              have hfs := fstN_succ κ k j
              have hfin : ∀ nq, Below w6.heap.size w6 (wr.drewN nq) := fun nq => hbj.trans ((below_drewN wr nq).mono hbj.size)
              have HF := Lib.hid (And.intro hfin hfs)
              clear hfin hfs hnj hmj hbj
              have q5 : (j : Int) < (k : Int) := by omega
              have q6 : (0 : Int) ≤ (j : Int) := by omega
              have q7 : (j : Int) < (n : Int) := by omega
              obtain ⟨b, hb⟩ : ∃ b, b = (b0 && fstN κ k j) := ⟨_, rfl⟩
              rw [← hb]
              have HBB := Lib.hid hb
              clear hb
              rcases b with _ | _
              · go_wp2
                go_quiet (fail)
                go_wp2
                go_roundw
                case rel => exact ⟨j + 1, by omega, by go_num, by rw [HF.out.2, ← Bool.and_assoc, ← HBB.out]; rfl, HF.out.1 _⟩
                case measure => simp [intOf]; omega
              · generalize a.getD j 0 = x at *
                generalize a.getD k 0 = y at *
                generalize b.getD j 0 = x2 at *
                generalize b.getD k 0 = y2 at *
                by_cases e : x = y
                · have d1 : (x == y) = true := by simpa using e
                  subst e
                  by_cases e2 : x2 = y2
                  · have d2 : (x2 == y2) = true := by simpa using e2
                    subst e2
                    have he : κ j = κ k := HPE.out.2 ⟨rfl, rfl⟩
                    have HE := Lib.hid he
                    clear he
                    go_wp2
                    go_quiet (fail)
                    go_wp2
                    go_roundw
                    case rel => exact ⟨j + 1, by omega, by go_num, by rw [HF.out.2, ← Bool.and_assoc, ← HBB.out, HE.out]; simp, HF.out.1 _⟩
                    case measure => simp [intOf]; omega
                  · have d2 : (x2 == y2) = false := by simpa using e2
                    have he : κ j ≠ κ k := fun h => e2 (HPE.out.1 h).2
                    have HE := Lib.hid he
                    clear he
                    go_wp2
                    go_quiet (fail)
                    go_wp2
                    go_roundw
                    case rel => exact ⟨j + 1, by omega, by go_num, by rw [HF.out.2, ← Bool.and_assoc, ← HBB.out, decide_eq_true HE.out]; first | rfl | simp [*], HF.out.1 _⟩
                    case measure => simp [intOf]; omega
                · have d1 : (x == y) = false := by simpa using e
                  have he : κ j ≠ κ k := fun h => e (HPE.out.1 h).1
                  have HE := Lib.hid he
                  clear he
                  go_wp2
                  go_quiet (fail)
                  go_wp2
                  go_roundw
                  case rel => exact ⟨j + 1, by omega, by go_num, by rw [HF.out.2, ← Bool.and_assoc, ← HBB.out, decide_eq_true HE.out]; first | rfl | simp [*], HF.out.1 _⟩
                  case measure => simp [intOf]; omega
            · obtain rfl : j = k := by omega
              have q5 : ¬ (j : Int) < (j : Int) := by omega
              have hbq := HBK.out.trans (hbj.mono HBK.out.size)
              have HF := Lib.hid hbq
              clear hbq hbj
              obtain ⟨b, hb⟩ : ∃ b, b = (b0 && fstN κ j j) := ⟨_, rfl⟩
              have hcs2 := HCS.out
              rw [← fstN_all, ← HB0.out, ← hb] at hcs2
              rw [← hb]
              have HC2 := Lib.hid hcs2
              clear hb hcs2
              rcases b with _ | _
              · go_wp2
                go_roundw
                case rel => exact ⟨j + 1, by omega, by go_num, by rw [HC2.out]; rfl, HF.out⟩
                case measure => simp [intOf]; omega
              · go_wp2
                go_roundw
                case rel => exact ⟨j + 1, by omega, by go_num, by rw [HC2.out, if_pos rfl]; go_num, HF.out⟩
                case measure => simp [intOf]; omega
        · obtain rfl : k = n := by omega
          have q3 : ¬ (k : Int) < (k : Int) := by omega
          have hI2 := HI.out.kept hbk
          have hsn := rnk_snoc κ k i hlt
          have hln : ((rnkL κ k).take i).length = i := by rw [List.length_take, rnkL_length]; omega
          rw [lessN_all]
          have hsz := hI2.2.size
          have HM := Lib.hid (And.intro hI2 (And.intro hsn hln))
          clear hI2 hsn hln hbk
          generalize nless κ k (κ i) = y at *
          go_wp2_with (first
            | (at_builtin
               refine wpList_append_nums rfl (.tmp 59) (.tmp 61) rfl w.heap.size _ _ _ rfl (HM.out.1.alloc _).1 (some ⟨_, 0, none⟩) 1 1 [(y : Int)] rfl rfl ?c1 (by simp) ?c2 ?c3 ?_))
          case c1 => exact nums_one _ _
          case c2 => first | omega | (rw [HM.out.2.2]; omega)
          case c3 => first | omega | (simp; omega)
          intro v' w7 hown hgrow _
          have hI5 := (HM.out.1.alloc _).app (l' := (rnkL κ k).take i ++ [(y : Int)]) (by simpa using hown) hgrow
          have HX5 := Lib.hid hI5
          clear hown hgrow hI5
          go_wp2
          go_roundw
          case rel => exact ⟨i + 1, by omega, by go_num, by rw [HM.out.2.1]; exact HX5.out⟩
          case measure => simp [intOf]; omega
    · obtain rfl : i = n := by omega
      have HF := Lib.hid hI
      clear hI
      have q1 : ¬ (i : Int) < (i : Int) := by omega
      go_wp2
      go_ret
      refine ⟨_, rfl, ?_⟩
      have := HF.out
      rw [List.take_of_length_le (by rw [rnkL_length]; exact Nat.le_refl _)] at this
      exact this

end Go.Proofs.Ytjijkiafjlfeiaa
