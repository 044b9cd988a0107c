/- The document's Ranks. -/
import Derived.Test.YtjijkiafjlfeiaaOM
set_option maxRecDepth 100000
namespace Go.Proofs.Ytjijkiafjlfeiaa
open Go.RowKit
open M
attribute [local go_sem ↓] Go.wp_at_zero Go.wp_at_succ

def fstN (κ : Int → Int) (k j : Nat) : Bool := (List.range j).all fun i : Nat => decide (κ i ≠ κ k)
theorem fstN_succ (κ : Int → Int) (k j : Nat) : fstN κ k (j + 1) = (fstN κ k j && decide (κ j ≠ κ k)) := by
  unfold fstN
  rw [List.range_succ, List.all_append]; simp
theorem fstN_all (κ : Int → Int) (k : Nat) : fstN κ k k = fstB κ k := rfl
def lessN (κ : Int → Int) (v : Int) (k : Nat) : Nat := ((List.range k).filter fun i : Nat => decide (κ i < v) && fstB κ i).length
theorem lessN_succ (κ : Int → Int) (v : Int) (k : Nat) : lessN κ v (k + 1) = lessN κ v k + if (decide (κ k < v) && fstB κ k) = true then 1 else 0 := by
  unfold lessN
  rw [List.range_succ, List.filter_append, List.length_append, List.filter_cons]
  split <;> rfl
theorem lessN_all (κ : Int → Int) (v : Int) (n : Nat) : lessN κ v n = nless κ n v := rfl
theorem lessN_le (κ : Int → Int) (v : Int) (k : Nat) : lessN κ v k ≤ k := Nat.le_trans (List.length_filter_le _ _) (by rw [List.length_range]; exact Nat.le_refl _)
theorem rnk_snoc (κ : Int → Int) (n i : Nat) (h : i < n) : (rnkL κ n).take (i + 1) = (rnkL κ n).take i ++ [((nless κ n (κ i) : Nat) : Int)] := by
  rw [takeI_snoc _ i (by rw [rnkL_length]; exact h), rnkL_at κ n i h]

set_option maxHeartbeats 8000000 in
theorem rranks_any (A : Option Addr) (n c : Nat) (l : List Int) (w : World) (hA : NumsAt .i64 w A l) (hl : l.length = n) (hn : n ≤ 1000000) :
    Calls Try.prog 16 #[.slice A n c] w fun e u => ∃ v, e = .returned v ∧ OwnI w v (rnkL (kyI l) n) u := by
  obtain ⟨κ, hκ⟩ : ∃ κ, κ = kyI l := ⟨_, rfl⟩
  rw [← hκ]
  have hky : ∀ i : Nat, l.getD i 0 = κ i := fun i => by rw [hκ]; unfold kyI; rw [Int.toNat_natCast]
  have HX := Lib.hid (And.intro hA (And.intro hl hky))
  clear hA hl hky hκ
  go_enter Try.func16, Try.ntmps16
  go_wp2
  go_loopw [3, 4, 5, 6, 7, 8] (fun v3 v4 _ _ _ _ wr => ∃ i : Nat, i ≤ n ∧ v4 = .int .i64 (i : Int) ∧ OwnI w v3 ((rnkL κ n).take i) wr) (fun _ v4 _ _ _ _ _ => n - (intOf v4).toNat)
  case atStart => exact ⟨0, Nat.zero_le _, rfl, World.ownsRow_nil _ _ _ _, Below.refl _ _⟩
  case round =>
    obtain ⟨i, hin, rfl, hI⟩ := hrel
    by_cases hlt : i < n
    · have q1 : (i : Int) < (n : Int) := by omega
      have q2 : (0 : Int) ≤ (i : Int) := by omega
      obtain ⟨w5, rfl⟩ : ∃ w5, w5 = wr := ⟨_, rfl⟩
      have HI := Lib.hid hI
      clear hI
      go_wp2
      go_loopw [5, 6, 7, 8] (fun v5 v6 _ _ wq => ∃ k : Nat, k ≤ n ∧ v6 = .int .i64 (k : Int) ∧ v5 = .int .i64 (lessN κ (κ i) k : Nat) ∧ Below w5.heap.size w5 wq) (fun _ v6 _ _ _ => n - (intOf v6).toNat)
      case atStart => exact ⟨0, Nat.zero_le _, rfl, rfl, Below.refl _ _⟩
      case round =>
        obtain ⟨k, hkn, rfl, rfl, hbk⟩ := hrel
        by_cases hlt2 : k < n
        · have hnk := HX.out.1.kept (HI.out.2.trans (hbk.mono HI.out.2.size))
          obtain ⟨bb, off, hAe, -, ci⟩ := num_at hnk (i := i) (by rw [HX.out.2.1]; exact hlt)
          obtain ⟨bb2, off2, hAe2, -, ck⟩ := num_at hnk (i := k) (by rw [HX.out.2.1]; exact hlt2)
          rw [hAe] at hAe2
          simp only [Option.some.injEq, Addr.mk.injEq, and_true] at hAe2
          obtain ⟨rfl, rfl⟩ := hAe2
          rw [HX.out.2.2] at ci ck
          have HBK := Lib.hid hbk
          have hcl := lessN_le κ (κ i) k
          have hcs := lessN_succ κ (κ i) k
          have HCS := Lib.hid hcs
          subst hAe
          clear hnk hbk hcs
          have q3 : (k : Int) < (n : Int) := by omega
          have q4 : (0 : Int) ≤ (k : Int) := by omega
          obtain ⟨ct, hct⟩ : ∃ ct, ct = lessN κ (κ i) k := ⟨_, rfl⟩
          rw [← hct] at hcl HCS ⊢
          clear hct
          obtain ⟨b0, hb0⟩ : ∃ b0, b0 = decide (κ k < κ i) := ⟨_, rfl⟩
          have HB0 := Lib.hid hb0
          obtain ⟨w6, rfl⟩ : ∃ w6, w6 = wr := ⟨_, rfl⟩
          go_wp2
          go_quiet (fail)
          go_wp2
          go_loopw [7, 8] (fun v7 v8 wz => ∃ j : Nat, j ≤ k ∧ v8 = .int .i64 (j : Int) ∧ v7 = .bool (b0 && fstN κ k j) ∧ Below w6.heap.size w6 wz) (fun _ v8 _ => k - (intOf v8).toNat)
          case atStart => exact ⟨0, Nat.zero_le _, rfl, by rw [show fstN κ k 0 = true from rfl, Bool.and_true, HB0.out], below_drewN w6 _⟩
          case round =>
            obtain ⟨j, hjk, rfl, rfl, hbj⟩ := hrel
            by_cases hlt3 : j < k
            · have hnj := HX.out.1.kept (HI.out.2.trans ((HBK.out.trans (hbj.mono HBK.out.size)).mono HI.out.2.size))
              obtain ⟨bb3, off3, hAe3, -, dj⟩ := num_at hnj (i := j) (by rw [HX.out.2.1]; omega)
              obtain ⟨bb4, off4, hAe4, -, dk⟩ := num_at hnj (i := k) (by rw [HX.out.2.1]; exact hlt2)
              simp only [Option.some.injEq, Addr.mk.injEq, and_true] at hAe3 hAe4
              obtain ⟨rfl, rfl⟩ := hAe3
              obtain ⟨rfl, rfl⟩ := hAe4
              rw [HX.out.2.2] at dj dk
              have hfs := fstN_succ κ k j
              have hfin : ∀ nq, Below w6.heap.size w6 (wr.drewN nq) := fun nq => hbj.trans ((below_drewN wr nq).mono hbj.size)
              have HF := Lib.hid (And.intro hfin hfs)
              clear hfin hfs hnj hbj hb0
              have q5 : (j : Int) < (k : Int) := by omega
              have q6 : (0 : Int) ≤ (j : Int) := by omega
              have q7 : (j : Int) < (n : Int) := by omega
              obtain ⟨b, hb⟩ : ∃ b, b = (b0 && fstN κ k j) := ⟨_, rfl⟩
              rw [← hb]
              have HBB := Lib.hid hb
              clear hb
              rcases b with _ | _
              · go_wp2
                go_quiet (fail)
                go_wp2
                go_roundw
                case rel => exact ⟨j + 1, by omega, by go_num, by rw [HF.out.2, ← Bool.and_assoc, ← HBB.out]; rfl, HF.out.1 _⟩
                case measure => simp [intOf]; omega
              · by_cases e : κ j = κ k
                · have d1 : (κ j == κ k) = true := by simpa using e
                  have HE := Lib.hid e
                  generalize κ j = x at *
                  subst e
                  go_wp2
                  go_quiet (fail)
                  go_wp2
                  go_roundw
                  case rel => exact ⟨j + 1, by omega, by go_num, by rw [HF.out.2, ← Bool.and_assoc, ← HBB.out]; simp, HF.out.1 _⟩
                  case measure => simp [intOf]; omega
                · have d1 : (κ j == κ k) = false := by simpa using e
                  generalize κ j = x at *
                  go_wp2
                  go_quiet (fail)
                  go_wp2
                  go_roundw
                  case rel => exact ⟨j + 1, by omega, by go_num, by rw [HF.out.2, ← Bool.and_assoc, ← HBB.out]; simp [e], HF.out.1 _⟩
                  case measure => simp [intOf]; omega
            · obtain rfl : j = k := by omega
              have q5 : ¬ (j : Int) < (j : Int) := by omega
              have hbq := HBK.out.trans (hbj.mono HBK.out.size)
              have HF := Lib.hid hbq
              clear hbq hbj hb0
              obtain ⟨b, hb⟩ : ∃ b, b = (b0 && fstN κ j j) := ⟨_, rfl⟩
              have hcs2 := HCS.out
              rw [← fstN_all, ← HB0.out, ← hb] at hcs2
              rw [← hb]
              have HC2 := Lib.hid hcs2
              clear hb hcs2
              rcases b with _ | _
              · go_wp2
                go_roundw
                case rel => exact ⟨j + 1, by omega, by go_num, by rw [HC2.out]; rfl, HF.out⟩
                case measure => simp [intOf]; omega
              · go_wp2
                go_roundw
                case rel => exact ⟨j + 1, by omega, by go_num, by rw [HC2.out, if_pos rfl]; go_num, HF.out⟩
                case measure => simp [intOf]; omega
        · obtain rfl : k = n := by omega
          have q3 : ¬ (k : Int) < (k : Int) := by omega
          have hI2 := HI.out.kept hbk
          have hsn := rnk_snoc κ k i hlt
          have hln : ((rnkL κ k).take i).length = i := by rw [List.length_take, rnkL_length]; omega
          rw [lessN_all]
          have hsz := hI2.2.size
          have HM := Lib.hid (And.intro hI2 (And.intro hsn hln))
          clear hI2 hsn hln hbk
          generalize nless κ k (κ i) = y at *
          go_wp2_with (first
            | (at_builtin
               refine wpList_append_nums rfl (.tmp 50) (.tmp 52) rfl w.heap.size _ _ _ rfl (HM.out.1.alloc _).1 (some ⟨_, 0, none⟩) 1 1 [(y : Int)] rfl rfl ?c1 (by simp) ?c2 ?c3 ?_))
          case c1 => exact nums_one _ _
          case c2 => first | omega | (rw [HM.out.2.2]; omega)
          case c3 => first | omega | (simp; omega)
          intro v' w7 hown hgrow _
          have hI5 := (HM.out.1.alloc _).app (l' := (rnkL κ k).take i ++ [(y : Int)]) (by simpa using hown) hgrow
          have HX5 := Lib.hid hI5
          clear hown hgrow hI5
          go_wp2
          go_roundw
          case rel => exact ⟨i + 1, by omega, by go_num, by rw [HM.out.2.1]; exact HX5.out⟩
          case measure => simp [intOf]; omega
    · obtain rfl : i = n := by omega
      have HF := Lib.hid hI
      clear hI
      have q1 : ¬ (i : Int) < (i : Int) := by omega
      go_wp2
      go_ret
      refine ⟨_, rfl, ?_⟩
      have := HF.out
      rw [List.take_of_length_le (by rw [rnkL_length]; exact Nat.le_refl _)] at this
      exact this

end Go.Proofs.Ytjijkiafjlfeiaa
