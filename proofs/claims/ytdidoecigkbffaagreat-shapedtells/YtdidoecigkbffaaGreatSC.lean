/- A row of numbers put in order in place: the order by insertion of the library's stable sort. -/
import Derived.Test.YtdidoecigkbffaaGreatSB
set_option maxRecDepth 100000
namespace Go.Proofs.YtdidoecigkbffaaGreat
open Go.RowKit
open S

/-- What is asked of the closure: it tells the difference of two keys, and only reads. -/
def CmpI (w : World) (g : Nat) (cb : Value) (D : Int → Prop) (κ : Int → Int) : Prop :=
  ∀ u, Kp (fun k => k = g) w u → ∀ x y, D x → D y → Calls Tryz.prog 35 #[.int .i64 x, .int .i64 y, cb] u fun e u' => e = .returned (.int .i64 (κ x - κ y)) ∧ ∃ n, u' = u.drewN n

theorem Kp.drewN {X : Nat → Prop} {a w : World} (h : Kp X a w) (n : Nat) : Kp X a (w.drewN n) := ⟨h.os, h.tape, h.output, h.size, h.block⟩
theorem Arr.drewN {w u : World} {g n : Nat} {f : Nat → Int} (h : Arr w g n f u) (q : Nat) : Arr w g n f (u.drewN q) := ⟨fun i hi => by simpa using h.cell i hi, fun i hi => by simpa using h.frz i hi, h.kp.drewN q⟩

theorem same_dom {α : Type} {κ : α → Int} {D : α → Prop} {n : Nat} {f f' : Nat → α} (h : Same κ (seg f 0 n) (seg f' 0 n)) (hD : ∀ i, i < n → D (f i)) : ∀ i, i < n → D (f' i) := by
  intro i hi
  have := h.symm.mem (mem_seg.2 ⟨i, Nat.zero_le _, hi, rfl⟩)
  obtain ⟨j, -, j2, j3⟩ := mem_seg.1 this
  rw [← j3]; exact hD j j2

set_option maxHeartbeats 2000000 in
theorem insertion_any (g n cap a b : Nat) (f : Nat → Int) (cb : Value) (D : Int → Prop) (κ : Int → Int) (w u : World) (h : Arr w g n f u) (hC : CmpI w g cb D κ) (hD : ∀ i, i < n → D (f i)) (hab : a ≤ b) (hb : b ≤ n) (hn : n ≤ 1000000) :
    Calls Tryz.prog 77 #[.slice (some ⟨g, 0, none⟩) n cap, .int .i64 (a : Int), .int .i64 (b : Int), .func (.func 35) #[] #[cb]] u fun e u' => e = .returned (.tuple #[]) ∧ ∃ f', Arr w g n f' u' ∧ Srt κ n f a b f' := by
  have H := Lib.hid h
  have HC := Lib.hid hC
  have HD := Lib.hid hD
  clear h hC hD
  go_enter Tryz.func77, Tryz.ntmps77
  go_wp2
  go_loopw [8] (fun v wr => ∃ (i : Nat) (f' : Nat → Int), a < i ∧ i ≤ b + 1 ∧ v = .int .i64 (i : Int) ∧ Arr w g n f' wr ∧ Same κ (seg f 0 n) (seg f' 0 n) ∧ Up κ f' a i ∧ ∀ k, k < a ∨ b ≤ k → f' k = f k) (fun v _ => b + 1 - (intOf v).toNat)
  case atStart => exact ⟨a + 1, f, by omega, by omega, by go_num, H.out, Same.refl _ _, fun i j h1 h2 h3 => by rw [show i = j by omega]; exact Int.le_refl _, fun _ _ => rfl⟩
  case round =>
    obtain ⟨i, f', hai, hib, rfl, hA, hS, hU, hO⟩ := hrel
    clear H
    by_cases hlt : i < b
    · have q0 : (i : Int) < (b : Int) := by omega
      have HI := Lib.hid (And.intro hS (And.intro hU hO))
      have HA := Lib.hid hA
      have HD' := Lib.hid (same_dom hS HD.out)
      clear hA hS hU hO
      go_wp2
      go_loopw [9] (fun v wq => ∃ j : Nat, a ≤ j ∧ j ≤ i ∧ v = .int .i64 (j : Int) ∧ Arr w g n (rot f' j i (i + 1)) wq ∧ (∀ k, j ≤ k → k < i → κ (f' i) < κ (f' k))) (fun v _ => (intOf v).toNat)
      case atStart => exact ⟨i, by omega, Nat.le_refl _, rfl, by rw [rot_self _ _ _ (by omega)]; exact HA.out, fun k h1 h2 => by omega⟩
      case round =>
        obtain ⟨j, haj, hji, rfl, hA, hK⟩ := hrel
        by_cases hja : a < j
        · obtain ⟨jp, rfl⟩ : ∃ jp, j = jp + 1 := ⟨j - 1, by omega⟩
          have c1 := hA.cell (jp + 1) (by omega)
          have c2 := hA.cell jp (by omega)
          have z1 := hA.frz (jp + 1) (by omega)
          have z2 := hA.frz jp (by omega)
          have e1 : rot f' (jp + 1) i (i + 1) (jp + 1) = f' i := by rw [rot_lo _ _ _ _ _ (by omega) (by omega)]; congr 1; omega
          have e2 : rot f' (jp + 1) i (i + 1) jp = f' jp := rot_out _ _ _ _ _ (.inl (by omega)) (by omega) (by omega)
          have hcm := fun q => HC.out (wr.drewN q) (hA.kp.drewN q) (f' i) (f' jp) (HD'.out i (by omega)) (HD'.out jp (by omega))
          have hsw := fun q => ((hA.drewN q).drew).swap (i := jp + 1) (j := jp) (by omega) (by omega)
          rw [rot_down f' i jp hji, e1, e2] at hsw
          rw [e1] at c1
          rw [e2] at c2
          have HSW := Lib.hid hsw
          have HCM := Lib.hid hcm
          have HKK := Lib.hid hK
          have HAA := Lib.hid hA
          clear e1 e2 hsw hcm hK hA
          have q1 : (a : Int) < (jp : Int) + 1 := by omega
          have q2 : (jp : Int) + 1 < (n : Int) := by omega
          have q3 : (jp : Int) < (n : Int) := by omega
          have q4 : (0 : Int) ≤ (jp : Int) + 1 := by omega
          have q5 : ((jp : Int) + 1).toNat = jp + 1 := by omega
          have q6 : IntKind.i64.wrap ((jp : Int) + 1 - 1) = (jp : Int) := by rw [Int.add_sub_cancel]; exact IntWalk.i64_in _ (by omega)
          by_cases hk : κ (f' i) < κ (f' jp)
          · have hlt2 : κ (f' i) - κ (f' jp) < 0 := by omega
            have HK2 := Lib.hid (show ∀ k, jp ≤ k → k < i → κ (f' i) < κ (f' k) from fun k h1 h2 => by
              by_cases e : k = jp
              · rw [e]; exact hk
              · exact HKK.out k (by omega) h2)
            clear hk HKK HAA
            obtain ⟨x, hx⟩ : ∃ x, x = f' i := ⟨_, rfl⟩
            obtain ⟨y, hy⟩ : ∃ y, y = f' jp := ⟨_, rfl⟩
            rw [← hx] at c1 HSW HCM hlt2
            rw [← hy] at c2 HSW HCM hlt2
            clear hx hy
            generalize κ x - κ y = z at *
            go_wp2
            go_quiet (refine Calls.quiet_of (HCM.out _))
            clear HCM
            have HS2 := Lib.hid (HSW.out nq)
            have c1' : (wr.drewN nq).cell? ⟨g, jp + 1, none⟩ = some (.int .i64 x) := by simpa using c1
            have c2' : (wr.drewN nq).cell? ⟨g, jp, none⟩ = some (.int .i64 y) := by simpa using c2
            have z1' : (wr.drewN nq).frozen? ⟨g, jp + 1, none⟩ = false := by simpa using z1
            have z2' : (wr.drewN nq).frozen? ⟨g, jp, none⟩ = false := by simpa using z2
            clear HSW c1 c2 z1 z2
            generalize wr.drewN nq = wq at *
            go_wp2
            go_big_region
            all_goals go_wp2
            go_roundw
            case rel => exact ⟨jp, by omega, by omega, by go_num, HS2.out, HK2.out⟩
            case measure => simp [intOf]; try omega
          · have hlt2 : ¬ κ (f' i) - κ (f' jp) < 0 := by omega
            have hlt3 : decide (κ (f' i) - κ (f' jp) < 0) = false := decide_eq_false hlt2
            have HF := Lib.hid (ins_srt HI.out.2.1 haj hji (by omega : i < n) HKK.out (.inr (by rw [Nat.add_sub_cancel]; omega)))
            clear hk HSW HKK
            obtain ⟨x, hx⟩ : ∃ x, x = f' i := ⟨_, rfl⟩
            obtain ⟨y, hy⟩ : ∃ y, y = f' jp := ⟨_, rfl⟩
            rw [← hx] at c1 HCM hlt2 hlt3
            rw [← hy] at c2 HCM hlt2 hlt3
            clear hx hy
            generalize κ x - κ y = z at *
            go_wp2
            go_quiet (refine Calls.quiet_of (HCM.out _))
            go_wp2
            go_roundw
            case rel => exact ⟨i + 1, _, by omega, by omega, by go_num, HAA.out.drewN _, HI.out.1.trans HF.out.same, HF.out.up, fun k hk => by rw [HF.out.out k (by omega), HI.out.2.2 k hk]⟩
            case measure => simp [intOf]; omega
        · obtain rfl : j = a := by omega
          have hd : decide ((j : Int) > (j : Int)) = false := decide_eq_false (by omega)
          have HF := Lib.hid (ins_srt HI.out.2.1 haj hji (by omega : i < n) hK (.inl rfl))
          have HAA := Lib.hid hA
          clear hA hK hja
          go_wp2
          go_big_region
          all_goals go_wp2
          go_roundw
          case rel => exact ⟨i + 1, _, by omega, by omega, by go_num, HAA.out.drew, HI.out.1.trans HF.out.same, HF.out.up, fun k hk => by rw [HF.out.out k (by omega), HI.out.2.2 k hk]⟩
          case measure => simp [intOf]; omega
    · have q0 : ¬ (i : Int) < (b : Int) := by omega
      go_wp2
      go_end0
      exact ⟨rfl, f', hA, hS, fun x y h1 h2 h3 => hU x y h1 h2 (by omega), hO⟩

end Go.Proofs.YtdidoecigkbffaaGreat
