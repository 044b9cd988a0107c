/- The contract of firstPlace, for whatever is asked. -/
import Derived.Test.YtfhlcclbjagdmaaKC
namespace Go.Proofs.Ytfhlcclbjagdmaa
open Go.RowKit
open M
attribute [local go_sem ↓] Go.wp_at_zero Go.wp_at_succ

theorem ent47 (args : Array Value) (w : World) : (callFunc 47 args).run Try.prog w = .ok (.enter 47 args) w := by kernel_rfl

set_option maxHeartbeats 1000000 in
theorem firstPlace_any (f : Nat) (caps : Array Value) (n : Nat) (p : Nat → Bool) (I : World → Prop) (w : World) (hf : ∀ (args : Array Value) (w : World), (callFunc f args).run Try.prog w = .ok (.enter f args) w)
    (hn : n ≤ 1000000000) (hm : ∀ i j, i ≤ j → j < n → p i = true → p j = true) (h0 : I w)
    (ht : ∀ (i : Nat) (x : Int) (u : World), i < n → x = (i : Int) → I u → Calls Try.prog f (#[.int .i64 x] ++ caps) u fun e u' => e = .returned (.bool (p i)) ∧ I u') :
    Calls Try.prog 46 #[.int .i64 (n : Int), .func (.func f) #[] caps] w fun e w' => e = .returned (.int .i64 (firstN n p : Nat)) ∧ I w' := by
  have HT := Lib.hid ht
  have HM := Lib.hid hm
  have H0 := Lib.hid h0
  clear ht hm h0
  go_enter Try.func46, Try.ntmps46
  go_wp2
  go_step3
  go_wp2
  go_step3
  go_wp2
  go_loopw [5, 6] (fun v5 v6 wr => ∃ a b : Nat, a ≤ b ∧ b ≤ n ∧ v5 = .int .i64 (a : Int) ∧ v6 = .int .i64 (b : Int) ∧ (∀ j, j < a → p j = false) ∧ (b < n → p b = true) ∧ I wr) (fun v5 v6 _ => (intOf v6).toNat - (intOf v5).toNat)
  case atStart => exact ⟨0, n, Nat.zero_le _, Nat.le_refl _, rfl, rfl, by intro j hj; omega, by intro hj; omega, H0.out⟩
  case round =>
    obtain ⟨a, b, hab, hbn, rfl, rfl, hlow, hhigh, hI⟩ := hrel
    have HL := Lib.hid (And.intro hlow (And.intro hhigh hI))
    clear hlow hhigh hI
    by_cases hq : a = b
    · subst hq
      go_wp2
      rw [Exit.noGoto_ret]
      go_ret
      obtain ⟨hlow, hhigh, hI⟩ := HL.out
      exact ⟨ret_int (by rw [firstN_eq n p a hbn hlow hhigh]), hI⟩
    · have hne : ((a : Int) == (b : Int)) = false := by simp; omega
      obtain ⟨m, hm⟩ : ∃ m : Nat, m = a + (b - a) / 2 := ⟨_, rfl⟩
      have hm1 : a ≤ m := by omega
      have hm2 : m < b := by omega
      have e1 : (a : Int) + ((b : Int) - (a : Int)) / 2 = (m : Int) := by omega
      have hlt : (a : Int) < (b : Int) := by omega
      clear hm
      cases hp : p m
      · go_wp2_with fail
        refine (HT.out m _ _ (by omega) (by omega) HL.out.2.2).mono ?_
        rw [hp]
        rintro e u ⟨rfl, hI⟩
        have HI := Lib.hid hI
        have HP := Lib.hid hp
        clear hI hp
        go_wp2
        go_roundw
        case rel =>
          refine ⟨m + 1, b, by omega, hbn, by go_num, rfl, ?_, HL.out.2.1, HI.out⟩
          intro j hj
          cases hpj : p j with
          | false => rfl
          | true => have := HM.out j m (by omega) (by omega) hpj; rw [HP.out] at this; cases this
        case measure => simp [intOf]; omega
      · go_wp2_with fail
        refine (HT.out m _ _ (by omega) (by omega) HL.out.2.2).mono ?_
        rw [hp]
        rintro e u ⟨rfl, hI⟩
        have HI := Lib.hid hI
        have HP := Lib.hid hp
        clear hI hp
        go_wp2
        go_roundw
        case rel =>
          exact ⟨a, m, by omega, by omega, rfl, by go_num, HL.out.1, fun _ => HP.out, HI.out⟩
        case measure => simp [intOf]; omega

end Go.Proofs.Ytfhlcclbjagdmaa
