/- A row of heaps put in order in place: the order by insertion of the library's stable sort. -/
import Derived.Test.YtdidoecigkbffaaGreatHB
set_option maxRecDepth 100000
namespace Go.Proofs.YtdidoecigkbffaaGreat
open Go.RowKit
open S

/-- What is asked of the closure: it tells the difference of two keys; what was there stays. -/
def CmpH (w : World) (g : Nat) (D : Hp → Prop) (κ : Hp → Int) : Prop :=
  ∀ u, Kp (fun k => k = g) w u → ∀ x y, D x → D y → Calls Tryz.prog 74 #[.agg #[.int .i64 x.s, .int .i64 x.w, .int .i64 x.p], .agg #[.int .i64 y.s, .int .i64 y.w, .int .i64 y.p]] u fun e u' => e = .returned (.int .i64 (κ x - κ y)) ∧ Below u.heap.size u u'

set_option maxHeartbeats 4000000 in
theorem insertionH (g n cap a b : Nat) (f : Nat → Hp) (D : Hp → Prop) (κ : Hp → Int) (w u : World) (h : ArrH w g n f u) (hC : CmpH w g D κ) (hD : ∀ i, i < n → D (f i)) (hab : a ≤ b) (hb : b ≤ n) (hn : n ≤ 1000000) :
    Calls Tryz.prog 97 #[.slice (some ⟨g, 0, none⟩) n cap, .int .i64 (a : Int), .int .i64 (b : Int), .func (.func 74) #[] #[]] u fun e u' => e = .returned (.tuple #[]) ∧ ∃ f', ArrH w g n f' u' ∧ Srt κ n f a b f' := by
  have H := Lib.hid h
  have HC := Lib.hid hC
  have HD := Lib.hid hD
  clear h hC hD
  go_enter Tryz.func97, Tryz.ntmps97
  go_wp2
  go_loopw [8] (fun v wr => ∃ (i : Nat) (f' : Nat → Hp), a < i ∧ i ≤ b + 1 ∧ v = .int .i64 (i : Int) ∧ ArrH w g n f' wr ∧ Same κ (seg f 0 n) (seg f' 0 n) ∧ Up κ f' a i ∧ ∀ k, k < a ∨ b ≤ k → f' k = f k) (fun v _ => b + 1 - (intOf v).toNat)
  case atStart => exact ⟨a + 1, f, by omega, by omega, by go_num, H.out, Same.refl _ _, fun i j h1 h2 h3 => by rw [show i = j by omega]; exact Int.le_refl _, fun _ _ => rfl⟩
  case round =>
    obtain ⟨i, f', hai, hib, rfl, hA, hS, hU, hO⟩ := hrel
    clear H
    by_cases hlt : i < b
    · have q0 : (i : Int) < (b : Int) := by omega
      have HI := Lib.hid (And.intro hS (And.intro hU hO))
      have HA := Lib.hid hA
      have HD' := Lib.hid (same_dom hS HD.out)
      clear hA hS hU hO
      go_wp2
      go_loopw [9] (fun v wq => ∃ j : Nat, a ≤ j ∧ j ≤ i ∧ v = .int .i64 (j : Int) ∧ ArrH w g n (rot f' j i (i + 1)) wq ∧ (∀ k, j ≤ k → k < i → κ (f' i) < κ (f' k))) (fun v _ => (intOf v).toNat)
      case atStart => exact ⟨i, by omega, Nat.le_refl _, rfl, by rw [rot_self _ _ _ (by omega)]; exact HA.out, fun k h1 h2 => by omega⟩
      case round =>
        obtain ⟨j, haj, hji, rfl, hA, hK⟩ := hrel
        by_cases hja : a < j
        · obtain ⟨jp, rfl⟩ : ∃ jp, j = jp + 1 := ⟨j - 1, by omega⟩
          have e1 : rot f' (jp + 1) i (i + 1) (jp + 1) = f' i := by rw [rot_lo _ _ _ _ _ (by omega) (by omega)]; congr 1; omega
          have e2 : rot f' (jp + 1) i (i + 1) jp = f' jp := rot_out _ _ _ _ _ (.inl (by omega)) (by omega) (by omega)
          have hcm := fun u (hu : Below wr.heap.size wr u) => HC.out u (hA.kp.below hu) (f' i) (f' jp) (HD'.out i (by omega)) (HD'.out jp (by omega))
          have hcs : ∀ u, Below wr.heap.size wr u → u.cell? ⟨g, (jp + 1) * 3, none⟩ = some (.int .i64 (rot f' (jp + 1) i (i + 1) (jp + 1)).s) ∧ u.cell? ⟨g, (jp + 1) * 3 + 1, none⟩ = some (.int .i64 (rot f' (jp + 1) i (i + 1) (jp + 1)).w) ∧ u.cell? ⟨g, (jp + 1) * 3 + 2, none⟩ = some (.int .i64 (rot f' (jp + 1) i (i + 1) (jp + 1)).p) ∧ u.cell? ⟨g, jp * 3, none⟩ = some (.int .i64 (rot f' (jp + 1) i (i + 1) jp).s) ∧ u.cell? ⟨g, jp * 3 + 1, none⟩ = some (.int .i64 (rot f' (jp + 1) i (i + 1) jp).w) ∧ u.cell? ⟨g, jp * 3 + 2, none⟩ = some (.int .i64 (rot f' (jp + 1) i (i + 1) jp).p) := fun u hu => by
            have hK := hA.kept hu
            exact ⟨hK.c0 (jp + 1) (by omega), hK.c1 (jp + 1) (by omega), hK.c2 (jp + 1) (by omega), hK.c0 (jp) (by omega), hK.c1 (jp) (by omega), hK.c2 (jp) (by omega)⟩
          rw [e1, e2] at hcs
          have hsw := fun u (hu : Below wr.heap.size wr u) => ((hA.kept hu).swap (i := jp + 1) (j := jp) (by omega) (by omega) (by omega)).drew
          rw [rot_down f' i jp hji, e1, e2] at hsw
          have HSW := Lib.hid hsw
          have HCM := Lib.hid hcm
          have HCS := Lib.hid hcs
          have HKK := Lib.hid hK
          have HAA := Lib.hid hA
          clear e1 e2 hsw hcm hcs hK hA
          have q1 : (a : Int) < (jp : Int) + 1 := by omega
          have q2 : (jp : Int) + 1 < (n : Int) := by omega
          have q3 : (jp : Int) < (n : Int) := by omega
          have q4 : (0 : Int) ≤ (jp : Int) + 1 := by omega
          have q5 : ((jp : Int) + 1).toNat = jp + 1 := by omega
          have q6 : IntKind.i64.wrap ((jp : Int) + 1 - 1) = (jp : Int) := by rw [Int.add_sub_cancel]; exact IntWalk.i64_in _ (by omega)
          have q7 : IntKind.i64.wrap (jp : Int) = (jp : Int) := IntWalk.i64_in _ (by omega)
          have q8 : (0 : Int) ≤ (jp : Int) := by omega
          by_cases hk : κ (f' i) < κ (f' jp)
          · have hlt2 : κ (f' i) - κ (f' jp) < 0 := by omega
            have HK2 := Lib.hid (show ∀ k, jp ≤ k → k < i → κ (f' i) < κ (f' k) from fun k h1 h2 => by
              by_cases e : k = jp
              · rw [e]; exact hk
              · exact HKK.out k (by omega) h2)
            clear hk HKK
            obtain ⟨x, hx⟩ : ∃ x, x = f' i := ⟨_, rfl⟩
            obtain ⟨y, hy⟩ : ∃ y, y = f' jp := ⟨_, rfl⟩
            rw [← hx] at HCS HSW HCM hlt2
            rw [← hy] at HCS HSW HCM hlt2
            clear hx hy
            generalize κ x - κ y = z at *
            obtain ⟨x0, x1, x2, y0, y1, y2⟩ := HCS.out _ (Below.refl _ _)
            have hbb : Below wr.heap.size wr wr := Below.refl _ _
            go_wp2
            go_region_held3 (fun w' => w'.cell? ⟨g, (jp + 1) * 3, none⟩ = some (.int .i64 x.s) ∧ w'.cell? ⟨g, (jp + 1) * 3 + 1, none⟩ = some (.int .i64 x.w) ∧ w'.cell? ⟨g, (jp + 1) * 3 + 2, none⟩ = some (.int .i64 x.p) ∧ w'.cell? ⟨g, jp * 3, none⟩ = some (.int .i64 y.s) ∧ w'.cell? ⟨g, jp * 3 + 1, none⟩ = some (.int .i64 y.w) ∧ w'.cell? ⟨g, jp * 3 + 2, none⟩ = some (.int .i64 y.p))
              (first
                | (with_reducible exact HCS.out _ hbb)
                | (with_reducible exact HCS.out _ hbb.drew)
                | go_keep)
              (first
                | (go_at_call 74; (with_reducible refine (HCM.out _ hbb).mono ?_); rintro e u5 ⟨rfl, hb⟩; have hbb := hbb.trans (hb.mono hbb.size))
                | (go_at_call 74; (with_reducible refine (HCM.out _ hbb.drew).mono ?_); rintro e u5 ⟨rfl, hb⟩; have hbb := hbb.drew.trans (hb.mono hbb.drew.size)))
            all_goals
              obtain ⟨x0', x1', x2', y0', y1', y2'⟩ := HCS.out _ hbb
              have hA2 := HAA.out.kept hbb
              have zz0 := hA2.frz ((jp + 1) * 3) (by omega)
              have zz1 := hA2.frz ((jp + 1) * 3 + 1) (by omega)
              have zz2 := hA2.frz ((jp + 1) * 3 + 2) (by omega)
              have zz3 := hA2.frz (jp * 3) (by omega)
              have zz4 := hA2.frz (jp * 3 + 1) (by omega)
              have zz5 := hA2.frz (jp * 3 + 2) (by omega)
              have HS2 := Lib.hid (HSW.out _ hbb)
              clear hbb hb hA2 HCM HSW x0 x1 x2 y0 y1 y2 HCS HAA
              go_wp2
              go_big_region
              all_goals go_wp2
              go_roundw
              case rel => exact ⟨jp, by omega, by omega, by go_num, (by with_reducible exact HS2.out), HK2.out⟩
              case measure => simp [intOf]; try omega
          · have hlt2 : ¬ κ (f' i) - κ (f' jp) < 0 := by omega
            have hlt3 : decide (κ (f' i) - κ (f' jp) < 0) = false := decide_eq_false hlt2
            have HF := Lib.hid (ins_srt HI.out.2.1 haj hji (by omega : i < n) HKK.out (.inr (by rw [Nat.add_sub_cancel]; omega)))
            clear hk HSW HKK
            obtain ⟨x, hx⟩ : ∃ x, x = f' i := ⟨_, rfl⟩
            obtain ⟨y, hy⟩ : ∃ y, y = f' jp := ⟨_, rfl⟩
            rw [← hx] at HCS HCM hlt2 hlt3
            rw [← hy] at HCS HCM hlt2 hlt3
            clear hx hy
            generalize κ x - κ y = z at *
            obtain ⟨x0, x1, x2, y0, y1, y2⟩ := HCS.out _ (Below.refl _ _)
            have hbb : Below wr.heap.size wr wr := Below.refl _ _
            go_wp2
            go_region_held3 (fun w' => w'.cell? ⟨g, (jp + 1) * 3, none⟩ = some (.int .i64 x.s) ∧ w'.cell? ⟨g, (jp + 1) * 3 + 1, none⟩ = some (.int .i64 x.w) ∧ w'.cell? ⟨g, (jp + 1) * 3 + 2, none⟩ = some (.int .i64 x.p) ∧ w'.cell? ⟨g, jp * 3, none⟩ = some (.int .i64 y.s) ∧ w'.cell? ⟨g, jp * 3 + 1, none⟩ = some (.int .i64 y.w) ∧ w'.cell? ⟨g, jp * 3 + 2, none⟩ = some (.int .i64 y.p))
              (first
                | (with_reducible exact HCS.out _ hbb)
                | (with_reducible exact HCS.out _ hbb.drew)
                | go_keep)
              (first
                | (go_at_call 74; (with_reducible refine (HCM.out _ hbb).mono ?_); rintro e u5 ⟨rfl, hb⟩; have hbb := hbb.trans (hb.mono hbb.size))
                | (go_at_call 74; (with_reducible refine (HCM.out _ hbb.drew).mono ?_); rintro e u5 ⟨rfl, hb⟩; have hbb := hbb.drew.trans (hb.mono hbb.drew.size)))
            all_goals
              have HA2 := Lib.hid (HAA.out.kept hbb)
              clear hbb hb x0 x1 x2 y0 y1 y2 HCS HCM
              go_wp2
              go_roundw
              case rel => exact ⟨i + 1, _, by omega, by omega, by go_num, HA2.out, HI.out.1.trans HF.out.same, HF.out.up, fun k hk => by rw [HF.out.out k (by omega), HI.out.2.2 k hk]⟩
              case measure => simp [intOf]; omega
        · obtain rfl : j = a := by omega
          have hd : decide ((j : Int) > (j : Int)) = false := decide_eq_false (by omega)
          have HF := Lib.hid (ins_srt HI.out.2.1 haj hji (by omega : i < n) hK (.inl rfl))
          have HAA := Lib.hid hA
          clear hA hK hja
          go_wp2
          go_big_region
          all_goals go_wp2
          go_roundw
          case rel => exact ⟨i + 1, _, by omega, by omega, by go_num, HAA.out.drew, HI.out.1.trans HF.out.same, HF.out.up, fun k hk => by rw [HF.out.out k (by omega), HI.out.2.2 k hk]⟩
          case measure => simp [intOf]; try omega
    · have q0 : ¬ (i : Int) < (b : Int) := by omega
      go_wp2
      go_end0
      exact ⟨rfl, f', hA, hS, fun x y h1 h2 h3 => hU x y h1 h2 (by omega), hO⟩

end Go.Proofs.YtdidoecigkbffaaGreat
