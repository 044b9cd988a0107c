/- A row of numbers put in order in place: the symmetric merge, whole. -/
import Derived.Test.YtdidoecigkbffaaGreatSD
import Derived.Deep.Cut
import Derived.Deep.CutRange
set_option maxRecDepth 100000
namespace Go.Proofs.YtdidoecigkbffaaGreat
open Go.RowKit
open S

/-- Where the halves of a symmetric merge are parted. -/
theorem sym_parts {α : Type} {κ : α → Int} {f : Nat → α} {a m b mid s0 r0 st : Nat} (hum : Up κ f a m) (hub : Up κ f m b) (h1 : a ≤ s0) (h2 : s0 ≤ st) (h3 : st ≤ r0) (h4 : r0 ≤ m) (h5 : r0 ≤ mid) (h6 : mid + m ≤ b + s0) (h7 : s0 = a ∨ s0 + b = mid + m) (h8 : r0 = m ∨ r0 = mid)
    (hlo : st = s0 ∨ κ (f (st - 1)) ≤ κ (f (mid + m - st))) (hhi : st = r0 ∨ κ (f (mid + m - 1 - st)) < κ (f st)) :
    (∀ x y, a ≤ x → x < st → mid + m - st ≤ y → y < b → κ (f x) ≤ κ (f y)) ∧ (∀ x y, st ≤ x → x < m → m ≤ y → y < mid + m - st → κ (f y) < κ (f x)) := by
  constructor
  · intro x y hx hxs hy hyb
    rcases hlo with e | e
    · omega
    · have i1 := hum x (st - 1) hx (by omega) (by omega)
      have i2 := hub (mid + m - st) y (by omega) hy hyb
      omega
  · intro x y hx hxm hy hye
    rcases hhi with e | e
    · omega
    · have i1 := hum st x (by omega) hx hxm
      have i2 := hub y (mid + m - 1 - st) hy (by omega) (by omega)
      omega

theorem dom_rot {α : Type} {D : α → Prop} {n a m b : Nat} {f : Nat → α} (hD : ∀ i, i < n → D (f i)) (ha : a ≤ m) (hb : m ≤ b) (hn : b ≤ n) : ∀ i, i < n → D (rot f a m b i) := by
  intro i hi
  unfold rot
  split
  · exact hD _ (by omega)
  · split
    · exact hD _ (by omega)
    · exact hD _ hi

set_option maxHeartbeats 4000000 in
theorem symMerge_any (g n cap : Nat) (cb : Value) (D : Int → Prop) (κ : Int → Int) (w : World) (hC : CmpI w g cb D κ) (hn : n ≤ 1000000) (s : Nat) : ∀ (a m b : Nat) (f : Nat → Int) (u : World), b - a ≤ s → Arr w g n f u → (∀ i, i < n → D (f i)) → a < m → m < b → b ≤ n → Up κ f a m → Up κ f m b →
    Calls Tryz.prog 78 #[.slice (some ⟨g, 0, none⟩) n cap, .int .i64 (a : Int), .int .i64 (m : Int), .int .i64 (b : Int), .func (.func 35) #[] #[cb]] u fun e u' => e = .returned (.tuple #[]) ∧ ∃ f', Arr w g n f' u' ∧ Srt κ n f a b f' := by
  induction s with
  | zero => intro a m b f u hs _ _ h1 h2; omega
  | succ s ih =>
    intro a m b f u hs hA hD ham hmb hbn hUm hUb
    by_cases c1 : m = a + 1
    · subst c1
      have := symMerge_first g n cap a b f cb D κ w u hA hC hD hmb hbn hn hUb
      rw [show ((a + 1 : Nat) : Int) = (a : Int) + 1 by omega]
      exact this
    by_cases c2 : b = m + 1
    · subst c2
      have := symMerge_last g n cap a m f cb D κ w u hA hC hD (by omega) hbn hn hUm
      rw [show ((m + 1 : Nat) : Int) = (m : Int) + 1 by omega]
      exact this
    have hne1 : (((m : Int) - (a : Int)) == 1) = false := by simp; omega
    have hne2 : (((b : Int) - (m : Int)) == 1) = false := by simp; omega
    obtain ⟨mid, hmid⟩ : ∃ mid : Nat, mid = (a + b) / 2 := ⟨_, rfl⟩
    have e1 : ((a : Int) + (b : Int)) / 2 = (mid : Int) := by omega
    have m1 : a < mid := by omega
    have m2 : mid < b := by omega
    have m3 : b - mid ≤ s := by omega
    have m4 : mid - a ≤ s := by omega
    have HIH := Lib.hid ih
    have HC := Lib.hid hC
    have H := Lib.hid (And.intro hA (And.intro hD (And.intro hUm hUb)))
    clear ih hC hA hD hUm hUb hmid c1 c2
    go_enter Tryz.func78, Tryz.ntmps78
    go_upto_if 140 with fail
    go_cut [20, 21, 140] from 141 to 146 (fun v20 v21 _ wx => (∃ s0 r0 : Nat, v20 = .int .i64 (s0 : Int) ∧ v21 = .int .i64 (r0 : Int) ∧ a ≤ s0 ∧ s0 ≤ r0 ∧ r0 ≤ m ∧ r0 ≤ mid ∧ mid + m ≤ b + s0 ∧ (s0 = a ∨ s0 + b = mid + m) ∧ (r0 = m ∨ r0 = mid)) ∧ wx = u)
    case first =>
      by_cases hc : mid < m
      · have q : (mid : Int) < (m : Int) := by omega
        go_wp2
        go_meet
        exact ⟨⟨mid + m - b, mid, by go_num, rfl, by omega, by omega, by omega, by omega, by omega, .inr (by omega), .inr rfl⟩, rfl⟩
      · have q : ¬ (mid : Int) < (m : Int) := by omega
        go_wp2
        go_meet
        exact ⟨⟨a, m, rfl, rfl, by omega, by omega, by omega, by omega, by omega, .inl rfl, .inl rfl⟩, rfl⟩
    case rest =>
      obtain ⟨⟨s0, r0, rfl, rfl, p1, p2, p3, p4, p5, p6, p7⟩, rfl⟩ := hcut
      have HP := Lib.hid (And.intro p6 p7)
      clear p6 p7
      go_wp2
      go_loopw [20, 21, 23] (fun v20 v21 _ wr => ∃ st r : Nat, s0 ≤ st ∧ st ≤ r ∧ r ≤ r0 ∧ v20 = .int .i64 (st : Int) ∧ v21 = .int .i64 (r : Int) ∧ Arr w g n f wr ∧ (st = s0 ∨ κ (f (st - 1)) ≤ κ (f (mid + m - st))) ∧ (r = r0 ∨ κ (f (mid + m - 1 - r)) < κ (f r))) (fun v20 v21 _ _ => (intOf v21).toNat - (intOf v20).toNat)
      case atStart => exact ⟨s0, r0, Nat.le_refl _, p2, Nat.le_refl _, rfl, rfl, H.out.1, .inl rfl, .inl rfl⟩
      case round =>
        obtain ⟨st, r, k1, k2, k3, rfl, rfl, hA, hlo, hhi⟩ := hrel
        by_cases hlt : st < r
        · have q0 : (st : Int) < (r : Int) := by omega
          obtain ⟨c, hc⟩ : ∃ c : Nat, c = (st + r) / 2 := ⟨_, rfl⟩
          obtain ⟨d, hd⟩ : ∃ d : Nat, d = mid + m - 1 - c := ⟨_, rfl⟩
          have hci : st ≤ c := by omega
          have hcj : c < r := by omega
          have x1 := hA.cell c (by omega)
          have x2 := hA.cell d (by omega)
          have hcm := fun q => HC.out (wr.drewN q) (hA.kp.drewN q) (f d) (f c) (H.out.2.1 d (by omega)) (H.out.2.1 c (by omega))
          have HCM := Lib.hid hcm
          have HL := Lib.hid (And.intro hA (And.intro hlo hhi))
          clear hcm hA hlo hhi
          have q1 : (c : Int) < (n : Int) := by omega
          have q2 : (d : Int) < (n : Int) := by omega
          have q3 : IntKind.i64.wrap ((mid : Int) + (m : Int) - 1 - (c : Int)) = (d : Int) := by rw [show (mid : Int) + (m : Int) - 1 - (c : Int) = (d : Int) by omega]; exact IntWalk.i64_in _ (by omega)
          have q4 : (mid : Int) + (m : Int) - 1 - (c : Int) = (d : Int) := by omega
          have e2 : ((st : Int) + (r : Int)) / 2 = (c : Int) := by omega
          have HD := Lib.hid hd
          clear hc hd
          by_cases hk : κ (f d) < κ (f c)
          · have hlt2 : κ (f d) - κ (f c) < 0 := by omega
            have hlt3 : decide (κ (f d) - κ (f c) < 0) = true := decide_eq_true hlt2
            have HK2 := Lib.hid (show κ (f (mid + m - 1 - c)) < κ (f c) by rw [← HD.out]; exact hk)
            clear hk
            obtain ⟨x, hx⟩ : ∃ x, x = f c := ⟨_, rfl⟩
            obtain ⟨y, hy⟩ : ∃ y, y = f d := ⟨_, rfl⟩
            rw [← hx] at x1 HCM hlt2 hlt3
            rw [← hy] at x2 HCM hlt2 hlt3
            clear hx hy
            generalize κ y - κ x = z at *
            go_wp2
            go_quiet (refine Calls.quiet_of (HCM.out _))
            clear HCM x1 x2
            go_wp2
            go_roundw
            case rel => exact ⟨st, c, k1, hci, by omega, rfl, by go_num, HL.out.1.drewN _, HL.out.2.1, .inr HK2.out⟩
            case measure => simp [intOf]; omega
          · have hlt2 : ¬ κ (f d) - κ (f c) < 0 := by omega
            have hlt3 : decide (κ (f d) - κ (f c) < 0) = false := decide_eq_false hlt2
            have HK2 := Lib.hid (show κ (f (c + 1 - 1)) ≤ κ (f (mid + m - (c + 1))) by rw [Nat.add_sub_cancel, show mid + m - (c + 1) = d by have := HD.out; omega]; omega)
            clear hk
            obtain ⟨x, hx⟩ : ∃ x, x = f c := ⟨_, rfl⟩
            obtain ⟨y, hy⟩ : ∃ y, y = f d := ⟨_, rfl⟩
            rw [← hx] at x1 HCM hlt2 hlt3
            rw [← hy] at x2 HCM hlt2 hlt3
            clear hx hy
            generalize κ y - κ x = z at *
            go_wp2
            go_quiet (refine Calls.quiet_of (HCM.out _))
            clear HCM x1 x2
            go_wp2
            go_roundw
            case rel => exact ⟨c + 1, r, by omega, by omega, k3, by go_num, rfl, HL.out.1.drewN _, .inr HK2.out, HL.out.2.2⟩
            case measure => simp [intOf]; omega
        · obtain rfl : st = r := by omega
          have hpt := sym_parts H.out.2.2.1 H.out.2.2.2 p1 k1 k3 p3 p4 p5 HP.out.1 HP.out.2 hlo hhi
          obtain ⟨en, hen⟩ : ∃ en : Nat, en = mid + m - st := ⟨_, rfl⟩
          rw [← hen] at hpt
          have n1 : m ≤ en := by omega
          have n2 : en ≤ b := by omega
          have n3 : a ≤ st := by omega
          have n4 : st ≤ m := by omega
          have e3 : (mid : Int) + (m : Int) - (st : Int) = (en : Int) := by omega
          have HM := Lib.hid (And.intro hpt (show mid = st + (en - m) by omega))
          have HA := Lib.hid hA
          clear hA hlo hhi hpt hen HC HP k1 k3 p1 p2 p3 p4 p5
          go_upto_region 39 with fail
          go_cut [185] from 178 to 184 (fun v wx => (∃ t : Bool, v = .bool t ∧ (t = true ↔ st < m ∧ m < en)) ∧ wx = wr)
          case first =>
            by_cases h1 : st < m
            · have z1 : (st : Int) < (m : Int) := by omega
              by_cases h2 : m < en
              · have z2 : (m : Int) < (en : Int) := by omega
                go_wp2
                go_meet
                exact ⟨⟨true, rfl, by simp [h1, h2]⟩, rfl⟩
              · have z2 : ¬ (m : Int) < (en : Int) := by omega
                go_wp2
                go_meet
                exact ⟨⟨false, rfl, by simp [h2]⟩, rfl⟩
            · have z1 : ¬ (st : Int) < (m : Int) := by omega
              go_wp2
              go_meet
              exact ⟨⟨false, rfl, by simp [h1]⟩, rfl⟩
          case rest =>
            obtain ⟨⟨t, rfl, ht⟩, rfl⟩ := hcut
            have HT := Lib.hid ht
            clear ht
            go_upto_if 185 with fail
            go_cut [185] from 186 to 191 (fun _ wx => Arr w g n (rot f st m en) wx)
            case first =>
              cases t
              · have hno : ¬ (st < m ∧ m < en) := fun h => by have := HT.out.2 h; cases this
                have HN := Lib.hid (rot_none (f := f) n4 n1 hno)
                clear hno
                go_wp2
                go_meet
                rw [HN.out]
                exact HA.out
              · have hyes := HT.out.1 rfl
                go_wp2_with fail
                refine (rotate_any g n cap st m en f _ w _ HA.out hyes.1 hyes.2 (by omega) hn).mono ?_
                rintro e w' ⟨rfl, hA2⟩
                have HA2 := Lib.hid hA2
                clear hA2 hyes
                go_wp2
                go_meet
                exact HA2.out
            case rest =>
              have HA1 := Lib.hid hcut
              clear hcut HT HA
              have HD1 := Lib.hid (dom_rot H.out.2.1 n4 n1 (by omega))
              go_upto_region 41 with fail
              go_cut [199] from 192 to 198 (fun v wx => (∃ t : Bool, v = .bool t ∧ (t = true ↔ a < st ∧ st < mid)) ∧ wx = wc)
              case first =>
                by_cases h1 : a < st
                · have z1 : (a : Int) < (st : Int) := by omega
                  by_cases h2 : st < mid
                  · have z2 : (st : Int) < (mid : Int) := by omega
                    go_wp2
                    go_meet
                    exact ⟨⟨true, rfl, by simp [h1, h2]⟩, rfl⟩
                  · have z2 : ¬ (st : Int) < (mid : Int) := by omega
                    go_wp2
                    go_meet
                    exact ⟨⟨false, rfl, by simp [h2]⟩, rfl⟩
                · have z1 : ¬ (a : Int) < (st : Int) := by omega
                  go_wp2
                  go_meet
                  exact ⟨⟨false, rfl, by simp [h1]⟩, rfl⟩
              case rest =>
                obtain ⟨⟨t, rfl, ht⟩, rfl⟩ := hcut
                have HT := Lib.hid ht
                clear ht
                go_upto_if 199 with fail
                go_cut [199] from 200 to 205 (fun _ wx => ∃ f2, Arr w g n f2 wx ∧ Srt κ n (rot f st m en) a mid f2)
                case first =>
                  cases t
                  · have hno : st = a ∨ mid ≤ st := by
                      by_cases h : a < st ∧ st < mid
                      · have := HT.out.2 h; cases this
                      · omega
                    have HN := Lib.hid (rot_up_lo (κ := κ) H.out.2.2.2 H.out.2.2.1 n3 n4 n1 n2 HM.out.2 hno)
                    clear hno
                    go_wp2
                    go_meet
                    exact ⟨_, HA1.out, Srt.refl HN.out⟩
                  · have hyes := HT.out.1 rfl
                    have hlo : Up κ (rot f st m en) a st := fun x y x1 x2 x3 => by
                      rw [rot_out _ _ _ _ _ (.inl (by omega)) n4 n1, rot_out _ _ _ _ _ (.inl (by omega)) n4 n1]; exact H.out.2.2.1 x y x1 x2 (by omega)
                    have hhi : Up κ (rot f st m en) st mid := fun x y x1 x2 x3 => by
                      have := HM.out.2
                      rw [rot_lo _ _ _ _ _ (by omega) (by omega), rot_lo _ _ _ _ _ (by omega) (by omega)]; exact H.out.2.2.2 _ _ (by omega) (by omega) (by omega)
                    have HIL := Lib.hid (HIH.out a st mid (rot f st m en) wc m4 HA1.out HD1.out hyes.1 hyes.2 (by omega) hlo hhi)
                    clear hlo hhi hyes
                    go_wp2_with fail
                    refine HIL.out.mono ?_
                    rintro e w' ⟨rfl, hA2⟩
                    have HA2 := Lib.hid hA2
                    clear hA2 HIL
                    go_wp2
                    go_meet
                    exact HA2.out
                case rest =>
                  obtain ⟨f2, hA2, hS2⟩ := hcut
                  have HA2 := Lib.hid (And.intro hA2 hS2)
                  have HD2 := Lib.hid (same_dom hS2.same HD1.out)
                  clear hA2 hS2 HT HA1 HD1
                  go_upto_region 43 with fail
                  go_cut [213] from 206 to 212 (fun v wx => (∃ t : Bool, v = .bool t ∧ (t = true ↔ mid < en ∧ en < b)) ∧ wx = wc)
                  case first =>
                    by_cases h1 : mid < en
                    · have z1 : (mid : Int) < (en : Int) := by omega
                      by_cases h2 : en < b
                      · have z2 : (en : Int) < (b : Int) := by omega
                        go_wp2
                        go_meet
                        exact ⟨⟨true, rfl, by simp [h1, h2]⟩, rfl⟩
                      · have z2 : ¬ (en : Int) < (b : Int) := by omega
                        go_wp2
                        go_meet
                        exact ⟨⟨false, rfl, by simp [h2]⟩, rfl⟩
                    · have z1 : ¬ (mid : Int) < (en : Int) := by omega
                      go_wp2
                      go_meet
                      exact ⟨⟨false, rfl, by simp [h1]⟩, rfl⟩
                  case rest =>
                    obtain ⟨⟨t, rfl, ht⟩, rfl⟩ := hcut
                    have HT := Lib.hid ht
                    clear ht
                    have hfin := fun f3 (h3 : Srt κ n f2 mid b f3) => merge_srt H.out.2.2.1 H.out.2.2.2 (by omega) (by omega) hbn n3 n4 n1 n2 HM.out.2 HM.out.1.1 HM.out.1.2 rfl HA2.out.2 h3
                    have HFIN := Lib.hid hfin
                    clear hfin
                    cases t
                    · have hno : en = b ∨ en ≤ mid := by
                        by_cases h : mid < en ∧ en < b
                        · have := HT.out.2 h; cases this
                        · omega
                      have hup := rot_up_hi (κ := κ) H.out.2.2.2 H.out.2.2.1 n3 n4 n1 n2 HM.out.2 hno
                      have HN := Lib.hid (show Srt κ n f2 mid b f2 from Srt.refl fun x y x1 x2 x3 => by
                        rw [HA2.out.2.out x (.inr x1), HA2.out.2.out y (.inr (by omega))]; exact hup x y x1 x2 x3)
                      clear hno hup
                      go_wp2
                      go_end0
                      exact ⟨rfl, f2, HA2.out.1, HFIN.out _ HN.out⟩
                    · have hyes := HT.out.1 rfl
                      have hlo : Up κ f2 mid en := fun x y x1 x2 x3 => by
                        have := HM.out.2
                        rw [HA2.out.2.out x (.inr x1), HA2.out.2.out y (.inr (by omega)), rot_hi _ _ _ _ _ (by omega) (by omega), rot_hi _ _ _ _ _ (by omega) (by omega)]; exact H.out.2.2.1 _ _ (by omega) (by omega) (by omega)
                      have hhi : Up κ f2 en b := fun x y x1 x2 x3 => by
                        rw [HA2.out.2.out x (.inr (by omega)), HA2.out.2.out y (.inr (by omega)), rot_out _ _ _ _ _ (.inr (by omega)) n4 n1, rot_out _ _ _ _ _ (.inr (by omega)) n4 n1]; exact H.out.2.2.2 _ _ (by omega) (by omega) (by omega)
                      have HIL := Lib.hid (HIH.out mid en b f2 wc m3 HA2.out.1 HD2.out hyes.1 hyes.2 hbn hlo hhi)
                      clear hlo hhi hyes
                      go_wp2_with fail
                      refine HIL.out.mono ?_
                      rintro e w' ⟨rfl, hA3⟩
                      have HA3 := Lib.hid hA3
                      clear hA3 HIL
                      go_wp2
                      go_end0
                      obtain ⟨f3, h1, h2⟩ := HA3.out
                      exact ⟨rfl, f3, h1, HFIN.out _ h2⟩

end Go.Proofs.YtdidoecigkbffaaGreat
