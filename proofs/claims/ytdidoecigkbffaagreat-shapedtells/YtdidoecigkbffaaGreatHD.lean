/- A row of heaps put in order in place: the symmetric merge of the library's stable sort. -/
import Derived.Test.YtdidoecigkbffaaGreatHC
set_option maxRecDepth 100000
namespace Go.Proofs.YtdidoecigkbffaaGreat
open Go.RowKit
open S

set_option maxHeartbeats 4000000 in
/-- A row of one place ahead of a row in order. -/
theorem symMergeFirstH (g n cap a b : Nat) (f : Nat → Hp) (D : Hp → Prop) (κ : Hp → Int) (w u : World) (h : ArrH w g n f u) (hC : CmpH w g D κ) (hD : ∀ i, i < n → D (f i)) (hab : a + 1 < b) (hb : b ≤ n) (hn : n ≤ 1000000) (hU : Up κ f (a + 1) b) :
    Calls Tryz.prog 98 #[.slice (some ⟨g, 0, none⟩) n cap, .int .i64 (a : Int), .int .i64 ((a : Int) + 1), .int .i64 (b : Int), .func (.func 74) #[] #[]] u fun e u' => e = .returned (.tuple #[]) ∧ ∃ f', ArrH w g n f' u' ∧ Srt κ n f a b f' := by
  have H := Lib.hid h
  have HC := Lib.hid hC
  have HD := Lib.hid hD
  have HU := Lib.hid hU
  clear h hC hD hU
  have hone : (((a : Int) + 1 - (a : Int)) == 1) = true := by simp; omega
  go_enter Tryz.func98, Tryz.ntmps98
  go_wp2
  go_loopw [10, 11, 12] (fun v10 v11 _ wr => ∃ i j : Nat, a + 1 ≤ i ∧ i ≤ j ∧ j ≤ b ∧ v10 = .int .i64 (i : Int) ∧ v11 = .int .i64 (j : Int) ∧ ArrH w g n f wr ∧ (∀ k, a < k → k < i → κ (f k) < κ (f a)) ∧ (j = b ∨ κ (f a) ≤ κ (f j))) (fun v10 v11 _ _ => (intOf v11).toNat - (intOf v10).toNat)
  case atStart => exact ⟨a + 1, b, Nat.le_refl _, by omega, Nat.le_refl _, by go_num, rfl, H.out, fun k h1 h2 => by omega, .inl rfl⟩
  case round =>
    obtain ⟨i, j, hai, hij, hjb, rfl, rfl, hA, hlo, hhi⟩ := hrel
    by_cases hlt : i < j
    · have q0 : (i : Int) < (j : Int) := by omega
      obtain ⟨c, hc⟩ : ∃ c : Nat, c = (i + j) / 2 := ⟨_, rfl⟩
      have hci : i ≤ c := by omega
      have hcj : c < j := by omega
      have hcs : ∀ u, Below wr.heap.size wr u → u.cell? ⟨g, c * 3, none⟩ = some (.int .i64 (f c).s) ∧ u.cell? ⟨g, c * 3 + 1, none⟩ = some (.int .i64 (f c).w) ∧ u.cell? ⟨g, c * 3 + 2, none⟩ = some (.int .i64 (f c).p) ∧ u.cell? ⟨g, a * 3, none⟩ = some (.int .i64 (f a).s) ∧ u.cell? ⟨g, a * 3 + 1, none⟩ = some (.int .i64 (f a).w) ∧ u.cell? ⟨g, a * 3 + 2, none⟩ = some (.int .i64 (f a).p) := fun u hu => by
        have hK := hA.kept hu
        exact ⟨hK.c0 (c) (by omega), hK.c1 (c) (by omega), hK.c2 (c) (by omega), hK.c0 (a) (by omega), hK.c1 (a) (by omega), hK.c2 (a) (by omega)⟩
      have hcm := fun u (hu : Below wr.heap.size wr u) => HC.out u (hA.kp.below hu) (f c) (f a) (HD.out c (by omega)) (HD.out a (by omega))
      have HCM  := Lib.hid hcm
      have HCS := Lib.hid hcs
      have HL := Lib.hid (And.intro hA (And.intro hlo hhi))
      clear hcm  hcs hA hlo hhi H
      have q1 : (c : Int) < (n : Int) := by omega
      have q2 : (a : Int) < (n : Int) := by omega
      have q3 : (0 : Int) ≤ (c : Int) := by omega
      have q4 : (0 : Int) ≤ (a : Int) := by omega
      have e1 : ((i : Int) + (j : Int)) / 2 = (c : Int) := by omega
      clear hc
      by_cases hk : κ (f c) < κ (f a)
      · have hlt2 : κ (f c) - κ (f a) < 0 := by omega
        have HK2 := Lib.hid (show ∀ k, a < k → k < c + 1 → κ (f k) < κ (f a) from fun k h1 h2 => by
          have := HU.out k c (by omega) (by omega) (by omega); omega)
        clear hk
        obtain ⟨x, hx⟩ : ∃ x, x = f c := ⟨_, rfl⟩
        obtain ⟨y, hy⟩ : ∃ y, y = f a := ⟨_, rfl⟩
        rw [← hx] at HCS HCM hlt2
        rw [← hy] at HCS HCM hlt2
        clear hx hy
        generalize κ x - κ y = z at *
        obtain ⟨x0, x1, x2, y0, y1, y2⟩ := HCS.out _ (Below.refl _ _)
        have hbb : Below wr.heap.size wr wr := Below.refl _ _
        go_wp2
        go_region_held3 (fun w' => w'.cell? ⟨g, c * 3, none⟩ = some (.int .i64 x.s) ∧ w'.cell? ⟨g, c * 3 + 1, none⟩ = some (.int .i64 x.w) ∧ w'.cell? ⟨g, c * 3 + 2, none⟩ = some (.int .i64 x.p) ∧ w'.cell? ⟨g, a * 3, none⟩ = some (.int .i64 y.s) ∧ w'.cell? ⟨g, a * 3 + 1, none⟩ = some (.int .i64 y.w) ∧ w'.cell? ⟨g, a * 3 + 2, none⟩ = some (.int .i64 y.p))
          (first
            | (with_reducible exact HCS.out _ hbb)
            | (with_reducible exact HCS.out _ hbb.drew)
            | go_keep)
          (first
            | (go_at_call 74; (with_reducible refine (HCM.out _ hbb).mono ?_); rintro e u5 ⟨rfl, hb⟩; have hbb := hbb.trans (hb.mono hbb.size))
            | (go_at_call 74; (with_reducible refine (HCM.out _ hbb.drew).mono ?_); rintro e u5 ⟨rfl, hb⟩; have hbb := hbb.drew.trans (hb.mono hbb.drew.size)))
        all_goals
          have HA2 := Lib.hid (HL.out.1.kept hbb)
          clear hbb hb x0 x1 x2 y0 y1 y2 HCS HCM
          go_wp2
          go_roundw
          case rel => exact ⟨c + 1, j, by omega, by omega, hjb, by go_num, rfl, HA2.out, HK2.out, HL.out.2.2⟩
          case measure => simp [intOf]; try omega
      · have hlt2 : ¬ κ (f c) - κ (f a) < 0 := by omega
        have hlt3 : decide (κ (f c) - κ (f a) < 0) = false := decide_eq_false hlt2
        have HK2 := Lib.hid (show κ (f a) ≤ κ (f c) by omega)
        clear hk
        obtain ⟨x, hx⟩ : ∃ x, x = f c := ⟨_, rfl⟩
        obtain ⟨y, hy⟩ : ∃ y, y = f a := ⟨_, rfl⟩
        rw [← hx] at HCS HCM hlt2 hlt3
        rw [← hy] at HCS HCM hlt2 hlt3
        clear hx hy
        generalize κ x - κ y = z at *
        obtain ⟨x0, x1, x2, y0, y1, y2⟩ := HCS.out _ (Below.refl _ _)
        have hbb : Below wr.heap.size wr wr := Below.refl _ _
        go_wp2
        go_region_held3 (fun w' => w'.cell? ⟨g, c * 3, none⟩ = some (.int .i64 x.s) ∧ w'.cell? ⟨g, c * 3 + 1, none⟩ = some (.int .i64 x.w) ∧ w'.cell? ⟨g, c * 3 + 2, none⟩ = some (.int .i64 x.p) ∧ w'.cell? ⟨g, a * 3, none⟩ = some (.int .i64 y.s) ∧ w'.cell? ⟨g, a * 3 + 1, none⟩ = some (.int .i64 y.w) ∧ w'.cell? ⟨g, a * 3 + 2, none⟩ = some (.int .i64 y.p))
          (first
            | (with_reducible exact HCS.out _ hbb)
            | (with_reducible exact HCS.out _ hbb.drew)
            | go_keep)
          (first
            | (go_at_call 74; (with_reducible refine (HCM.out _ hbb).mono ?_); rintro e u5 ⟨rfl, hb⟩; have hbb := hbb.trans (hb.mono hbb.size))
            | (go_at_call 74; (with_reducible refine (HCM.out _ hbb.drew).mono ?_); rintro e u5 ⟨rfl, hb⟩; have hbb := hbb.drew.trans (hb.mono hbb.drew.size)))
        all_goals
          have HA2 := Lib.hid (HL.out.1.kept hbb)
          clear hbb hb x0 x1 x2 y0 y1 y2 HCS HCM
          go_wp2
          go_roundw
          case rel => exact ⟨i, c, hai, hci, by omega, rfl, by go_num, HA2.out, HL.out.2.1, .inr HK2.out⟩
          case measure => simp [intOf]; try omega
    · obtain rfl : i = j := by omega
      have HF := Lib.hid (del_srt HU.out (by omega : a < i) hjb hb hlo hhi)
      have HA := Lib.hid hA
      clear hA hlo hhi H HC HD HU
      go_wp2
      go_loopw [13] (fun v wq => ∃ k : Nat, a ≤ k ∧ k + 1 ≤ i ∧ v = .int .i64 (k : Int) ∧ ArrH w g n (rot f a (a + 1) (k + 1)) wq) (fun v _ => i - (intOf v).toNat)
      case atStart => exact ⟨a, Nat.le_refl _, by omega, rfl, by rw [rot_unit _ _ _ (by omega)]; exact HA.out⟩
      case round =>
        obtain ⟨k, hak, hki, rfl, hA⟩ := hrel
        by_cases hk : k + 1 < i
        · have x0 := hA.c0 (k) (by omega)
          have x1 := hA.c1 (k) (by omega)
          have x2 := hA.c2 (k) (by omega)
          have y0 := hA.c0 (k + 1) (by omega)
          have y1 := hA.c1 (k + 1) (by omega)
          have y2 := hA.c2 (k + 1) (by omega)
          have zz0 := hA.frz (k * 3) (by omega)
          have zz1 := hA.frz (k * 3 + 1) (by omega)
          have zz2 := hA.frz (k * 3 + 2) (by omega)
          have zz3 := hA.frz ((k + 1) * 3) (by omega)
          have zz4 := hA.frz ((k + 1) * 3 + 1) (by omega)
          have zz5 := hA.frz ((k + 1) * 3 + 2) (by omega)
          have hsw := (hA.swap (i := k) (j := k + 1) (by omega) (by omega) (by omega)).drew
          rw [rot_up f a k hak] at hsw
          have HSW := Lib.hid hsw
          clear hA hsw HA
          generalize rot f a (a + 1) (k + 1) k = x at *
          generalize rot f a (a + 1) (k + 1) (k + 1) = y at *
          have q1 : (k : Int) < (i : Int) - 1 := by omega
          have q2 : (k : Int) < (n : Int) := by omega
          have q3 : (k : Int) + 1 < (n : Int) := by omega
          have q4 : (0 : Int) ≤ (k : Int) + 1 := by omega
          have q5 : ((k : Int) + 1).toNat = k + 1 := by omega
          have q6 : IntKind.i64.wrap ((k : Int) + 1) = (k : Int) + 1 := IntWalk.i64_in _ (by omega)
          go_wp2
          go_big_region
          all_goals go_wp2
          go_roundw
          case rel => exact ⟨k + 1, by omega, by omega, by go_num, (by with_reducible exact HSW.out)⟩
          case measure => simp [intOf]; omega
        · obtain rfl : i = k + 1 := by omega
          have q1 : ¬ (k : Int) < ((k + 1 : Nat) : Int) - 1 := by omega
          have HAA := Lib.hid hA
          clear hA
          go_wp2
          refine bodyPost_ret (results_none rfl _ _ _) rfl ?_
          exact ⟨rfl, _, HAA.out, HF.out⟩

set_option maxHeartbeats 4000000 in
/-- A row of one place behind a row in order. -/
theorem symMergeLastH (g n cap a m : Nat) (f : Nat → Hp) (D : Hp → Prop) (κ : Hp → Int) (w u : World) (h : ArrH w g n f u) (hC : CmpH w g D κ) (hD : ∀ i, i < n → D (f i)) (ham : a + 1 < m) (hb : m + 1 ≤ n) (hn : n ≤ 1000000) (hU : Up κ f a m) :
    Calls Tryz.prog 98 #[.slice (some ⟨g, 0, none⟩) n cap, .int .i64 (a : Int), .int .i64 (m : Int), .int .i64 ((m : Int) + 1), .func (.func 74) #[] #[]] u fun e u' => e = .returned (.tuple #[]) ∧ ∃ f', ArrH w g n f' u' ∧ Srt κ n f a (m + 1) f' := by
  have H := Lib.hid h
  have HC := Lib.hid hC
  have HD := Lib.hid hD
  have HU := Lib.hid hU
  clear h hC hD hU
  have hne : (((m : Int) - (a : Int)) == 1) = false := by simp; omega
  have hone : (((m : Int) + 1 - (m : Int)) == 1) = true := by simp; omega
  go_enter Tryz.func98, Tryz.ntmps98
  go_wp2
  go_loopw [14, 15, 16] (fun v10 v11 _ wr => ∃ i j : Nat, a ≤ i ∧ i ≤ j ∧ j ≤ m ∧ v10 = .int .i64 (i : Int) ∧ v11 = .int .i64 (j : Int) ∧ ArrH w g n f wr ∧ (i = a ∨ κ (f (i - 1)) ≤ κ (f m)) ∧ (∀ k, j ≤ k → k < m → κ (f m) < κ (f k))) (fun v10 v11 _ _ => (intOf v11).toNat - (intOf v10).toNat)
  case atStart => exact ⟨a, m, Nat.le_refl _, by omega, Nat.le_refl _, rfl, rfl, H.out, .inl rfl, fun k h1 h2 => by omega⟩
  case round =>
    obtain ⟨i, j, hai, hij, hjb, rfl, rfl, hA, hlo, hhi⟩ := hrel
    by_cases hlt : i < j
    · have q0 : (i : Int) < (j : Int) := by omega
      obtain ⟨c, hc⟩ : ∃ c : Nat, c = (i + j) / 2 := ⟨_, rfl⟩
      have hci : i ≤ c := by omega
      have hcj : c < j := by omega
      have hcs : ∀ u, Below wr.heap.size wr u → u.cell? ⟨g, c * 3, none⟩ = some (.int .i64 (f c).s) ∧ u.cell? ⟨g, c * 3 + 1, none⟩ = some (.int .i64 (f c).w) ∧ u.cell? ⟨g, c * 3 + 2, none⟩ = some (.int .i64 (f c).p) ∧ u.cell? ⟨g, m * 3, none⟩ = some (.int .i64 (f m).s) ∧ u.cell? ⟨g, m * 3 + 1, none⟩ = some (.int .i64 (f m).w) ∧ u.cell? ⟨g, m * 3 + 2, none⟩ = some (.int .i64 (f m).p) := fun u hu => by
        have hK := hA.kept hu
        exact ⟨hK.c0 (c) (by omega), hK.c1 (c) (by omega), hK.c2 (c) (by omega), hK.c0 (m) (by omega), hK.c1 (m) (by omega), hK.c2 (m) (by omega)⟩
      have hcm := fun u (hu : Below wr.heap.size wr u) => HC.out u (hA.kp.below hu) (f m) (f c) (HD.out m (by omega)) (HD.out c (by omega))
      have HCM  := Lib.hid hcm
      have HCS := Lib.hid hcs
      have HL := Lib.hid (And.intro hA (And.intro hlo hhi))
      clear hcm  hcs hA hlo hhi H
      have q1 : (c : Int) < (n : Int) := by omega
      have q2 : (m : Int) < (n : Int) := by omega
      have q3 : (0 : Int) ≤ (c : Int) := by omega
      have q4 : (0 : Int) ≤ (m : Int) := by omega
      have e1 : ((i : Int) + (j : Int)) / 2 = (c : Int) := by omega
      clear hc
      by_cases hk : κ (f m) < κ (f c)
      · have hlt2 : κ (f m) - κ (f c) < 0 := by omega
        have hlt3 : decide (κ (f m) - κ (f c) < 0) = true := decide_eq_true hlt2
        have HK2 := Lib.hid (show ∀ k, c ≤ k → k < m → κ (f m) < κ (f k) from fun k h1 h2 => by
          have := HU.out c k (by omega) (by omega) (by omega); omega)
        clear hk
        obtain ⟨x, hx⟩ : ∃ x, x = f c := ⟨_, rfl⟩
        obtain ⟨y, hy⟩ : ∃ y, y = f m := ⟨_, rfl⟩
        rw [← hx] at HCS HCM hlt2 hlt3
        rw [← hy] at HCS HCM hlt2 hlt3
        clear hx hy
        generalize κ y - κ x = z at *
        obtain ⟨x0, x1, x2, y0, y1, y2⟩ := HCS.out _ (Below.refl _ _)
        have hbb : Below wr.heap.size wr wr := Below.refl _ _
        go_wp2
        go_region_held3 (fun w' => w'.cell? ⟨g, c * 3, none⟩ = some (.int .i64 x.s) ∧ w'.cell? ⟨g, c * 3 + 1, none⟩ = some (.int .i64 x.w) ∧ w'.cell? ⟨g, c * 3 + 2, none⟩ = some (.int .i64 x.p) ∧ w'.cell? ⟨g, m * 3, none⟩ = some (.int .i64 y.s) ∧ w'.cell? ⟨g, m * 3 + 1, none⟩ = some (.int .i64 y.w) ∧ w'.cell? ⟨g, m * 3 + 2, none⟩ = some (.int .i64 y.p))
          (first
            | (with_reducible exact HCS.out _ hbb)
            | (with_reducible exact HCS.out _ hbb.drew)
            | go_keep)
          (first
            | (go_at_call 74; (with_reducible refine (HCM.out _ hbb).mono ?_); rintro e u5 ⟨rfl, hb⟩; have hbb := hbb.trans (hb.mono hbb.size))
            | (go_at_call 74; (with_reducible refine (HCM.out _ hbb.drew).mono ?_); rintro e u5 ⟨rfl, hb⟩; have hbb := hbb.drew.trans (hb.mono hbb.drew.size)))
        all_goals
          have HA2 := Lib.hid (HL.out.1.kept hbb)
          clear hbb hb x0 x1 x2 y0 y1 y2 HCS HCM
          go_wp2
          go_roundw
          case rel => exact ⟨i, c, hai, hci, by omega, rfl, by go_num, HA2.out, HL.out.2.1, HK2.out⟩
          case measure => simp [intOf]; try omega
      · have hlt2 : ¬ κ (f m) - κ (f c) < 0 := by omega
        have hlt3 : decide (κ (f m) - κ (f c) < 0) = false := decide_eq_false hlt2
        have HK2 := Lib.hid (show κ (f c) ≤ κ (f m) by omega)
        clear hk
        obtain ⟨x, hx⟩ : ∃ x, x = f c := ⟨_, rfl⟩
        obtain ⟨y, hy⟩ : ∃ y, y = f m := ⟨_, rfl⟩
        rw [← hx] at HCS HCM hlt2 hlt3
        rw [← hy] at HCS HCM hlt2 hlt3
        clear hx hy
        generalize κ y - κ x = z at *
        obtain ⟨x0, x1, x2, y0, y1, y2⟩ := HCS.out _ (Below.refl _ _)
        have hbb : Below wr.heap.size wr wr := Below.refl _ _
        go_wp2
        go_region_held3 (fun w' => w'.cell? ⟨g, c * 3, none⟩ = some (.int .i64 x.s) ∧ w'.cell? ⟨g, c * 3 + 1, none⟩ = some (.int .i64 x.w) ∧ w'.cell? ⟨g, c * 3 + 2, none⟩ = some (.int .i64 x.p) ∧ w'.cell? ⟨g, m * 3, none⟩ = some (.int .i64 y.s) ∧ w'.cell? ⟨g, m * 3 + 1, none⟩ = some (.int .i64 y.w) ∧ w'.cell? ⟨g, m * 3 + 2, none⟩ = some (.int .i64 y.p))
          (first
            | (with_reducible exact HCS.out _ hbb)
            | (with_reducible exact HCS.out _ hbb.drew)
            | go_keep)
          (first
            | (go_at_call 74; (with_reducible refine (HCM.out _ hbb).mono ?_); rintro e u5 ⟨rfl, hb⟩; have hbb := hbb.trans (hb.mono hbb.size))
            | (go_at_call 74; (with_reducible refine (HCM.out _ hbb.drew).mono ?_); rintro e u5 ⟨rfl, hb⟩; have hbb := hbb.drew.trans (hb.mono hbb.drew.size)))
        all_goals
          have HA2 := Lib.hid (HL.out.1.kept hbb)
          clear hbb hb x0 x1 x2 y0 y1 y2 HCS HCM
          go_wp2
          go_roundw
          case rel => exact ⟨c + 1, j, by omega, by omega, hjb, by go_num, rfl, HA2.out, .inr (by rw [Nat.add_sub_cancel]; exact HK2.out), HL.out.2.2⟩
          case measure => simp [intOf]; try omega
    · obtain rfl : i = j := by omega
      have HF := Lib.hid (ins_srt HU.out hai hjb (by omega : m < n) hhi hlo)
      have HA := Lib.hid hA
      clear hA hlo hhi H HC HD HU
      go_wp2
      go_loopw [17] (fun v wq => ∃ k : Nat, i ≤ k ∧ k ≤ m ∧ v = .int .i64 (k : Int) ∧ ArrH w g n (rot f k m (m + 1)) wq) (fun v _ => (intOf v).toNat)
      case atStart => exact ⟨m, by omega, Nat.le_refl _, rfl, by rw [rot_self _ _ _ (by omega)]; exact HA.out⟩
      case round =>
        obtain ⟨k, hak, hki, rfl, hA⟩ := hrel
        by_cases hk : i < k
        · obtain ⟨jp, rfl⟩ : ∃ jp, k = jp + 1 := ⟨k - 1, by omega⟩
          have x0 := hA.c0 (jp + 1) (by omega)
          have x1 := hA.c1 (jp + 1) (by omega)
          have x2 := hA.c2 (jp + 1) (by omega)
          have y0 := hA.c0 (jp) (by omega)
          have y1 := hA.c1 (jp) (by omega)
          have y2 := hA.c2 (jp) (by omega)
          have zz0 := hA.frz ((jp + 1) * 3) (by omega)
          have zz1 := hA.frz ((jp + 1) * 3 + 1) (by omega)
          have zz2 := hA.frz ((jp + 1) * 3 + 2) (by omega)
          have zz3 := hA.frz (jp * 3) (by omega)
          have zz4 := hA.frz (jp * 3 + 1) (by omega)
          have zz5 := hA.frz (jp * 3 + 2) (by omega)
          have hsw := (hA.swap (i := jp + 1) (j := jp) (by omega) (by omega) (by omega)).drew
          rw [rot_down f m jp hki] at hsw
          have HSW := Lib.hid hsw
          clear hA hsw HA
          generalize rot f (jp + 1) m (m + 1) (jp + 1) = x at *
          generalize rot f (jp + 1) m (m + 1) jp = y at *
          have q1 : (i : Int) < (jp : Int) + 1 := by omega
          have q2 : (jp : Int) + 1 < (n : Int) := by omega
          have q3 : (jp : Int) < (n : Int) := by omega
          have q4 : (0 : Int) ≤ (jp : Int) + 1 := by omega
          have q5 : ((jp : Int) + 1).toNat = jp + 1 := by omega
          have q6 : IntKind.i64.wrap ((jp : Int) + 1 - 1) = (jp : Int) := by rw [Int.add_sub_cancel]; exact IntWalk.i64_in _ (by omega)
          go_wp2
          go_big_region
          all_goals go_wp2
          go_roundw
          case rel => exact ⟨jp, by omega, by omega, by go_num, (by with_reducible exact HSW.out)⟩
          case measure => simp [intOf]; try omega
        · obtain rfl : i = k := by omega
          have HAA := Lib.hid hA
          clear hA
          go_wp2
          refine bodyPost_ret (results_none rfl _ _ _) rfl ?_
          exact ⟨rfl, _, HAA.out, HF.out⟩

end Go.Proofs.YtdidoecigkbffaaGreat
