/- A row of heaps put in order in place: the library's stable sort, of rows to 39. -/
import Derived.Test.YtdidoecigkbffaaGreatHE
set_option maxRecDepth 100000
namespace Go.Proofs.YtdidoecigkbffaaGreat
open Go.RowKit
open S

set_option maxHeartbeats 4000000 in
theorem stableH (g n cap : Nat) (f : Nat → Hp) (D : Hp → Prop) (κ : Hp → Int) (w u : World) (h : ArrH w g n f u) (hC : CmpH w g D κ) (hD : ∀ i, i < n → D (f i)) (hn : n ≤ 39) :
    Calls Tryz.prog 90 #[.slice (some ⟨g, 0, none⟩) n cap, .int .i64 (n : Int), .func (.func 74) #[] #[]] u fun e u' => e = .returned (.tuple #[]) ∧ ∃ f', ArrH w g n f' u' ∧ Same κ (seg f 0 n) (seg f' 0 n) ∧ Up κ f' 0 n := by
  have H := Lib.hid h
  have HC := Lib.hid hC
  have HD := Lib.hid hD
  clear h hC hD
  go_enter Tryz.func90, Tryz.ntmps90
  go_wp2
  go_loopw [7, 8] (fun v7 v8 wr => ∃ (a : Nat) (f1 : Nat → Hp), (a = 0 ∨ a = 20) ∧ a ≤ n ∧ v7 = .int .i64 (a : Int) ∧ v8 = .int .i64 ((a + 20 : Nat) : Int) ∧ ArrH w g n f1 wr ∧ Srt κ n f 0 a f1) (fun _ v8 _ => 60 - (intOf v8).toNat)
  case atStart => exact ⟨0, f, .inl rfl, Nat.zero_le _, rfl, rfl, H.out, Srt.refl fun i j _ _ h3 => by omega⟩
  case round =>
    obtain ⟨a, f1, ha, han, rfl, rfl, hA, hS⟩ := hrel
    clear H
    have HA := Lib.hid (And.intro hA hS)
    have HD1 := Lib.hid (same_dom hS.same HD.out)
    clear hA hS
    by_cases hlt : a + 20 ≤ n
    · obtain rfl : a = 0 := by omega
      have q : (20 : Int) ≤ (n : Int) := by omega
      go_wp2_with fail
      refine (insertionH g n cap 0 20 f1 D κ w _ HA.out.1 HC.out HD1.out (by omega) (by omega) (by omega)).mono ?_
      rintro e w' ⟨rfl, f2, h1, h2⟩
      have H2 := Lib.hid (And.intro h1 h2)
      clear h1 h2
      go_wp2
      go_roundw
      case rel => exact ⟨20, f2, .inr rfl, by omega, rfl, rfl, H2.out.1, HA.out.2.trans H2.out.2 (Nat.le_refl _) (Nat.zero_le _)⟩
      case measure => simp [intOf]
    · have q : ¬ ((a + 20 : Nat) : Int) ≤ (n : Int) := by omega
      have q' : ¬ (a : Int) + 20 ≤ (n : Int) := by omega
      go_wp2_with fail
      refine (insertionH g n cap a n f1 D κ w _ HA.out.1 HC.out HD1.out (by omega) (by omega) (by omega)).mono ?_
      rintro e w' ⟨rfl, f2, h1, h2⟩
      have hup : Up κ f2 0 a := fun i j i1 i2 i3 => by rw [h2.out i (.inl (by omega)), h2.out j (.inl i3)]; exact HA.out.2.up i j i1 i2 i3
      have H2 := Lib.hid (And.intro h1 (And.intro (HA.out.2.same.trans h2.same) (And.intro hup h2.up)))
      have HD2 := Lib.hid (same_dom h2.same HD1.out)
      clear h1 h2 hup HA HD1
      go_wp2
      go_loopw [6, 7, 8, 9] (fun v6 _ _ _ wr => (v6 = .int .i64 20 ∧ ArrH w g n f2 wr) ∨ (v6 = .int .i64 40 ∧ ∃ f3, ArrH w g n f3 wr ∧ Same κ (seg f 0 n) (seg f3 0 n) ∧ Up κ f3 0 n)) (fun v6 _ _ _ _ => 100 - (intOf v6).toNat)
      case atStart => exact .inl ⟨rfl, H2.out.1⟩
      case round =>
        rcases hrel with ⟨rfl, hA⟩ | ⟨rfl, f3, hA, hS⟩
        · by_cases h20 : 20 < n
          · obtain rfl : a = 20 := by omega
            have q2 : (20 : Int) < (n : Int) := by omega
            have HA := Lib.hid hA
            obtain ⟨w1, rfl⟩ : ∃ w1, w1 = wr := ⟨_, rfl⟩
            clear hA
            go_wp2
            go_loopw [7, 8] (fun v7 v8 wq => v7 = .int .i64 0 ∧ v8 = .int .i64 40 ∧ wq = w1) (fun _ _ _ => 0)
            case atStart => exact ⟨rfl, rfl, rfl⟩
            case round =>
              obtain ⟨rfl, rfl, rfl⟩ := hrel
              have q3 : ¬ (40 : Int) ≤ (n : Int) := by omega
              go_wp2_with fail
              have hm := symMergeH g n cap D κ w HC.out (by omega) n 0 20 n f2 wr (by omega) HA.out HD2.out (by omega) h20 (Nat.le_refl _) H2.out.2.2.1 H2.out.2.2.2
              refine hm.mono ?_
              clear hm
              rintro e w' ⟨rfl, f3, h1, h2⟩
              have H3 := Lib.hid (And.intro h1 h2)
              clear h1 h2
              go_wp2
              go_roundw
              case rel =>
                (repeat apply Exists.intro)
                exact ⟨.inr ⟨rfl, f3, H3.out.1, H2.out.2.1.trans H3.out.2.same, H3.out.2.up⟩, rfl⟩
              case measure => simp [intOf]
          · have q2 : ¬ (20 : Int) < (n : Int) := by omega
            have HA := Lib.hid hA
            clear hA
            go_wp2
            go_end0
            refine ⟨rfl, f2, HA.out, H2.out.2.1, ?_⟩
            rcases ha with rfl | rfl
            · exact H2.out.2.2.2
            · obtain rfl : n = 20 := by omega
              exact H2.out.2.2.1
        · have q2 : ¬ (40 : Int) < (n : Int) := by omega
          go_wp2
          go_end0
          exact ⟨rfl, f3, hA, hS⟩

theorem sortStableH (g n cap : Nat) (f : Nat → Hp) (D : Hp → Prop) (κ : Hp → Int) (w : World) (h : ArrH w g n f w) (hC : CmpH w g D κ) (hD : ∀ i, i < n → D (f i)) (hn : n ≤ 39) :
    Calls Tryz.prog 73 #[.slice (some ⟨g, 0, none⟩) n cap, .func (.func 74) #[] #[]] w fun e u' => e = .returned (.tuple #[]) ∧ ∃ f', ArrH w g n f' u' ∧ Same κ (seg f 0 n) (seg f' 0 n) ∧ Up κ f' 0 n := by
  have H := Lib.hid (stableH g n cap f D κ w w h hC hD hn)
  clear h hC hD
  go_enter Tryz.func73, Tryz.ntmps73
  go_wp2_with fail
  refine H.out.mono ?_
  rintro e w' ⟨rfl, h⟩
  have HH := Lib.hid h
  clear h
  go_wp2
  go_end0
  exact ⟨rfl, HH.out⟩

end Go.Proofs.YtdidoecigkbffaaGreat
