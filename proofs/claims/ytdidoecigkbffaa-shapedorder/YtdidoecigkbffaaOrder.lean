/- The walk of ShapedOrder. -/
import Derived.Test.YtdidoecigkbffaaPE
set_option maxRecDepth 100000
namespace Go.Proofs.Ytdidoecigkbffaa
open Go.RowKit
open S J M
attribute [local go_sem ↓] Go.wp_at_zero Go.wp_at_succ

theorem cntL_rev (xs : List Int) (size : Nat) : cntL xs.reverse size = cntL xs size := by
  unfold cntL cntI
  apply List.map_congr_left
  intro c _
  rw [List.count_reverse]
theorem rev_snoc (m : List Int) (j : Nat) (h : j < m.length) : m.reverse.take (j + 1) = m.reverse.take j ++ [m.getD (m.length - 1 - j) 0] := by
  rw [takeI_snoc _ j (by simpa using h)]
  congr 2
  rw [List.getD_eq_getElem?_getD, List.getElem?_reverse (by omega), List.getD_eq_getElem?_getD]

variable {w u u' : World} {x1 x2 L C1 C2 s1 s2 b1 b2 size : Nat} {m1 m2 : List Int} {f : Nat → List Bool} {k1 k2 : List (List Bool)} {R1 R2 : List Bool → RP}
/-- Two rows in their boxes. -/
structure S2 (w : World) (x1 x2 L C1 C2 s1 s2 b1 b2 size : Nat) (m1 m2 : List Int) (f : Nat → List Bool) (k1 k2 : List (List Bool)) (R1 R2 : List Bool → RP) (u : World) : Prop where
  a : SB w x1 L C1 s1 b1 size m1 f k1 R1 u
  b : SB w x2 L C2 s2 b2 size m2 f k2 R2 u
theorem S2.kept (h : S2 w x1 x2 L C1 C2 s1 s2 b1 b2 size m1 m2 f k1 k2 R1 R2 u) (hb : Below u.heap.size u u') : S2 w x1 x2 L C1 C2 s1 s2 b1 b2 size m1 m2 f k1 k2 R1 R2 u' := ⟨h.a.kept hb, h.b.kept hb⟩
theorem S2.drew (h : S2 w x1 x2 L C1 C2 s1 s2 b1 b2 size m1 m2 f k1 k2 R1 R2 u) : S2 w x1 x2 L C1 C2 s1 s2 b1 b2 size m1 m2 f k1 k2 R1 R2 u.drew := h.kept ((Below.refl _ _).drew)

theorem cost_rev (m : List Int) (f : Nat → List Bool) : ((codesL m.reverse f).map List.length).sum = ((codesL m f).map List.length).sum := by
  unfold codesL
  rw [List.map_map, List.map_map, List.map_reverse, List.sum_reverse]
theorem scost_any (n C sb b size : Nat) (xs : List Int) (f : Nat → List Bool) (ks : List (List Bool)) (Rf : List Bool → RP) (w : World) (h : SX w C sb b size xs f ks Rf) (hT : ((codesL xs f).map List.length).sum ≤ 1000000) :
    Calls Try.prog 17 #[.agg #[.int .i64 (n : Int), .slice (some ⟨C, 0, none⟩) size size, .map (some sb), .map (some b)]] w fun e w' => e = .returned (.int .i64 (((codesL xs f).map List.length).sum : Nat)) ∧ Below w.heap.size w w' := by
  obtain ⟨N, hp⟩ := h.parts
  have htot : rest ks (fun l => (partB (codesL xs f) l).length) (fun _ => true) = ((codesL xs f).map List.length).sum := by
    rw [rest_all, cost_total ks hp.nd _ (fun p hp => (h.keys p).2 hp)]
  have := cost_any n b N (.slice (some ⟨C, 0, none⟩) size size) (.map (some sb)) ks _ Rf w hp (by rw [htot]; exact hT)
  rw [htot] at this
  exact this
theorem sum_le (l : List (List Bool)) (k : Nat) (h : ∀ c ∈ l, c.length ≤ k) : (l.map List.length).sum ≤ k * l.length := by
  induction l with
  | nil => simp
  | cons c l ih =>
    have h1 := h c (by simp)
    have h2 := ih (fun c hc => h c (by simp [hc]))
    rw [List.map_cons, List.sum_cons, List.length_cons, Nat.mul_add]; omega

set_option maxHeartbeats 8000000 in
theorem order_walk (A : Option Addr) (n0 c0 : Nat) (xs : List Int) (size0 : Int) (w : World) (hA : NumsAt .i64 w A xs) (hx : xs.length = n0) :
    Calls Try.prog 7 #[.slice A n0 c0, .int .i64 size0] w fun e w' => e = .returned (.bool true) ∧ Below w.heap.size w w' := by
  have hsy := fun u (hb : Below w.heap.size w u) => symbols_any A n0 c0 xs size0 u (hA.kept hb) hx
  have HSY := Lib.hid hsy
  clear hsy hA hx
  go_enter Try.func7, Try.ntmps7
  go_wp2_with fail
  refine (awake_any _).mono ?_
  rintro e w1 ⟨rfl, hb1⟩
  have HB := Lib.hid hb1
  clear hb1
  go_wp2_with fail
  refine (HSY.out _ HB.out).mono ?_
  rintro e w2 ⟨s, v, m, rfl, hs1, hs2, hm80, hms, hom⟩
  obtain ⟨ma, mc, rfl, hmn, -, -, -⟩ := nums_of_own hom.1
  have hb2 := HB.out.trans (hom.2.mono HB.out.size)
  obtain ⟨L, hL⟩ : ∃ L, L = m.length := ⟨_, rfl⟩
  rw [← hL] at hm80 ⊢
  have HM := Lib.hid (And.intro hmn (And.intro hL.symm (And.intro hms hb2)))
  clear hmn hms hom hb2 HSY HB hL
  go_wp2
  go_loopw [8, 9] (fun v8 v9 wr => ∃ j : Nat, j ≤ L ∧ v9 = .int .i64 ((L : Int) - 1 - (j : Int)) ∧ OwnI w2 v8 (m.reverse.take j) wr) (fun _ v9 _ => (intOf v9 + 1).toNat)
  case atStart => exact ⟨0, Nat.zero_le _, by go_num, World.ownsRow_nil _ _ _ _, Below.refl _ _⟩
  case round =>
    obtain ⟨j, hjL, rfl, hI⟩ := hrel
    by_cases hlt : j < L
    · obtain ⟨i, hi⟩ : ∃ i : Nat, (L : Int) - 1 - (j : Int) = (i : Int) := ⟨L - 1 - j, by omega⟩
      rw [hi]
      have hiL : i < L := by omega
      obtain ⟨bb, off, hAe, -, hcb⟩ := num_at (HM.out.1.kept hI.2) (i := i) (by rw [HM.out.2.1]; exact hiL)
      have hsu := rev_snoc m j (by rw [HM.out.2.1]; exact hlt)
      rw [HM.out.2.1, show L - 1 - j = i by omega] at hsu
      have hln : (m.reverse.take j).length = j := by rw [List.length_take, List.length_reverse, HM.out.2.1]; omega
      have hsz := hI.2.size
      have HI := Lib.hid (And.intro hI (And.intro hsu (And.intro hln hi)))
      subst hAe
      clear hI hsu hln hi
      generalize m.getD i 0 = y at *
      have q1 : (0 : Int) ≤ (i : Int) := by omega
      have q2 : (i : Int) < (L : Int) := by omega
      go_wp2_with (first
        | (at_builtin
           refine wpList_append_nums rfl (.tmp 29) (.tmp 34) rfl w2.heap.size _ _ _ rfl (HI.out.1.alloc _).1 (some ⟨_, 0, none⟩) 1 1 [y] rfl rfl ?c1 (by simp) ?c2 ?c3 ?_))
      case c1 => exact nums_one _ _
      case c2 => first | omega | (rw [HI.out.2.2.1]; omega)
      case c3 => first | omega | (simp; omega)
      intro v' w5 hown hgrow _
      have hI5 := (HI.out.1.alloc _).app (l' := m.reverse.take j ++ [y]) (by simpa using hown) hgrow
      have HX5 := Lib.hid hI5
      clear hown hgrow hI5
      go_wp2
      go_roundw
      case rel =>
        refine ⟨j + 1, by omega, ?_, by rw [HI.out.2.1]; exact HX5.out⟩
        have := HI.out.2.2.2
        simp only [Value.int.injEq, true_and]
        omega
      case measure => simp [intOf]
    · obtain rfl : j = L := by omega
      have hl2 : m.reverse.length = j := by rw [List.length_reverse, HM.out.2.1]
      rw [List.take_of_length_le (by omega)] at hI
      have hms2 : ∀ x ∈ m.reverse, 0 ≤ x ∧ x < (s : Int) := fun x hx => HM.out.2.2.1 x (List.mem_reverse.1 hx)
      obtain ⟨m2, hm2⟩ : ∃ m2, m2 = m.reverse := ⟨_, rfl⟩
      rw [← hm2] at hl2 hI hms2
      have HM2 := Lib.hid (And.intro hm2 (And.intro hl2 hms2))
      obtain ⟨ta, tc, rfl, htn, -, -, -⟩ := nums_of_own hI.1
      have hnew := new_ok ma j mc s m wr (HM.out.1.kept hI.2) HM.out.2.1 (by omega) HM.out.2.2.1 hs1 (by omega)
      have HNW := Lib.hid hnew
      have hbr := HM.out.2.2.2.trans (hI.2.mono HM.out.2.2.2.size)
      have HT := Lib.hid (And.intro htn hbr)
      rw [hl2]
      clear hm2 hl2 hms2 hnew htn hI hbr
      have q0 : (j : Int) - 1 - (j : Int) = -1 := by omega
      rw [q0]
      go_wp2_with fail
      (with_reducible refine HNW.out.mono ?_)
      rintro e u1 ⟨C1, sb1, b1, ys1, zs1, k1, R1, rfl, hcod1, hSH1⟩
      rw [HM.out.2.1]
      have hF1 := FR.of hcod1 HM.out.2.2.1
      obtain ⟨rfl, rfl⟩ := hcod1.told
      have hsx1 := hSH1.sx
      have hbu1 := HT.out.2.trans (hSH1.bel.mono HT.out.2.size)
      obtain ⟨f, hf⟩ : ∃ f, f = codF (ysF (cntL m s) s) (zsF (cntL m s) s) := ⟨_, rfl⟩
      rw [← hf] at hsx1 hF1
      have hSB1 := SB.new j hsx1
      have htn1 := (HT.out.1.kept hSH1.bel).kept ((Below.refl _ _).alloc (Nat.le_refl _) (.cells #[.int .i64 (j : Int), .slice (some ⟨C1, 0, none⟩) s s, .map (some sb1), .map (some b1)] 34))
      obtain ⟨u2, hu2⟩ : ∃ u2, u2 = u1.alloc (.cells #[.int .i64 (j : Int), .slice (some ⟨C1, 0, none⟩) s s, .map (some sb1), .map (some b1)] 34) := ⟨_, rfl⟩
      obtain ⟨x1, hx1⟩ : ∃ x1, x1 = u1.heap.size := ⟨_, rfl⟩
      rw [← hu2] at hSB1 htn1
      rw [← hx1] at hSB1
      have hbu2 := hbu1.trans (hSB1.bel.mono hbu1.size)
      have hnew2 := new_ok ta j tc s m2 u2 htn1 HM2.out.2.1 (by omega) HM2.out.2.2 hs1 (by omega)
      have HNW2 := Lib.hid hnew2
      have HS1 := Lib.hid (And.intro hSB1 (And.intro hbu2 hF1))
      have HFF := Lib.hid hf
      clear hnew2 hcod1 hSH1 hsx1 hF1 hf hSB1 htn1 hbu1 hbu2 HNW HT
      go_upto_region 9 with fail
      rw [← hu2, ← hx1]
      clear hu2 hx1
      go_wp2_with fail
      (with_reducible refine HNW2.out.mono ?_)
      rintro e u3 ⟨C2, sb2, b2, ys2, zs2, k2, R2, rfl, hcod2, hSH2⟩
      rw [HM2.out.2.1]
      have hF2 := FR.of hcod2 HM2.out.2.2
      obtain ⟨rfl, rfl⟩ := hcod2.told
      have hsx2 := hSH2.sx
      have hcnt : cntL m2 s = cntL m s := by rw [HM2.out.1, cntL_rev]
      rw [hcnt, ← HFF.out] at hsx2 hF2
      have hSB2 := SB.new j hsx2
      obtain ⟨u4, hu4⟩ : ∃ u4, u4 = u3.alloc (.cells #[.int .i64 (j : Int), .slice (some ⟨C2, 0, none⟩) s s, .map (some sb2), .map (some b2)] 34) := ⟨_, rfl⟩
      obtain ⟨x2, hx2⟩ : ∃ x2, x2 = u3.heap.size := ⟨_, rfl⟩
      rw [← hu4, ← hx2] at hSB2
      have hb23 := hSH2.bel
      have hA1 := (HS1.out.1.kept hb23).kept hSB2.bel
      have hbw2 := HS1.out.2.1.trans (hb23.mono HS1.out.2.1.size)
      have hbw := hbw2.trans (hSB2.bel.mono hbw2.size)
      have hS2 : S2 w x1 x2 j C1 C2 sb1 sb2 b1 b2 s m m2 f k1 k2 R1 R2 u4 :=
        ⟨⟨hA1.c0, hA1.c1, hA1.c2, hA1.c3, hA1.sx, hbw⟩, ⟨hSB2.c0, hSB2.c1, hSB2.c2, hSB2.c3, hSB2.sx, hbw⟩⟩
      have HS2 := Lib.hid hS2
      have HFR := Lib.hid (And.intro HS1.out.2.2 hF2)
      clear hcod2 hSH2 hsx2 hcnt hSB2 hb23 hA1 hbw hbw2 hS2 hF2 HNW2 HS1
      go_upto_region 10 with fail
      rw [← hu4, ← hx2]
      clear hu4 hx2
      go_wp2
      go_loopw [14] (fun v14 wq => ∃ k : Nat, k ≤ s ∧ v14 = .int .i64 (k : Int) ∧ S2 w x1 x2 j C1 C2 sb1 sb2 b1 b2 s m m2 f k1 k2 R1 R2 wq) (fun v14 _ => s - (intOf v14).toNat)
      case atStart => exact ⟨0, Nat.zero_le _, rfl, HS2.out⟩
      case round =>
        obtain ⟨k, hks, rfl, hS⟩ := hrel
        clear HS2
        by_cases hlt : k < s
        · have q1 : (k : Int) < (s : Int) := by omega
          have hlo : lo j (j : Int) = j := lo_nat j j (Nat.le_refl _)
          have hca := fun (u : World) (h : S2 w x1 x2 j C1 C2 sb1 sb2 b1 b2 s m m2 f k1 k2 R1 R2 u) => (scode_any j (k : Int) h.a.sx).mono fun e u' hh => And.intro hh.1 (h.kept hh.2)
          have hcb := fun (u : World) (h : S2 w x1 x2 j C1 C2 sb1 sb2 b1 b2 s m m2 f k1 k2 R1 R2 u) => (scode_any j (k : Int) h.b.sx).mono fun e u' hh => And.intro hh.1 (h.kept hh.2)
          have hra := fun (u : World) (h : S2 w x1 x2 j C1 C2 sb1 sb2 b1 b2 s m m2 f k1 k2 R1 R2 u) => (srank_any (n := j) (k : Int) (j : Int) h.a.sx HFR.out.1 (by omega) HM.out.2.1 (by omega)).mono fun e u' hh => And.intro hh.1 (h.kept hh.2)
          have hrb := fun (u : World) (h : S2 w x1 x2 j C1 C2 sb1 sb2 b1 b2 s m m2 f k1 k2 R1 R2 u) => (srank_any (n := j) (k : Int) (j : Int) h.b.sx HFR.out.2 (by omega) HM2.out.2.1 (by omega)).mono fun e u' hh => And.intro hh.1 (h.kept hh.2)
          rw [hlo, List.take_of_length_le (by rw [HM.out.2.1]; exact Nat.le_refl _)] at hra
          rw [hlo, List.take_of_length_le (by rw [HM2.out.2.1]; exact Nat.le_refl _), HM2.out.1, List.count_reverse, ← HM2.out.1] at hrb
          generalize str (codI f s (k : Int)) = key at *
          generalize List.count (k : Int) m = r at *
          have HCA := Lib.hid hca
          have HCB := Lib.hid hcb
          have HRA := Lib.hid hra
          have HRB := Lib.hid hrb
          have l0 := hS.a.c0
          have l1 := hS.a.c1
          have l2 := hS.a.c2
          have l3 := hS.a.c3
          have d0 := hS.b.c0
          have d1 := hS.b.c1
          have d2 := hS.b.c2
          have d3 := hS.b.c3
          have hA := Lib.hid hS
          have hund : undef = Value.tuple #[] := rfl
          have q3 : (key.toList == key.toList) = true := by simp
          have q4 : ((r : Int) == (r : Int)) = true := by simp
          clear hca hcb hra hrb hS hlo
          go_wp2
          go_region_held3 (fun w' => w'.cell? ⟨x1, 0, none⟩ = some (.int .i64 (j : Int)) ∧ w'.cell? ⟨x1, 1, none⟩ = some (.slice (some ⟨C1, 0, none⟩) s s) ∧ w'.cell? ⟨x1, 2, none⟩ = some (.map (some sb1)) ∧ w'.cell? ⟨x1, 3, none⟩ = some (.map (some b1)) ∧ w'.cell? ⟨x2, 0, none⟩ = some (.int .i64 (j : Int)) ∧ w'.cell? ⟨x2, 1, none⟩ = some (.slice (some ⟨C2, 0, none⟩) s s) ∧ w'.cell? ⟨x2, 2, none⟩ = some (.map (some sb2)) ∧ w'.cell? ⟨x2, 3, none⟩ = some (.map (some b2)))
            (first
              | (with_reducible exact ⟨hA.out.a.c0, hA.out.a.c1, hA.out.a.c2, hA.out.a.c3, hA.out.b.c0, hA.out.b.c1, hA.out.b.c2, hA.out.b.c3⟩)
              | go_keep)
            (first
              | (go_at_call 19; (with_reducible refine (HCA.out _ hA.out.drew).mono ?_); rintro e u ⟨rfl, hA'⟩; have hA := Lib.hid hA'; clear hA')
              | (go_at_call 19; (with_reducible refine (HCB.out _ hA.out.drew).mono ?_); rintro e u ⟨rfl, hA'⟩; have hA := Lib.hid hA'; clear hA')
              | (go_at_call 19; (with_reducible refine (HCA.out _ hA.out).mono ?_); rintro e u ⟨rfl, hA'⟩; have hA := Lib.hid hA'; clear hA')
              | (go_at_call 19; (with_reducible refine (HCB.out _ hA.out).mono ?_); rintro e u ⟨rfl, hA'⟩; have hA := Lib.hid hA'; clear hA')
              | (go_at_call 12; (with_reducible refine (HRA.out _ hA.out).mono ?_); rintro e u ⟨rfl, hA'⟩; have hA := Lib.hid hA'; clear hA')
              | (go_at_call 12; (with_reducible refine (HRB.out _ hA.out).mono ?_); rintro e u ⟨rfl, hA'⟩; have hA := Lib.hid hA'; clear hA'))
          all_goals
            have HF2 := Lib.hid hA.out
            clear hA
            go_wp2
            go_roundw
            case rel => first | exact ⟨k + 1, by omega, by go_num, HF2.out⟩ | ((repeat apply Exists.intro); exact ⟨⟨k + 1, by omega, by go_num, HF2.out⟩, rfl⟩)
            case measure => simp [intOf]; omega
        · obtain rfl : k = s := by omega
          have q1 : ¬ (k : Int) < (k : Int) := by omega
          have hle1 : ((codesL m f).map List.length).sum ≤ 1000000 := by
            refine Nat.le_trans (sum_le _ 39 fun c hc => ?_) (by unfold codesL; rw [List.length_map, HM.out.2.1]; omega)
            obtain ⟨x, -, rfl⟩ := List.mem_map.1 hc
            have := HFR.out.1.len x.toNat
            omega
          have hco := cost_rev m f
          rw [← HM2.out.1] at hco
          have hca := fun (u : World) (h : S2 w x1 x2 j C1 C2 sb1 sb2 b1 b2 k m m2 f k1 k2 R1 R2 u) => (scost_any j C1 sb1 b1 k m f k1 R1 u h.a.sx hle1).mono fun e u' hh => And.intro hh.1 (h.kept hh.2)
          have hcb := fun (u : World) (h : S2 w x1 x2 j C1 C2 sb1 sb2 b1 b2 k m m2 f k1 k2 R1 R2 u) => (scost_any j C2 sb2 b2 k m2 f k2 R2 u h.b.sx (by rw [hco]; exact hle1)).mono fun e u' hh => And.intro hh.1 (h.kept hh.2)
          rw [hco] at hcb
          generalize ((codesL m f).map List.length).sum = T at *
          have HCA := Lib.hid hca
          have HCB := Lib.hid hcb
          have l0 := hS.a.c0
          have l1 := hS.a.c1
          have l2 := hS.a.c2
          have l3 := hS.a.c3
          have d0 := hS.b.c0
          have d1 := hS.b.c1
          have d2 := hS.b.c2
          have d3 := hS.b.c3
          have hA := Lib.hid hS
          have hund : undef = Value.tuple #[] := rfl
          have q4 : ((T : Int) == (T : Int)) = true := by simp
          clear hca hcb hS hco
          go_wp2
          go_region_held3 (fun w' => w'.cell? ⟨x1, 0, none⟩ = some (.int .i64 (j : Int)) ∧ w'.cell? ⟨x1, 1, none⟩ = some (.slice (some ⟨C1, 0, none⟩) k k) ∧ w'.cell? ⟨x1, 2, none⟩ = some (.map (some sb1)) ∧ w'.cell? ⟨x1, 3, none⟩ = some (.map (some b1)) ∧ w'.cell? ⟨x2, 0, none⟩ = some (.int .i64 (j : Int)) ∧ w'.cell? ⟨x2, 1, none⟩ = some (.slice (some ⟨C2, 0, none⟩) k k) ∧ w'.cell? ⟨x2, 2, none⟩ = some (.map (some sb2)) ∧ w'.cell? ⟨x2, 3, none⟩ = some (.map (some b2)))
            (first
              | (with_reducible exact ⟨hA.out.a.c0, hA.out.a.c1, hA.out.a.c2, hA.out.a.c3, hA.out.b.c0, hA.out.b.c1, hA.out.b.c2, hA.out.b.c3⟩)
              | go_keep)
            (first
              | (go_at_call 17; (with_reducible refine (HCA.out _ hA.out.drew).mono ?_); rintro e u ⟨rfl, hA'⟩; have hA := Lib.hid hA'; clear hA')
              | (go_at_call 17; (with_reducible refine (HCB.out _ hA.out.drew).mono ?_); rintro e u ⟨rfl, hA'⟩; have hA := Lib.hid hA'; clear hA')
              | (go_at_call 17; (with_reducible refine (HCA.out _ hA.out).mono ?_); rintro e u ⟨rfl, hA'⟩; have hA := Lib.hid hA'; clear hA')
              | (go_at_call 17; (with_reducible refine (HCB.out _ hA.out).mono ?_); rintro e u ⟨rfl, hA'⟩; have hA := Lib.hid hA'; clear hA'))
          all_goals
            have HF2 := Lib.hid hA.out.a.bel
            clear hA
            go_wp2
            go_ret
            exact ⟨rfl, HF2.out⟩

end Go.Proofs.Ytdidoecigkbffaa
