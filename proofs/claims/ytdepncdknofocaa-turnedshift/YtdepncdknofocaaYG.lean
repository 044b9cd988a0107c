/- The contracts of behind, Next and Back. -/
import Derived.Test.YtdepncdknofocaaYF
import Derived.Deep.LoopGhost
set_option maxRecDepth 100000
namespace Go.Proofs.Ytdepncdknofocaa
open Go.RowKit
open M
attribute [local go_sem ↓] Go.wp_at_zero Go.wp_at_succ

/-- The places round the ring, from the second step on. -/
def ringL (f : Nat → Nat) (k : Nat) : List Int := (List.range k).map fun i => (itS f (i + 2) : Int)
theorem ringL_len (f : Nat → Nat) (k : Nat) : (ringL f k).length = k := by simp [ringL]
theorem ringL_succ (f : Nat → Nat) (k : Nat) : ringL f (k + 1) = ringL f k ++ [(itS f (k + 2) : Int)] := by
  unfold ringL
  rw [List.range_succ, List.map_append]; rfl
theorem ringL_at (f : Nat → Nat) {k i : Nat} (h : i < k) : (ringL f k).getD i 0 = (itS f (i + 2) : Int) := by simp [ringL, List.getD_eq_getElem?_getD, h]

set_option maxHeartbeats 4000000 in
theorem behind_any (A : Option Addr) (n c : Nat) (o : List Int) (w : World) (hA : NumsAt .i64 w A o) (hl : o.length = n) (hn : n ≤ 100000) (h0 : 0 < n) (hin : ∀ j, j < n → o.getD j 0 = (sgL o j : Int)) (hR : Ring (sgL o) n) :
    Calls Try.prog 24 #[.slice A n c] w fun e u => ∃ v, e = .returned v ∧ ∃ k, Cyc (sgL o) (k + 1) ∧ k < n ∧ OwnI w v (ringL (sgL o) k) u := by
  have hcell : ∀ u, Below w.heap.size w u → ∀ i, i < n → ∃ bb off, A = some ⟨bb, off, none⟩ ∧ u.cell? ⟨bb, off + i, none⟩ = some (.int .i64 (sgL o i : Int)) := fun u hb i hi => by
    obtain ⟨b2, o2, e2, -, c2⟩ := num_at (hA.kept hb) (i := i) (by omega)
    rw [hin i hi] at c2
    exact ⟨b2, o2, e2, c2⟩
  generalize sgL o = f at *
  obtain ⟨i0, hi, hz0, hz1, hz2⟩ := info_parts info3
  have HX := Lib.hid (And.intro hcell hR)
  clear hA hl hin hcell hR
  go_enter Try.func24, Try.ntmps24
  go_wp2_with fail
  go_step3
  go_wp2_with (first | (at_make; refine wpList_make_own _ rfl _ _ 22 rfl w.heap.size 3 i0 (.int .i64 0) 1 Try.underlying22 hi hz0 hz1 _ _ _ n rfl rfl rfl ?b2 ?b3 (Nat.le_refl _) ?_))
  case b2 => first | omega | (rw [hz2]; omega)
  case b3 => unfold maxLen; omega
  intro w1 hown hgrow
  have hO : OwnI w (.slice (some ⟨w.heap.size, 0, none⟩) 0 n) [] w1 := ⟨hown, below_grown hgrow⟩
  obtain ⟨bb, off, hAe, ck⟩ := HX.out.1 w1 hO.2 0 h0
  have HO := Lib.hid hO
  clear hown hgrow hO hi hz0 hz1 hz2
  subst hAe
  obtain ⟨D, hDe⟩ : ∃ D, D = w.heap.size := ⟨_, rfl⟩
  rw [← hDe] at HO
  rw [← hDe]
  clear hDe
  rw [Nat.add_zero] at ck
  have q1 : (0 : Int) < (n : Int) := by omega
  go_wp2
  go_step3
  go_wp2
  go_loopg [3, 4] n (fun g v3 v4 wr => ∃ k : Nat, k + g = n ∧ 0 < g ∧ v4 = .int .i64 (itS f (k + 1) : Int) ∧ OwnI w v3 (ringL f k) wr ∧ ∀ i, 0 < i → i ≤ k → itS f i ≠ 0)
  case atStart => exact ⟨0, by omega, h0, rfl, HO.out, fun i h1 h2 => by omega⟩
  case round =>
    obtain ⟨k, hkn, hg0, rfl, hI, hno⟩ := hrel
    clear HO
    obtain ⟨q, hq⟩ : ∃ q, itS f (k + 1) = q := ⟨_, rfl⟩
    by_cases hz : q = 0
    · have hcyc : Cyc f (k + 1) := ⟨by omega, by rw [hq, hz], fun i h1 h2 => hno i h1 (by omega)⟩
      have HF := Lib.hid (And.intro hcyc hI)
      rw [hq]
      have q2 : ((q : Int) == 0) = true := by simp; omega
      clear hcyc hI hno hq ck
      go_wp2
      try rw [Exit.noGoto_ret]
      go_ret
      exact ⟨_, rfl, k, HF.out.1, by omega, HF.out.2⟩
    · have hno2 : ∀ i, 0 < i → i ≤ k + 1 → itS f i ≠ 0 := fun i h1 h2 => by
        by_cases e : i = k + 1
        · rw [e, hq]; exact hz
        · exact hno i h1 (by omega)
      have hfew := HX.out.2.few h0 hno2
      have hqn : q < n := by rw [← hq]; exact HX.out.2.itlt h0 _
      obtain ⟨b2, o2, hAe, ck2⟩ := HX.out.1 wr hI.2 q hqn
      simp only [Option.some.injEq, Addr.mk.injEq, and_true] at hAe
      obtain ⟨rfl, rfl⟩ := hAe
      have hsu := ringL_succ f k
      have hml := ringL_len f k
      have hnx : itS f (k + 2) = f q := by rw [← hq]; rfl
      rw [hnx] at hsu
      have hsz := hI.2.size
      have HM := Lib.hid (And.intro hI (And.intro hsu (And.intro hml (And.intro hno2 hnx))))
      rw [hq]
      have q2 : ((q : Int) == 0) = false := by simp; omega
      have q3 : (q : Int) < (n : Int) := by omega
      have q4 : (0 : Int) ≤ (q : Int) := by omega
      clear hI hno hq ck hsu hml hno2 hnx
      go_wp2_with (first
        | (at_builtin
           refine wpList_append_nums rfl (.tmp 16) (.tmp 18) rfl w.heap.size _ _ _ rfl (HM.out.1.alloc _).1 (some ⟨_, 0, none⟩) 1 1 [(f q : Int)] rfl rfl ?c1 (by simp) ?c2 ?c3 ?_))
      case c1 => exact nums_one _ _
      case c2 => rw [HM.out.2.2.1]; omega
      case c3 => first | omega | (simp; omega)
      intro v' w5 hown hgrow _
      have hI5 := (HM.out.1.alloc _).app (l' := ringL f k ++ [(f q : Int)]) (by simpa using hown) hgrow
      have HX5 := Lib.hid hI5
      clear hown hgrow hI5
      go_wp2
      go_roundg (gk - 1)
      case measure => omega
      case rel => exact ⟨k + 1, by omega, by omega, by rw [← HM.out.2.2.2.2], by rw [HM.out.2.1]; exact HX5.out, HM.out.2.2.2.1⟩

/-! ## Next, Back -/
theorem ord_nat (κ : Int → Int) (n : Nat) : ∀ j, j < n → (ordP κ n).getD j 0 = (sgL (ordP κ n) j : Int) := fun j hj => by
  obtain ⟨p, e, -⟩ := ordP_at κ n hj
  unfold sgL
  rw [e, Int.toNat_natCast]

set_option maxHeartbeats 4000000 in
/-- Next of a row turned. -/
theorem next_ok (A : Option Addr) (n c : Nat) (l : List Int) (w : World) (hA : NumsAt .i64 w A (turnL l)) (hl : l.length + 1 = n) (hn : n ≤ 100000) (h64 : I64s l) (hnn : Nn l) (hb64 : I64s (turnL l)) :
    Calls Try.prog 18 #[.slice A n c] w fun e u => ∃ D, e = .returned (.tuple #[.slice (some ⟨D, 0, none⟩) n n, .int .i64 0]) ∧ NumsAt .i64 u (some ⟨D, 0, none⟩) (nextL l) ∧ Below w.heap.size w u := by
  have hbl : (turnL l).length = n := by rw [turnL_len]; exact hl
  have he := ended_any A n c (turnL l) w hA hbl (by omega) true (by simp [turn_ended h64 hnn])
  have hf := following_any A n c (turnL l) w hA hbl hn hb64
  have ho := turn_ord h64 hnn
  have hc := turn_cyc h64 hnn
  have hR := ord_ring (kyI (turnL l)) n
  have hN := ord_nat (kyI (turnL l)) n
  rw [hl] at ho hc
  rw [ho] at hf hR hN
  have hnl : (nextL l).length = n := by rw [nextL_len]; exact hl
  have hbh := fun D u (hu : NumsAt .i64 u (some ⟨D, 0, none⟩) (nextL l)) => behind_any (some ⟨D, 0, none⟩) n n (nextL l) u hu hnl hn (by omega) hN hR
  have HX := Lib.hid (And.intro he (And.intro hf (And.intro hbh hc)))
  clear hA hbl he hf ho hc hR hN hbh hnl h64 hnn hb64
  go_enter Try.func18, Try.ntmps18
  go_wp2_with fail
  (with_reducible refine HX.out.1.mono ?_)
  rintro e u ⟨rfl, rfl⟩
  go_wp2_with fail
  (with_reducible refine HX.out.2.1.mono ?_)
  rintro e u1 ⟨D, rfl, h1, h2⟩
  have hca := HX.out.2.2.1 D u1 h1
  have HCA := Lib.hid hca
  have H1 := Lib.hid (And.intro h1 h2)
  clear h1 h2 hca
  go_wp2_with fail
  (with_reducible refine HCA.out.mono ?_)
  rintro e u2 ⟨v, rfl, k, hk, hkn, hI⟩
  have hkk := hk.uniq HX.out.2.2.2
  obtain ⟨P, pc, rfl, -, -, -, -, -⟩ := nums_of_own hI.1
  have H2 := Lib.hid (And.intro (H1.out.1.kept hI.2) (H1.out.2.trans (hI.2.mono H1.out.2.size)))
  clear hI hk
  rw [ringL_len]
  have q1 : IntKind.i64.wrap ((n : Int) - 1) = (k : Int) := by
    rw [show (n : Int) - 1 = (k : Int) by omega]
    exact IntWalk.i64_in _ (by omega)
  go_wp2
  go_ret2
  exact ⟨D, rfl, H2.out.1, H2.out.2⟩

set_option maxHeartbeats 4000000 in
/-- Next of any other row. -/
theorem next_no (A : Option Addr) (n c : Nat) (b : List Int) (w : World) (hA : NumsAt .i64 w A b) (hl : b.length = n) (hn : n ≤ 100000) (h64 : I64s b) (hno : ¬ Tb b) :
    Calls Try.prog 18 #[.slice A n c] w fun e u => e = .returned (.tuple #[.slice none 0 0, .int .i64 10]) ∧ Below w.heap.size w u := by
  rw [tb_iff h64, hl] at hno
  by_cases hE : Ended b
  · have he := ended_any A n c b w hA hl (by omega) true (by simp [hE])
    have hf := following_any A n c b w hA hl hn h64
    have h0 : 0 < n := by obtain ⟨k, hk, -⟩ := hE; omega
    have hR := ord_ring (kyI b) n
    have hN := ord_nat (kyI b) n
    have hbh := fun D u (hu : NumsAt .i64 u (some ⟨D, 0, none⟩) (ordP (kyI b) n)) => behind_any (some ⟨D, 0, none⟩) n n _ u hu (ordP_length _ _) hn h0 hN hR
    have hno2 : ¬ Cyc (sgL (ordP (kyI b) n)) n := fun h => hno ⟨hE, h⟩
    have HX := Lib.hid (And.intro he (And.intro hf (And.intro hbh hno2)))
    clear hA hl he hf hR hN hbh h64 hno hno2 hE
    go_enter Try.func18, Try.ntmps18
    go_wp2_with fail
    (with_reducible refine HX.out.1.mono ?_)
    rintro e u ⟨rfl, rfl⟩
    go_wp2_with fail
    (with_reducible refine HX.out.2.1.mono ?_)
    rintro e u1 ⟨D, rfl, h1, h2⟩
    have hca := HX.out.2.2.1 D u1 h1
    have HCA := Lib.hid hca
    have H1 := Lib.hid h2
    clear h1 h2 hca
    go_wp2_with fail
    (with_reducible refine HCA.out.mono ?_)
    rintro e u2 ⟨v, rfl, k, hk, hkn, hI⟩
    have hkk : k + 1 ≠ n := fun e => HX.out.2.2.2 (e ▸ hk)
    obtain ⟨P, pc, rfl, -, -, -, -, -⟩ := nums_of_own hI.1
    have H2 := Lib.hid (H1.out.trans (hI.2.mono H1.out.size))
    clear hI hk
    rw [ringL_len]
    obtain ⟨m, hm⟩ : ∃ m : Nat, (n : Int) - 1 = (m : Int) := ⟨n - 1, by omega⟩
    have q1 : IntKind.i64.wrap ((n : Int) - 1) = (m : Int) := by
      rw [hm]
      exact IntWalk.i64_in _ (by omega)
    have q2 : ((k : Int) == (m : Int)) = false := by simp; omega
    clear hm
    go_wp2
    go_ret2
    exact ⟨rfl, H2.out⟩
  · have he := ended_any A n c b w hA hl (by omega) false (by simp [hE])
    have HX := Lib.hid he
    clear hA hl he h64 hno hE
    go_enter Try.func18, Try.ntmps18
    go_wp2_with fail
    (with_reducible refine HX.out.mono ?_)
    rintro e u ⟨rfl, rfl⟩
    go_wp2
    go_ret2
    exact ⟨rfl, Below.refl _ _⟩

set_option maxHeartbeats 4000000 in
/-- Back of a row turned. -/
theorem back_ok (A : Option Addr) (n c : Nat) (l : List Int) (w : World) (hA : NumsAt .i64 w A (turnL l)) (hl : l.length + 1 = n) (hn : n ≤ 100000) (h64 : I64s l) (hnn : Nn l) (hb64 : I64s (turnL l)) :
    Calls Try.prog 16 #[.slice A n c] w fun e u => ∃ v, e = .returned (.tuple #[v, .int .i64 0]) ∧ OwnI w v l u := by
  have hnx := next_ok A n c l w hA hl hn h64 hnn hb64
  have ho := turn_ord h64 hnn
  have hc := turn_cyc h64 hnn
  have hR := ord_ring (kyI (turnL l)) n
  have hN := ord_nat (kyI (turnL l)) n
  rw [hl] at ho hc
  rw [ho] at hR hN
  have hnl : (nextL l).length = n := by rw [nextL_len]; exact hl
  have hbh := fun D u (hu : NumsAt .i64 u (some ⟨D, 0, none⟩) (nextL l)) => behind_any (some ⟨D, 0, none⟩) n n (nextL l) u hu hnl hn (by omega) hN hR
  obtain ⟨m, hm⟩ : ∃ m, l.length = m := ⟨_, rfl⟩
  have hit : ∀ i, i < m → (ringL (sgL (nextL l)) m).getD i 0 = (plR l (i + 1) : Int) ∧ plR l (i + 1) ≤ m ∧ (turnL l).getD (plR l (i + 1)) 0 = l.getD i 0 := fun i hi => by
    have h1 := plR_ok h64 hnn (p := i + 1) (by omega)
    refine ⟨by rw [ringL_at _ hi, it_turn h64 hnn (i + 1) (by omega)], by omega, turn_back h64 hnn (by omega)⟩
  have hcell : ∀ u, Below w.heap.size w u → ∀ i, i < n → ∃ bb off, A = some ⟨bb, off, none⟩ ∧ u.cell? ⟨bb, off + i, none⟩ = some (.int .i64 ((turnL l).getD i 0)) := fun u hb i hi => by
    obtain ⟨b2, o2, e2, -, c2⟩ := num_at (hA.kept hb) (i := i) (by rw [turnL_len]; omega)
    exact ⟨b2, o2, e2, c2⟩
  have hsn := fun i (hi : i < m) => takeI_snoc l i (by omega)
  have HX := Lib.hid (And.intro hnx (And.intro hbh (And.intro hc (And.intro hit (And.intro hcell (And.intro hsn hm))))))
  have hmn : m + 1 = n := by omega
  clear hA hl hnx ho hc hR hN hnl hbh hm hit hcell h64 hnn hb64 hsn
  obtain ⟨i0, hi, hz0, hz1, hz2⟩ := info_parts info3
  go_enter Try.func16, Try.ntmps16
  go_wp2_with fail
  (with_reducible refine HX.out.1.mono ?_)
  rintro e u1 ⟨D, rfl, h1, h2⟩
  have H1 := Lib.hid (And.intro h1 h2)
  have hs1 := h2.size
  clear h1 h2
  have q0 : IntKind.i64.wrap ((n : Int) - 1) = (m : Int) := by
    rw [show (n : Int) - 1 = (m : Int) by omega]
    exact IntWalk.i64_in _ (by omega)
  go_wp2_with (first | (at_make; refine wpList_make_own _ rfl _ _ 22 rfl w.heap.size 3 i0 (.int .i64 0) 1 Try.underlying22 hi hz0 hz1 _ _ _ m rfl rfl rfl ?b2 ?b3 hs1 ?_))
  case b2 => first | omega | (rw [hz2]; omega)
  case b3 => unfold maxLen; omega
  intro w3 hown hgrow
  have hb3 : Below u1.heap.size u1 w3 := below_grown hgrow
  have hO : OwnI w (.slice (some ⟨u1.heap.size, 0, none⟩) 0 m) [] w3 := ⟨hown, H1.out.2.trans (hb3.mono hs1)⟩
  have hca := HX.out.2.1 D w3 (H1.out.1.kept hb3)
  have HCA := Lib.hid hca
  have HO := Lib.hid hO
  clear hown hgrow hb3 hO hca hi hz0 hz1 hz2
  generalize u1.heap.size = DO at *
  go_wp2_with fail
  (with_reducible refine HCA.out.mono ?_)
  rintro e u2 ⟨v, rfl, k, hk, hkn, hI⟩
  obtain rfl : k = m := by have := hk.uniq HX.out.2.2.1; omega
  obtain ⟨P, pc, rfl, hP, -, -, -, -⟩ := nums_of_own hI.1
  have hOS := OS.newer HO.out hI.2 hP hI.frs
  have HOS := Lib.hid hOS
  rw [ringL_len]
  clear hI hk hP hOS HCA HO H1 hs1 hkn q0
  obtain ⟨m, rfl⟩ : ∃ m, m = k := ⟨_, rfl⟩
  go_wp2
  go_loopw [6, 8, 24] (fun v6 _ v24 wr => ∃ i : Nat, i ≤ m ∧ v24 = .int .i64 (i : Int) ∧ OS w v6 (l.take i) P (ringL (sgL (nextL l)) m) wr) (fun _ _ v24 _ => m - (intOf v24).toNat)
  case atStart => exact ⟨0, Nat.zero_le _, rfl, by rw [List.take_zero]; exact HOS.out⟩
  case round =>
    obtain ⟨i, hin, rfl, hI⟩ := hrel
    clear HOS
    by_cases hlt : i < m
    · obtain ⟨bb, off, hPe, -, ck⟩ := num_at hI.nums (i := i) (by rw [ringL_len]; exact hlt)
      obtain ⟨h1, h2, h3⟩ := HX.out.2.2.2.1 i hlt
      rw [h1] at ck
      obtain ⟨ba, oa, hAe, ca⟩ := HX.out.2.2.2.2.1 wr hI.own.2 (plR l (i + 1)) (by omega)
      rw [h3] at ca
      have hsu := HX.out.2.2.2.2.2.1 i hlt
      have hll := HX.out.2.2.2.2.2.2
      have hml : (l.take i).length = i := by rw [List.length_take]; omega
      obtain ⟨p, hp⟩ : ∃ p, plR l (i + 1) = p := ⟨_, rfl⟩
      obtain ⟨x, hx⟩ : ∃ x, l.getD i 0 = x := ⟨_, rfl⟩
      rw [hp] at ck ca h2
      rw [hx] at ca hsu
      have hsz := hI.own.2.size
      have HM := Lib.hid (And.intro hI (And.intro hsu hml))
      subst hPe
      subst hAe
      have q1 : (i : Int) < (m : Int) := by omega
      have q2 : (0 : Int) ≤ (i : Int) := by omega
      have q3 : (p : Int) < (n : Int) := by omega
      have q4 : (0 : Int) ≤ (p : Int) := by omega
      clear hI h1 h3 hsu hml hp hx hll
      go_wp2_with (first
        | (at_builtin
           refine wpList_append_nums rfl (.tmp 28) (.tmp 33) rfl w.heap.size _ _ _ rfl (HM.out.1.alloc _).own.1 (some ⟨_, 0, none⟩) 1 1 [x] rfl rfl ?c1 (by simp) ?c2 ?c3 ?_))
      case c1 => exact nums_one _ _
      case c2 => rw [HM.out.2.2]; omega
      case c3 => first | omega | (simp; omega)
      intro v' w5 hown hgrow hat
      have hI5 := (HM.out.1.alloc _).app (l' := l.take i ++ [x]) (by simpa using hown) hgrow (by simpa using hat)
      have HX5 := Lib.hid hI5
      clear hown hgrow hI5 hat
      go_wp2
      go_roundw
      case rel => exact ⟨i + 1, by omega, by go_num, by rw [HM.out.2.1]; exact HX5.out⟩
      case measure => simp [intOf]; omega
    · obtain rfl : i = m := by omega
      have HF := Lib.hid hI
      clear hI
      have q1 : ¬ (i : Int) < (i : Int) := by omega
      go_wp2
      go_ret2
      refine ⟨_, rfl, ?_⟩
      have := HF.out.own
      rw [List.take_of_length_le (by rw [HX.out.2.2.2.2.2.2]; exact Nat.le_refl _)] at this
      exact this

/-- Back of any other row. -/
theorem back_no (A : Option Addr) (n c : Nat) (b : List Int) (w : World) (hA : NumsAt .i64 w A b) (hl : b.length = n) (hn : n ≤ 100000) (h64 : I64s b) (hno : ¬ Tb b) :
    Calls Try.prog 16 #[.slice A n c] w fun e u => e = .returned (.tuple #[.slice none 0 0, .int .i64 10]) ∧ Below w.heap.size w u := by
  have hnx := next_no A n c b w hA hl hn h64 hno
  have HX := Lib.hid hnx
  clear hA hl h64 hno hnx
  go_enter Try.func16, Try.ntmps16
  go_wp2_with fail
  (with_reducible refine HX.out.mono ?_)
  rintro e u1 ⟨rfl, h1⟩
  have H1 := Lib.hid h1
  clear h1
  go_wp2
  go_ret2
  exact ⟨rfl, H1.out⟩

end Go.Proofs.Ytdepncdknofocaa
