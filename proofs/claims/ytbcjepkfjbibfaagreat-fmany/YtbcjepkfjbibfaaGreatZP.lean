/- The contracts of the document's Find, Range, Extract. -/
import Derived.Test.YtbcjepkfjbibfaaGreatZO
set_option maxRecDepth 100000
namespace Go.Proofs.YtbcjepkfjbibfaaGreat
open Go.RowKit
open M
attribute [local go_sem ↓] Go.wp_at_zero Go.wp_at_succ

/-- Where p stands among the first places. -/
def fdL (l p : List Int) (i : Nat) : List Int := ((List.range i).filter (stB l p)).map Int.ofNat
theorem fdL_succ (l p : List Int) (i : Nat) : fdL l p (i + 1) = fdL l p i ++ if stB l p i = true then [(i : Int)] else [] := by
  unfold fdL
  rw [List.range_succ, List.filter_append, List.map_append]
  congr 1
  by_cases h : stB l p i = true
  · rw [if_pos h]; simp [List.filter, h]
  · rw [if_neg h]; simp [List.filter, h]
theorem fdL_len (l p : List Int) (i : Nat) : (fdL l p i).length ≤ i := by
  unfold fdL
  rw [List.length_map]
  exact Nat.le_trans (List.length_filter_le _ _) (by simp)

set_option maxHeartbeats 2000000 in
theorem rfind_any (A P : Option Addr) (n np c cp : Nat) (l p : List Int) (w : World) (hA : NumsAt .i64 w A l) (hP : NumsAt .i64 w P p) (hl : l.length = n) (hp : p.length = np) (hn : n ≤ 100000) (hnp : np ≤ 100000) :
    Calls Tryz.prog 32 #[.slice A n c, .slice P np cp] w fun e u => ∃ v, e = .returned v ∧ OwnI w v (fndL l p) u := by
  have hst := fun u (hb : Below w.heap.size w u) q (hq : q ≤ n) => stands_any A P n np c cp l p q u (hA.kept hb) (hP.kept hb) hl hp hq (by omega) (by omega)
  have he : fndL l p = fdL l p (n + 1) := by unfold fndL fdL; rw [hl]
  rw [he]
  have hsu := fdL_succ l p
  have hle := fdL_len l p
  have HX := Lib.hid (And.intro hst (And.intro hsu hle))
  clear hA hP hl hp hst he hsu hle
  go_enter Tryz.func32, Tryz.ntmps32
  go_wp2
  go_loopw [5, 6, 7] (fun v5 v6 _ wr => ∃ i : Nat, i ≤ n + 1 ∧ v6 = .int .i64 (i : Int) ∧ OwnI w v5 (fdL l p i) wr) (fun _ v6 _ _ => n + 1 - (intOf v6).toNat)
  case atStart => exact ⟨0, Nat.zero_le _, rfl, World.ownsRow_nil _ _ _ _, Below.refl _ _⟩
  case round =>
    obtain ⟨i, hin, rfl, hI⟩ := hrel
    by_cases hlt : i ≤ n
    · have hs := HX.out.1 wr hI.2 i hlt
      have hsu := HX.out.2.1 i
      have hle := HX.out.2.2 i
      have hsz := hI.2.size
      have HS := Lib.hid (And.intro hs (And.intro hI (And.intro hsu hle)))
      have q1 : (i : Int) ≤ (n : Int) := by omega
      have q2 : IntKind.i64.wrap ((i : Int) + 1) = ((i + 1 : Nat) : Int) := by rw [Int.natCast_add]; exact IntWalk.i64_in _ (by omega)
      clear hs hI hsu hle
      cases hb : stB l p i with
      | true =>
        rw [hb, if_pos rfl] at HS
        go_wp2_with fail
        (with_reducible refine HS.out.1.mono ?_)
        rintro e w2 ⟨rfl, m, rfl⟩
        have HM := Lib.hid (HS.out.2.1.kept (below_drN wr m))
        have hsz3 := HM.out.2.size
        go_wp2_with (first
          | (at_builtin
             refine wpList_append_nums rfl (.tmp 19) (.tmp 21) rfl w.heap.size _ _ _ rfl (HM.out.alloc _).1 (some ⟨_, 0, none⟩) 1 1 [(i : Int)] rfl rfl ?c1 (by simp) ?c2 ?c3 ?_))
        case c1 => exact nums_one _ _
        case c2 => have := HS.out.2.2.2; omega
        case c3 => first | omega | (simp; omega)
        intro v' w5 hown hgrow _
        have hI5 := (HM.out.alloc _).app (l' := fdL l p i ++ [(i : Int)]) (by simpa using hown) hgrow
        have HX5 := Lib.hid hI5
        clear hown hgrow hI5
        go_wp2
        go_roundw
        case rel => exact ⟨i + 1, by omega, by first | rfl | go_num, by rw [HS.out.2.2.1]; exact HX5.out⟩
        case measure => first | (simp [intOf]; done) | (simp [intOf]; omega)
      | false =>
        rw [hb, if_neg (by decide), List.append_nil] at HS
        go_wp2_with fail
        (with_reducible refine HS.out.1.mono ?_)
        rintro e w2 ⟨rfl, m, rfl⟩
        have HM := Lib.hid (HS.out.2.1.kept (below_drN wr m))
        go_wp2
        go_roundw
        case rel => exact ⟨i + 1, by omega, by first | rfl | go_num, by rw [HS.out.2.2.1]; exact HM.out⟩
        case measure => first | (simp [intOf]; done) | (simp [intOf]; omega)
    · obtain rfl : i = n + 1 := by omega
      have HF := Lib.hid hI
      clear hI
      have q1 : ¬ ((n + 1 : Nat) : Int) ≤ (n : Int) := by omega
      obtain ⟨i, hi⟩ : ∃ i, n + 1 = i := ⟨_, rfl⟩
      rw [hi] at q1 HF ⊢
      have HI := Lib.hid hi
      clear hi hin hlt
      go_wp2
      go_ret
      exact ⟨_, rfl, by rw [HI.out]; exact HF.out⟩

/-- How many of the first suffixes are less. -/
def frF (l p : List Int) (i : Nat) : Nat := (List.range i).countP (dpB l false p)
theorem frF_succ (l p : List Int) (i : Nat) : frF l p (i + 1) = frF l p i + if dpB l false p i = true then 1 else 0 := by
  unfold frF
  rw [List.range_succ, List.countP_append, List.countP_singleton]
theorem frF_le (l p : List Int) (i : Nat) : frF l p i ≤ i := by
  have := List.countP_le_length (p := dpB l false p) (l := List.range i)
  rwa [List.length_range] at this

set_option maxHeartbeats 4000000 in
theorem rrange_any (A P : Option Addr) (n np c cp : Nat) (l p : List Int) (w : World) (hA : NumsAt .i64 w A l) (hP : NumsAt .i64 w P p) (hl : l.length = n) (hp : p.length = np) (hn : n ≤ 1000) (hnp : np ≤ 100000) (hc : n ≤ c) (hsh : (A = none ∧ c = 0) ∨ ∃ b o, A = some ⟨b, o, none⟩) (h64 : I64s l) (hnn : Nn l) :
    Calls Tryz.prog 30 #[.slice A n c, .slice P np cp] w fun e u => e = .returned (.tuple #[.int .i64 (frN l false p : Nat), .int .i64 (frN l true p : Nat)]) ∧ Below w.heap.size w u := by
  have hfd := fun u (hb : Below w.heap.size w u) => rfind_any A P n np c cp l p u (hA.kept hb) (hP.kept hb) hl hp (by omega) (by omega)
  have hls := fun u (hb : Below w.heap.size w u) (A' : Option Addr) (q c' : Nat) (hq : q ≤ n) (h' : NumsAt .i64 u A' (l.drop q)) => dless_any A' P (n - q) np c' cp (l.drop q) p u h' (hP.kept hb) (by rw [List.length_drop, hl]) hp (by omega) (by omega)
  have hdp := fun q (hq : q ≤ n) => ltB_dp l p q (by omega)
  have hfl := fndL_len h64 hnn p
  have hmo := frN_mono l p
  have hle := frN_le l true p
  have he : frN l false p = frF l p (n + 1) := by unfold frN frF; rw [hl]
  rw [hl] at hle
  obtain ⟨t, ht⟩ : ∃ t, frN l true p = t := ⟨_, rfl⟩
  rw [ht, he] at hfl hmo
  rw [ht] at hle ⊢
  rw [he]
  have hsu := frF_succ l p
  have hfe := frF_le l p
  have HX := Lib.hid (And.intro hA (And.intro hfd (And.intro hls (And.intro hdp (And.intro hfl (And.intro hmo (And.intro hsu (And.intro hfe hl))))))))
  clear hA hP hl hp hfd hls hdp hfl hmo he hsu hfe h64 hnn ht
  go_enter Tryz.func30, Tryz.ntmps30
  go_wp2
  go_loopw [6, 7, 8] (fun v6 v7 _ wr => ∃ i : Nat, i ≤ n + 1 ∧ v7 = .int .i64 (i : Int) ∧ v6 = .int .i64 (frF l p i : Nat) ∧ Below w.heap.size w wr) (fun _ v7 _ _ => n + 1 - (intOf v7).toNat)
  case atStart => exact ⟨0, Nat.zero_le _, rfl, rfl, Below.refl _ _⟩
  case round =>
    obtain ⟨i, hin, rfl, rfl, hb⟩ := hrel
    by_cases hlt : i ≤ n
    · have hsu := HX.out.2.2.2.2.2.2.1 i
      have hfe := HX.out.2.2.2.2.2.2.2.1 i
      obtain ⟨f, hf⟩ : ∃ f, frF l p i = f := ⟨_, rfl⟩
      rw [hf] at hsu hfe ⊢
      have hls := HX.out.2.2.1 wr hb
      have hdp := HX.out.2.2.2.1 i hlt
      obtain ⟨r, hr⟩ : ∃ r, dpB l false p i = r := ⟨_, rfl⟩
      rw [hr] at hsu hdp
      have hls2 := fun A' c' h' => hls A' i c' hlt h'
      simp only [hdp] at hls2
      have hend := HX.out.2.2.2.2.2.2.2.2
      have hAk := HX.out.1.kept hb
      have HS := Lib.hid (And.intro hls2 (And.intro hsu (And.intro hb hAk)))
      have q1 : (i : Int) ≤ (n : Int) := by omega
      have q2 : IntKind.i64.wrap ((i : Int) + 1) = ((i + 1 : Nat) : Int) := by rw [Int.natCast_add]; exact IntWalk.i64_in _ (by omega)
      have q3 : (0 : Int) ≤ (i : Int) := by omega
      have q4 : (i : Int) ≤ (c : Int) := by omega
      have q5 : IntKind.i64.wrap ((f : Int) + 1) = ((f + 1 : Nat) : Int) := by rw [Int.natCast_add]; exact IntWalk.i64_in _ (by omega)
      clear hls hls2 hsu hb hdp hf hr hAk
      rcases hsh with ⟨rfl, rfl⟩ | ⟨bb, off, rfl⟩
      · obtain rfl : n = 0 := by omega
        obtain rfl : i = 0 := by omega
        have hcall := HS.out.1 none 0 (.inl (drop_end (by rw [hend]; exact Nat.le_refl _)))
        have HC := Lib.hid hcall
        clear hcall
        cases r
        all_goals
          go_wp2_with fail
          (with_reducible refine HC.out.mono ?_)
          rintro e w2 ⟨rfl, m, rfl⟩
          have HB := Lib.hid (HS.out.2.2.1.trans ((below_drN wr m).mono HS.out.2.2.1.size))
          go_wp2
          go_roundw
          case rel => exact ⟨1, by omega, by first | rfl | go_num, by rw [HS.out.2.1]; first | rfl | go_num, HB.out⟩
          case measure => first | (simp [intOf]; done) | (simp [intOf]; omega)
      · by_cases hic : i < c
        · have hcall := HS.out.1 (some ⟨bb, off + i, none⟩) (c - i) (HS.out.2.2.2.drop i)
          have HC := Lib.hid hcall
          have q6 : (i : Int) < (c : Int) := by omega
          clear hcall
          cases r
          all_goals
            go_wp2_with fail
            (with_reducible refine HC.out.mono ?_)
            rintro e w2 ⟨rfl, m, rfl⟩
            have HB := Lib.hid (HS.out.2.2.1.trans ((below_drN wr m).mono HS.out.2.2.1.size))
            go_wp2
            go_roundw
            case rel => exact ⟨i + 1, by omega, by first | rfl | go_num, by rw [HS.out.2.1]; first | rfl | go_num, HB.out⟩
            case measure => first | (simp [intOf]; done) | (simp [intOf]; omega)
        · obtain rfl : i = n := by omega
          obtain rfl : i = c := by omega
          have hcall := fun A' => HS.out.1 A' (i - i) (.inl (drop_end (by rw [hend]; exact Nat.le_refl _)))
          simp only [Nat.sub_self] at hcall
          have HC := Lib.hid hcall
          have q6 : ¬ (i : Int) < (i : Int) := by omega
          clear hcall
          cases r
          all_goals
            go_wp2_with fail
            (with_reducible refine (HC.out _).mono ?_)
            rintro e w2 ⟨rfl, m, rfl⟩
            have HB := Lib.hid (HS.out.2.2.1.trans ((below_drN wr m).mono HS.out.2.2.1.size))
            go_wp2
            go_roundw
            case rel => exact ⟨i + 1, by omega, by first | rfl | go_num, by rw [HS.out.2.1]; first | rfl | go_num, HB.out⟩
            case measure => first | (simp [intOf]; done) | (simp [intOf]; omega)
    · obtain rfl : i = n + 1 := by omega
      have hfd := HX.out.2.1 wr hb
      have HF := Lib.hid (And.intro hfd hb)
      have hfe := HX.out.2.2.2.2.2.2.2.1 (n + 1)
      have hmo := HX.out.2.2.2.2.2.1
      have hfl := HX.out.2.2.2.2.1
      obtain ⟨f, hf⟩ : ∃ f, frF l p (n + 1) = f := ⟨_, rfl⟩
      rw [hf] at hmo hfl hfe ⊢
      obtain ⟨z, hz⟩ : ∃ z, t - f = z := ⟨_, rfl⟩
      rw [hz] at hfl
      have q1 : ¬ ((n + 1 : Nat) : Int) ≤ (n : Int) := by omega
      have q2 : IntKind.i64.wrap ((f : Int) + (z : Int)) = (t : Int) := by rw [show (f : Int) + (z : Int) = (t : Int) by omega]; exact IntWalk.i64_in _ (by omega)
      obtain ⟨i, hi⟩ : ∃ i, n + 1 = i := ⟨_, rfl⟩
      rw [hi] at q1 ⊢
      have HFL := Lib.hid hfl
      have HFF := Lib.hid hf
      clear hi hin hlt hfd hb hf hz hfl
      go_wp2_with fail
      (with_reducible refine HF.out.1.mono ?_)
      rintro e w2 ⟨v, rfl, hI⟩
      obtain ⟨G, gc, rfl, -, -, -, -, -⟩ := nums_of_own hI.1
      rw [HFL.out]
      have HB := Lib.hid (HF.out.2.trans (hI.2.mono HF.out.2.size))
      clear hI
      go_wp2
      go_ret2
      exact ⟨by rw [HFF.out]; rfl, HB.out⟩

set_option maxHeartbeats 2000000 in
theorem rextract_low (A : Option Addr) (n c : Nat) (l : List Int) (i m : Int) (w : World) (hA : NumsAt .i64 w A l) (hl : l.length = n) (hn : n ≤ 1000) (hi : i < 0) (f : Nat) (hf : f = 0) :
    Calls Tryz.prog 34 #[.slice A n c, .int .i64 i, .int .i64 m] w fun e u => ∃ v, e = .returned v ∧ OwnI w v (exL l i m) u := by
  have hfn : f ≤ n := by omega
  have hlo : lo l.length i = f := by unfold lo; omega
  have hex : exL l i m = (l.drop f).take m.toNat := by unfold exL; rw [hlo]
  rw [hex]
  have hsn := fun k (hk : f + k < n) => takeI_snoc (l.drop f) k (by rw [List.length_drop]; omega)
  have hgd : ∀ k, (l.drop f).getD k 0 = l.getD (f + k) 0 := fun k => by simp [List.getD_eq_getElem?_getD]
  have hend := fun k (hk : f + k = n) (h2 : (k : Int) ≤ m ∨ k = 0) => show (l.drop f).take m.toNat = (l.drop f).take k by
    rw [List.take_of_length_le (l := l.drop f) (i := k) (by rw [List.length_drop]; omega)]
    by_cases hk0 : k = 0
    · have : l.drop f = [] := drop_end (by omega)
      rw [this]; simp
    · exact List.take_of_length_le (by rw [List.length_drop]; omega)
  have hen2 := fun k (_ : f + k ≤ n) (h2 : m ≤ (k : Int)) (h3 : (k : Int) ≤ m ∨ k = 0) => show (l.drop f).take m.toNat = (l.drop f).take k by
    rw [show m.toNat = k by omega]
  have hLl : (l.drop f).length = n - f := by rw [List.length_drop, hl]
  clear hlo hex
  obtain ⟨L, hL⟩ : ∃ L, l.drop f = L := ⟨_, rfl⟩
  rw [hL] at hsn hend hen2 hLl ⊢
  simp only [hL] at hgd
  have HX := Lib.hid (And.intro hA (And.intro hl (And.intro hsn (And.intro hgd (And.intro hend (And.intro hen2 hLl))))))
  clear hA hl hsn hgd hend hen2 hLl hL
  go_enter Tryz.func34, Tryz.ntmps34
  go_wp2
  go_loopw [7, 8] (fun v7 v8 wr => ∃ k : Nat, f + k ≤ n ∧ v8 = .int .i64 ((f + k : Nat) : Int) ∧ ((k : Int) ≤ m ∨ k = 0) ∧ OwnI w v7 (L.take k) wr) (fun _ v8 _ => n - (intOf v8).toNat)
  case atStart => exact ⟨0, by omega, by rw [hf]; rfl, .inr rfl, by rw [List.take_zero]; exact ⟨World.ownsRow_nil _ _ _ _, Below.refl _ _⟩⟩
  case round =>
    obtain ⟨k, hk, rfl, hkm, hI⟩ := hrel
    have hll : (L.take k).length = k := by rw [List.length_take, HX.out.2.2.2.2.2.2]; omega
    obtain ⟨B, bc, rfl, -, -, -, -, -⟩ := nums_of_own hI.1
    obtain ⟨j, hj⟩ : ∃ j, f + k = j := ⟨_, rfl⟩
    rw [hj] at hk ⊢
    by_cases hlt : j < n
    · have q1 : (j : Int) < (n : Int) := by omega
      by_cases hkn : (k : Int) < m
      · obtain ⟨bb, off, hAe, -, ck⟩ := num_at (HX.out.1.kept hI.2) (i := j) (by rw [HX.out.2.1]; exact hlt)
        have hsu := HX.out.2.2.1 k (by omega)
        rw [HX.out.2.2.2.1 k, hj] at hsu
        obtain ⟨x, hx⟩ : ∃ x, l.getD j 0 = x := ⟨_, rfl⟩
        rw [hx] at ck hsu
        rw [hll] at hI ⊢
        have hsz := hI.2.size
        have HM := Lib.hid (And.intro hI (And.intro hsu (And.intro hll hx)))
        subst hAe
        clear hI hsu hll hx
        have q2 : (0 : Int) ≤ (j : Int) := by omega
        have q3 : IntKind.i64.wrap ((j : Int) + 1) = ((j + 1 : Nat) : Int) := by rw [Int.natCast_add]; exact IntWalk.i64_in _ (by omega)
        go_wp2_with (first
          | (at_builtin
             refine wpList_append_nums rfl (.tmp 24) (.tmp 29) rfl w.heap.size _ _ _ rfl (HM.out.1.alloc _).1 (some ⟨_, 0, none⟩) 1 1 [x] rfl rfl ?c1 (by simp) ?c2 ?c3 ?_))
        case c1 => exact nums_one _ _
        case c2 => rw [HM.out.2.2.1]; omega
        case c3 => first | omega | (simp; omega)
        intro v' w5 hown hgrow _
        have hI5 := (HM.out.1.alloc _).app (l' := L.take k ++ [x]) (by simpa using hown) hgrow
        have HX5 := Lib.hid hI5
        clear hown hgrow hI5
        go_wp2
        go_roundw
        case rel => exact ⟨k + 1, by omega, by rw [← Nat.add_assoc, hj]; first | rfl | simp, .inl (by omega), by rw [HM.out.2.1]; exact HX5.out⟩
        case measure => first | (simp [intOf]; done) | (simp [intOf]; omega)
      · have he := HX.out.2.2.2.2.2.1 k (by omega) (by omega) hkm
        have HE := Lib.hid he
        have HF := Lib.hid hI
        rw [hll]
        clear hI he
        rw [hll] at HF
        go_wp2
        go_ret
        exact ⟨_, rfl, by rw [HE.out]; exact HF.out⟩
    · have he := HX.out.2.2.2.2.1 k (by omega) hkm
      have HE := Lib.hid he
      have HF := Lib.hid hI
      rw [hll]
      rw [hll] at HF
      have q1 : ¬ (j : Int) < (n : Int) := by omega
      clear hI he
      go_wp2
      go_ret
      exact ⟨_, rfl, by rw [HE.out]; exact HF.out⟩

set_option maxHeartbeats 2000000 in
theorem rextract_in (A : Option Addr) (n c : Nat) (l : List Int) (i m : Int) (w : World) (hA : NumsAt .i64 w A l) (hl : l.length = n) (hn : n ≤ 1000) (f : Nat) (hf : (f : Int) = i) (hfn : f ≤ n) :
    Calls Tryz.prog 34 #[.slice A n c, .int .i64 i, .int .i64 m] w fun e u => ∃ v, e = .returned v ∧ OwnI w v (exL l i m) u := by
  have hi : ¬ i < 0 := by omega
  have hlo : lo l.length i = f := by unfold lo; omega
  have hex : exL l i m = (l.drop f).take m.toNat := by unfold exL; rw [hlo]
  rw [hex]
  have hsn := fun k (hk : f + k < n) => takeI_snoc (l.drop f) k (by rw [List.length_drop]; omega)
  have hgd : ∀ k, (l.drop f).getD k 0 = l.getD (f + k) 0 := fun k => by simp [List.getD_eq_getElem?_getD]
  have hend := fun k (hk : f + k = n) (h2 : (k : Int) ≤ m ∨ k = 0) => show (l.drop f).take m.toNat = (l.drop f).take k by
    rw [List.take_of_length_le (l := l.drop f) (i := k) (by rw [List.length_drop]; omega)]
    by_cases hk0 : k = 0
    · have : l.drop f = [] := drop_end (by omega)
      rw [this]; simp
    · exact List.take_of_length_le (by rw [List.length_drop]; omega)
  have hen2 := fun k (_ : f + k ≤ n) (h2 : m ≤ (k : Int)) (h3 : (k : Int) ≤ m ∨ k = 0) => show (l.drop f).take m.toNat = (l.drop f).take k by
    rw [show m.toNat = k by omega]
  have hLl : (l.drop f).length = n - f := by rw [List.length_drop, hl]
  clear hlo hex
  obtain ⟨L, hL⟩ : ∃ L, l.drop f = L := ⟨_, rfl⟩
  rw [hL] at hsn hend hen2 hLl ⊢
  simp only [hL] at hgd
  have HX := Lib.hid (And.intro hA (And.intro hl (And.intro hsn (And.intro hgd (And.intro hend (And.intro hen2 hLl))))))
  clear hA hl hsn hgd hend hen2 hLl hL
  go_enter Tryz.func34, Tryz.ntmps34
  go_wp2
  go_loopw [7, 8] (fun v7 v8 wr => ∃ k : Nat, f + k ≤ n ∧ v8 = .int .i64 ((f + k : Nat) : Int) ∧ ((k : Int) ≤ m ∨ k = 0) ∧ OwnI w v7 (L.take k) wr) (fun _ v8 _ => n - (intOf v8).toNat)
  case atStart => exact ⟨0, by omega, by rw [← hf]; rfl, .inr rfl, by rw [List.take_zero]; exact ⟨World.ownsRow_nil _ _ _ _, Below.refl _ _⟩⟩
  case round =>
    obtain ⟨k, hk, rfl, hkm, hI⟩ := hrel
    have hll : (L.take k).length = k := by rw [List.length_take, HX.out.2.2.2.2.2.2]; omega
    obtain ⟨B, bc, rfl, -, -, -, -, -⟩ := nums_of_own hI.1
    obtain ⟨j, hj⟩ : ∃ j, f + k = j := ⟨_, rfl⟩
    rw [hj] at hk ⊢
    by_cases hlt : j < n
    · have q1 : (j : Int) < (n : Int) := by omega
      by_cases hkn : (k : Int) < m
      · obtain ⟨bb, off, hAe, -, ck⟩ := num_at (HX.out.1.kept hI.2) (i := j) (by rw [HX.out.2.1]; exact hlt)
        have hsu := HX.out.2.2.1 k (by omega)
        rw [HX.out.2.2.2.1 k, hj] at hsu
        obtain ⟨x, hx⟩ : ∃ x, l.getD j 0 = x := ⟨_, rfl⟩
        rw [hx] at ck hsu
        rw [hll] at hI ⊢
        have hsz := hI.2.size
        have HM := Lib.hid (And.intro hI (And.intro hsu (And.intro hll hx)))
        subst hAe
        clear hI hsu hll hx
        have q2 : (0 : Int) ≤ (j : Int) := by omega
        have q3 : IntKind.i64.wrap ((j : Int) + 1) = ((j + 1 : Nat) : Int) := by rw [Int.natCast_add]; exact IntWalk.i64_in _ (by omega)
        go_wp2_with (first
          | (at_builtin
             refine wpList_append_nums rfl (.tmp 24) (.tmp 29) rfl w.heap.size _ _ _ rfl (HM.out.1.alloc _).1 (some ⟨_, 0, none⟩) 1 1 [x] rfl rfl ?c1 (by simp) ?c2 ?c3 ?_))
        case c1 => exact nums_one _ _
        case c2 => rw [HM.out.2.2.1]; omega
        case c3 => first | omega | (simp; omega)
        intro v' w5 hown hgrow _
        have hI5 := (HM.out.1.alloc _).app (l' := L.take k ++ [x]) (by simpa using hown) hgrow
        have HX5 := Lib.hid hI5
        clear hown hgrow hI5
        go_wp2
        go_roundw
        case rel => exact ⟨k + 1, by omega, by rw [← Nat.add_assoc, hj]; first | rfl | simp, .inl (by omega), by rw [HM.out.2.1]; exact HX5.out⟩
        case measure => first | (simp [intOf]; done) | (simp [intOf]; omega)
      · have he := HX.out.2.2.2.2.2.1 k (by omega) (by omega) hkm
        have HE := Lib.hid he
        have HF := Lib.hid hI
        rw [hll]
        clear hI he
        rw [hll] at HF
        go_wp2
        go_ret
        exact ⟨_, rfl, by rw [HE.out]; exact HF.out⟩
    · have he := HX.out.2.2.2.2.1 k (by omega) hkm
      have HE := Lib.hid he
      have HF := Lib.hid hI
      rw [hll]
      rw [hll] at HF
      have q1 : ¬ (j : Int) < (n : Int) := by omega
      clear hI he
      go_wp2
      go_ret
      exact ⟨_, rfl, by rw [HE.out]; exact HF.out⟩

set_option maxHeartbeats 2000000 in
theorem rextract_far (A : Option Addr) (n c : Nat) (l : List Int) (i m : Int) (w : World) (hl : l.length = n) (hi : (n : Int) < i) :
    Calls Tryz.prog 34 #[.slice A n c, .int .i64 i, .int .i64 m] w fun e u => ∃ v, e = .returned v ∧ OwnI w v (exL l i m) u := by
  have hex : exL l i m = [] := by
    unfold exL lo
    rw [List.drop_eq_nil_of_le (by omega)]; simp
  rw [hex]
  have q0 : ¬ i < 0 := by omega
  have q1 : ¬ i < (n : Int) := by omega
  clear hex hl
  go_enter Tryz.func34, Tryz.ntmps34
  go_wp2
  go_loopw [7, 8] (fun v7 v8 wr => v7 = .slice none 0 0 ∧ v8 = .int .i64 i ∧ wr = w) (fun _ _ _ => 0)
  case atStart => exact ⟨rfl, rfl, rfl⟩
  case round =>
    obtain ⟨rfl, rfl, rfl⟩ := hrel
    go_wp2
    go_ret
    exact ⟨_, rfl, World.ownsRow_nil _ _ _ _, Below.refl _ _⟩
theorem rextract_any (A : Option Addr) (n c : Nat) (l : List Int) (i m : Int) (w : World) (hA : NumsAt .i64 w A l) (hl : l.length = n) (hn : n ≤ 1000) :
    Calls Tryz.prog 34 #[.slice A n c, .int .i64 i, .int .i64 m] w fun e u => ∃ v, e = .returned v ∧ OwnI w v (exL l i m) u := by
  by_cases h1 : i < 0
  · exact rextract_low A n c l i m w hA hl hn h1 0 rfl
  · by_cases h2 : (n : Int) < i
    · exact rextract_far A n c l i m w hl h2
    · exact rextract_in A n c l i m w hA hl hn i.toNat (by omega) (by omega)

end Go.Proofs.YtbcjepkfjbibfaaGreat
