/- The contract of the document's Next. -/
import Derived.Test.YtdepncdknofocaaYG
import Derived.Test.YtdepncdknofocaaYD
set_option maxRecDepth 100000
namespace Go.Proofs.Ytdepncdknofocaa
open Go.RowKit
open M
attribute [local go_sem ↓] Go.wp_at_zero Go.wp_at_succ

def tkN (l : List Int) (i : Nat) : List Int := (nextL l).take (i + 1)
theorem tkN_zero (l : List Int) : tkN l 0 = [(plR l 0 : Int)] := by simp [tkN, nextL, List.range_succ_eq_map, nxF_zero]
theorem tkN_succ {l : List Int} (h : I64s l) (hn : Nn l) (i : Nat) (hi : i < l.length) : tkN l (i + 1) = tkN l i ++ [(plR l (plA l (i + 1) + 1) : Int)] := by
  unfold tkN
  rw [takeI_snoc (nextL l) (i + 1) (by rw [nextL_len]; omega)]
  congr 2
  rw [nextL_at l (by omega)]
  have := (plA_succ h hn hi).2
  unfold nxF
  rw [if_neg (by omega)]
theorem tkN_len (l : List Int) (i : Nat) (h : i ≤ l.length) : (tkN l i).length = i + 1 := by simp [tkN, nextL_len]; omega
theorem tkN_all (l : List Int) : tkN l l.length = nextL l := by
  unfold tkN
  exact List.take_of_length_le (by rw [nextL_len]; exact Nat.le_refl _)

set_option maxHeartbeats 4000000 in
theorem dnext_any (A : Option Addr) (n c : Nat) (l : List Int) (w : World) (hA : NumsAt .i64 w A l) (hl : l.length = n) (hc : n ≤ c) (hn : n ≤ 100000) (h64 : I64s l) (hnn : Nn l) :
    Calls Try.prog 19 #[.slice A n c] w fun e u => ∃ v, e = .returned v ∧ OwnI w v (nextL l) u := by
  have har := darray_any A n c l w hA hl hc (by omega) h64
  have hpl : ∀ i, i < n → (sufA l).getD i 0 = (plA l (i + 1) : Int) ∧ plA l (i + 1) < n := fun i hi => by
    have := plA_succ h64 hnn (j := i) (by omega)
    exact ⟨this.1, by omega⟩
  have hinj : ∀ i j, i < n → j < n → plA l (i + 1) = plA l (j + 1) → i = j := fun i j hi hj e => by
    have := plA_inj h64 hnn (i := i + 1) (j := j + 1) (by omega) (by omega) e
    omega
  have hR : ∀ p, p ≤ n → ∀ d : Nat → Int, (∀ j, j < n → d (plA l (j + 1)) = ((j + 1 : Nat) : Int)) → d n = 0 → d p = (plR l p : Int) := by
    intro p hp d h1 h2
    by_cases e : p = n
    · rw [e, h2, ← hl, plR_len h64 hnn]; rfl
    · obtain ⟨g1, g2⟩ := plR_ok h64 hnn (p := p) (by omega)
      have g3 := plR_pos h64 hnn (p := p) (by omega)
      have := h1 (plR l p - 1) (by omega)
      rw [show plR l p - 1 + 1 = plR l p by omega, g2] at this
      exact this
  have hsu := fun i (hi : i < n) => tkN_succ h64 hnn i (by omega)
  have HX := Lib.hid (And.intro har (And.intro hpl (And.intro hinj (And.intro hR (And.intro hsu hl)))))
  obtain ⟨i0, hi, hz0, hz1, hz2⟩ := info_parts info3
  clear hA hl hc h64 hnn har hpl hinj hR hsu
  have q0 : IntKind.i64.wrap ((n : Int) + 1) = ((n + 1 : Nat) : Int) := by rw [Int.natCast_add]; exact IntWalk.i64_in _ (by omega)
  go_enter Try.func19, Try.ntmps19
  go_wp2_with fail
  (with_reducible refine HX.out.1.mono ?_)
  rintro e u1 ⟨v, rfl, hI⟩
  obtain ⟨P, pc, rfl, hP, -, -, -, -⟩ := nums_of_own hI.1
  have hsl : (sufA l).length = n := by rw [sufA_len, HX.out.2.2.2.2.2]
  have H1 := Lib.hid (And.intro hP (And.intro hI.2 hsl))
  have hs1 := hI.2.size
  rw [hsl]
  clear hI hP hsl
  go_wp2_with (first | (at_make; refine wpList_make_full _ rfl _ _ 22 rfl u1.heap.size 3 i0 (.int .i64 0) 1 Try.underlying22 hi hz0 hz1 _ _ _ _ (n + 1) rfl rfl rfl rfl ?b2 ?b3 (Nat.le_refl _) ?_))
  case b2 => first | omega | (rw [hz2]; omega)
  case b3 => unfold maxLen; omega
  intro w3 hown hgrow
  have hD := DI.made (Below.refl _ _) hown hgrow
  have HD := Lib.hid hD
  clear hown hgrow hi hz0 hz1 hz2 q0
  have hs3 := hD.bel.size
  clear hD
  obtain ⟨N, hNe⟩ : ∃ N, N = u1.heap.size := ⟨_, rfl⟩
  rw [← hNe] at HD
  rw [← hNe]
  clear hNe
  go_wp2
  go_loopw [5] (fun v5 wr => ∃ i : Nat, i ≤ n ∧ v5 = .int .i64 (i : Int) ∧ ∃ d, DI u1 N (n + 1) d wr ∧ (∀ j, j < i → d (plA l (j + 1)) = ((j + 1 : Nat) : Int)) ∧ d n = 0) (fun v5 _ => n - (intOf v5).toNat)
  case atStart => exact ⟨0, Nat.zero_le _, rfl, _, HD.out, fun j hj => by omega, rfl⟩
  case round =>
    obtain ⟨i, hin, rfl, d, hDr, hd1, hd2⟩ := hrel
    by_cases hlt : i < n
    · obtain ⟨bb, off, hPe, -, ck⟩ := num_at (H1.out.1.kept hDr.bel) (i := i) (by rw [H1.out.2.2]; exact hlt)
      obtain ⟨h1, h2⟩ := HX.out.2.1 i hlt
      rw [h1] at ck
      have hij := HX.out.2.2.1
      obtain ⟨p, hp⟩ : ∃ p, plA l (i + 1) = p := ⟨_, rfl⟩
      rw [hp] at ck h2
      have cN := hDr.cell p (by omega)
      have zN := hDr.frz p (by omega)
      have hset := hDr.set (i := p) (by omega) ((i + 1 : Nat) : Int)
      have HS := Lib.hid (And.intro hset (And.intro hd1 (And.intro hd2 (And.intro hp hij))))
      have HPE := Lib.hid hPe
      have q1 : (i : Int) < (n : Int) := by omega
      have q2 : (0 : Int) ≤ (i : Int) := by omega
      have q3 : (p : Int) < (n : Int) + 1 := by omega
      have q4 : (0 : Int) ≤ (p : Int) := by omega
      have q5 : IntKind.i64.wrap ((i : Int) + 1) = ((i + 1 : Nat) : Int) := by rw [Int.natCast_add]; exact IntWalk.i64_in _ (by omega)
      generalize d p = y at *
      clear hDr hd1 hd2 h1 hij hp hset HD
      subst hPe
      go_wp2
      go_roundw
      case rel =>
        obtain ⟨g1, g2, g3, g4, g5⟩ := HS.out
        refine ⟨i + 1, by omega, by go_num, _, g1, fun j hj => ?_, ?_⟩
        · by_cases e : j = i
          · rw [e, g4, if_pos rfl]
          · rw [if_neg (fun h => e (g5 j i (by omega) hlt (by rw [h, g4]))), g2 j (by omega)]
        · rw [if_neg (by omega), g3]
      case measure => simp [intOf]; omega
    · obtain rfl : i = n := by omega
      obtain ⟨n, rfl⟩ : ∃ n, n = i := ⟨_, rfl⟩
      have c0 := hDr.cell 0 (by omega)
      have hr0 := HX.out.2.2.2.1 0 (by omega) d hd1 hd2
      rw [hr0] at c0
      have ht0 := tkN_zero l
      have hOb := H1.out.2.1.trans (hDr.bel.mono hs1)
      obtain ⟨w4, rfl⟩ : ∃ w4, w4 = wr := ⟨_, rfl⟩
      obtain ⟨x, hx⟩ : ∃ x : Int, (plR l 0 : Int) = x := ⟨_, rfl⟩
      rw [hx] at c0 ht0
      have hO : OwnI w4 (.slice (some ⟨w4.heap.size, 0, none⟩) 1 1) [x] (w4.alloc (.cells #[.int .i64 x] 3)) := OwnI.lit (Below.refl _ _) [x] (by simp)
      rw [← ht0] at hO
      have hRR : ∀ p, p ≤ n → d p = (plR l p : Int) := fun p hp => HX.out.2.2.2.1 p hp d hd1 hd2
      have HF := Lib.hid (And.intro hDr (And.intro hO (And.intro hRR hOb)))
      have q1 : ¬ (n : Int) < (n : Int) := by omega
      have q2 : (0 : Int) < (n : Int) + 1 := by omega
      clear hDr hd1 hd2 hr0 hx ht0 hO hRR HD hOb
      go_wp2
      go_loopw [6, 7] (fun v6 v7 wr => ∃ i : Nat, i ≤ n ∧ v7 = .int .i64 (i : Int) ∧ OwnI w4 v6 (tkN l i) wr) (fun _ v7 _ => n - (intOf v7).toNat)
      case atStart => exact ⟨0, Nat.zero_le _, rfl, HF.out.2.1⟩
      case round =>
        obtain ⟨i, hin, rfl, hI⟩ := hrel
        by_cases hlt : i < n
        · obtain ⟨bb, off, hPe, -, ck⟩ := num_at ((H1.out.1.kept HF.out.1.bel).kept hI.2) (i := i) (by rw [H1.out.2.2]; exact hlt)
          obtain ⟨h1, h2⟩ := HX.out.2.1 i hlt
          rw [h1] at ck
          have hsu := HX.out.2.2.2.2.1 i hlt
          have hml := tkN_len l i (by rw [HX.out.2.2.2.2.2]; omega)
          obtain ⟨p, hp⟩ : ∃ p, plA l (i + 1) = p := ⟨_, rfl⟩
          rw [hp] at ck h2 hsu
          obtain ⟨f, hf⟩ : ∃ f, p + 1 = f := ⟨_, rfl⟩
          rw [hf] at hsu
          have cN := (HF.out.1.kept hI.2).cell f (by omega)
          rw [HF.out.2.2.1 f (by omega)] at cN
          obtain ⟨x, hx⟩ : ∃ x : Int, (plR l f : Int) = x := ⟨_, rfl⟩
          rw [hx] at cN hsu
          have hsz := hI.2.size
          have HM := Lib.hid (And.intro hI (And.intro hsu hml))
          have q1 : (i : Int) < (n : Int) := by omega
          have q2 : (0 : Int) ≤ (i : Int) := by omega
          have q3 : IntKind.i64.wrap ((p : Int) + 1) = (f : Int) := by rw [← hf, Int.natCast_add]; exact IntWalk.i64_in _ (by omega)
          have q4 : (f : Int) < (n : Int) + 1 := by omega
          have q5 : (0 : Int) ≤ (f : Int) := by omega
          have HPE := Lib.hid hPe
          clear hI h1 hp hf hsu hml hx
          subst hPe
          go_wp2_with (first
            | (at_builtin
               refine wpList_append_nums rfl (.tmp 38) (.tmp 47) rfl w4.heap.size _ _ _ rfl (HM.out.1.alloc _).1 (some ⟨_, 0, none⟩) 1 1 [x] rfl rfl ?c1 (by simp) ?c2 ?c3 ?_))
          case c1 => exact nums_one _ _
          case c2 => rw [HM.out.2.2]; omega
          case c3 => first | omega | (simp; omega)
          intro v' w5 hown hgrow _
          have hI5 := (HM.out.1.alloc _).app (l' := tkN l i ++ [x]) (by simpa using hown) hgrow
          have HX5 := Lib.hid hI5
          clear hown hgrow hI5
          go_wp2
          go_roundw
          case rel => exact ⟨i + 1, by omega, by go_num, by rw [HM.out.2.1]; exact HX5.out⟩
          case measure => simp [intOf]; omega
        · obtain rfl : i = n := by omega
          have HG := Lib.hid hI
          clear hI
          have q1 : ¬ (i : Int) < (i : Int) := by omega
          go_wp2
          go_ret
          refine ⟨_, rfl, ?_⟩
          have hall := tkN_all l
          rw [HX.out.2.2.2.2.2] at hall
          have h := HG.out
          rw [hall] at h
          have hw4 := HF.out.2.2.2
          exact ⟨own_mono h.1 hw4.size, hw4.trans (h.2.mono hw4.size)⟩

end Go.Proofs.Ytdepncdknofocaa
