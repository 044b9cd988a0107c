/- The contract of parted, for whatever key. -/
import Derived.Test.YtpnjccomngdblaaGreatWM
import Derived.BigQuiet
set_option maxRecDepth 100000
namespace Go.Proofs.YtpnjccomngdblaaGreat
open Go.RowKit
open M
attribute [local go_sem ↓] Go.wp_at_zero Go.wp_at_succ

theorem OwnI.drewN {w u : World} {v : Value} {l : List Int} (h : OwnI w v l u) (q : Nat) : OwnI w v l (u.drewN q) := h.kept (below_drewN (Below.refl _ _) q)

/-- Of a run those with the bits below t, one bit behind the other. -/
def bitsTo (κ : Int → Int) (A : List Int) (t : Nat) : List Int := (List.range t).flatMap fun (v : Nat) => A.filter fun x => decide (κ x % 2 = (v : Int))
theorem bitsTo_succ (κ : Int → Int) (A : List Int) (t : Nat) : bitsTo κ A (t + 1) = bitsTo κ A t ++ A.filter fun x => decide (κ x % 2 = (t : Int)) := by
  unfold bitsTo; rw [List.range_succ, List.flatMap_append]; simp
theorem bitsTo_two (κ : Int → Int) (A : List Int) : bitsTo κ A 2 = A.filter (fun x => decide (κ x % 2 = 0)) ++ A.filter (fun x => decide (κ x % 2 = 1)) := by
  rw [bitsTo_succ, bitsTo_succ]; simp [bitsTo]
theorem bitsTo_len (κ : Int → Int) (A : List Int) (t : Nat) (h : t ≤ 2) : (bitsTo κ A t).length ≤ 2 * A.length := by
  have h0 := List.length_filter_le (fun x => decide (κ x % 2 = 0)) A
  have h1 := List.length_filter_le (fun x => decide (κ x % 2 = 1)) A
  have : t = 0 ∨ t = 1 ∨ t = 2 := by omega
  rcases this with rfl | rfl | rfl
  · simp [bitsTo]
  · rw [bitsTo_succ]; simp [bitsTo]; omega
  · rw [bitsTo_two, List.length_append]; omega

theorem rng_at (L : List Int) (b e j : Nat) (h : b + j < e) : (rng L b e).getD j 0 = L.getD (b + j) 0 := by
  unfold rng
  simp only [List.getD_eq_getElem?_getD, List.getElem?_drop, List.getElem?_take]
  rw [if_pos (by omega)]
theorem rng_ln (L : List Int) (b e : Nat) (h : b ≤ e) (he : e ≤ L.length) : (rng L b e).length = e - b := by
  unfold rng; rw [List.length_drop, List.length_take]; omega
theorem take_rng (L : List Int) (b e : Nat) (h : b ≤ e) : L.take e = L.take b ++ rng L b e := by
  unfold rng
  conv => lhs; rw [← List.take_append_drop b (L.take e)]
  rw [List.take_take, Nat.min_eq_left h]

/-- Where a run ends. -/
theorem run_step {κ : Int → Int} {L O : List Int} {b e : Nat} (hp : L.Pairwise (fun x y => κ x / 2 ≤ κ y / 2)) (hbe : b < e) (he : e ≤ L.length) (hs : SortOf κ (L.take b) O) (hb : ∀ x ∈ L.take b, ∀ y ∈ L.drop b, κ x / 2 < κ y / 2)
    (hr : ∀ j, b ≤ j → j < e → κ (L.getD j 0) / 2 = κ (L.getD b 0) / 2) (hstop : e = L.length ∨ κ (L.getD e 0) / 2 ≠ κ (L.getD b 0) / 2) :
    SortOf κ (L.take e) (O ++ bitsTo κ (rng L b e) 2) ∧ ∀ x ∈ L.take e, ∀ y ∈ L.drop e, κ x / 2 < κ y / 2 := by
  have hA : ∀ x ∈ rng L b e, κ x / 2 = κ (L.getD b 0) / 2 := by
    intro x hx
    obtain ⟨j, hj, rfl⟩ := List.getElem_of_mem hx
    have hj2 := hj
    rw [rng_ln L b e (by omega) he] at hj2
    have := rng_at L b e j (by omega)
    rw [List.getD_eq_getElem?_getD, List.getElem?_eq_getElem hj, Option.getD_some] at this
    rw [this]
    exact hr _ (by omega) (by omega)
  have hmem : L.getD b 0 ∈ L.drop b := by
    have e1 : L.getD b 0 = L[b] := by simp [List.getD_eq_getElem?_getD, show b < L.length by omega]
    rw [e1, List.drop_eq_getElem_cons (by omega)]
    exact List.mem_cons_self
  have hP : ∀ x ∈ L.take b, κ x / 2 < κ (L.getD b 0) / 2 := fun x hx => hb x hx _ hmem
  constructor
  · rw [take_rng L b e (by omega), bitsTo_two, ← List.append_assoc]
    exact hs.run hA hP
  · intro x hx y hy
    have hye : e < L.length := by
      by_cases h : e < L.length
      · exact h
      · rw [List.drop_of_length_le (by omega)] at hy; simp at hy
    have hne : κ (L.getD e 0) / 2 ≠ κ (L.getD b 0) / 2 := by
      rcases hstop with h | h
      · omega
      · exact h
    have e1 : L.drop e = L.getD e 0 :: L.drop (e + 1) := by
      have e1 : L.getD e 0 = L[e] := by simp [List.getD_eq_getElem?_getD, hye]
      rw [e1, List.drop_eq_getElem_cons hye]
    have hpd : (L.drop e).Pairwise (fun x y => κ x / 2 ≤ κ y / 2) := List.Pairwise.sublist (List.drop_sublist e L) hp
    rw [e1] at hpd hy
    have hge : κ (L.getD e 0) / 2 ≤ κ y / 2 := by
      rcases List.mem_cons.1 hy with rfl | hy2
      · exact Int.le_refl _
      · exact (List.pairwise_cons.1 hpd).1 y hy2
    have hb0 : κ (L.getD b 0) / 2 ≤ κ (L.getD e 0) / 2 := by
      have e2 : L.drop b = L.getD b 0 :: L.drop (b + 1) := by
        have e1 : L.getD b 0 = L[b] := by simp [List.getD_eq_getElem?_getD, show b < L.length by omega]
        rw [e1, List.drop_eq_getElem_cons (by omega)]
      have hpb : (L.drop b).Pairwise (fun x y => κ x / 2 ≤ κ y / 2) := List.Pairwise.sublist (List.drop_sublist b L) hp
      rw [e2] at hpb
      refine (List.pairwise_cons.1 hpb).1 _ ?_
      rw [List.getD_eq_getElem?_getD, List.getElem?_eq_getElem hye, Option.getD_some, show L[e] = (L.drop (b + 1))[e - (b + 1)]'(by rw [List.length_drop]; omega) by rw [List.getElem_drop]; congr 1; omega]
      exact List.getElem_mem _
    rw [take_rng L b e (by omega), List.mem_append] at hx
    rcases hx with hx | hx
    · have := hP x hx; omega
    · have := hA x hx; omega

set_option maxHeartbeats 4000000 in
theorem parted_any (f : Nat) (caps : Array Value) (κ : Int → Int) (a : Option Addr) (n cap : Nat) (L : List Int) (w : World) (hf : ∀ (args : Array Value) (w : World), (callFunc f args).run Tryz.prog w = .ok (.enter f args) w)
    (hL : NumsAt .i64 w a L) (hl : L.length = n) (hn : n ≤ 1000000) (hcap : n ≤ cap) (hp : L.Pairwise (fun x y => κ x / 2 ≤ κ y / 2))
    (ht : ∀ x ∈ L, ∀ u, Below w.heap.size w u → Calls Tryz.prog f (#[.int .i64 x] ++ caps) u fun e u' => e = .returned (.int .i64 (κ x)) ∧ u' = u) :
    Calls Tryz.prog 74 #[.slice a n cap, .func (.func f) #[] caps] w fun e w' => ∃ v O, e = .returned v ∧ SortOf κ L O ∧ OwnI w v O w' := by
  obtain ⟨i0, hi, hz0, hz1, hz2⟩ := info_parts info3
  have HL := Lib.hid (And.intro hL (And.intro hl hp))
  have HT := Lib.hid ht
  clear hL hl ht hp
  go_enter Tryz.func74, Tryz.ntmps74
  go_wp2_with (first | (at_make; refine wpList_make_own _ rfl _ _ 38 rfl w.heap.size 3 i0 (.int .i64 0) 1 Tryz.underlying38 hi hz0 hz1 _ _ _ n rfl rfl rfl ?b2 ?b3 ?b4 ?_))
  case b2 => rw [hz2]; omega
  case b3 => unfold maxLen; omega
  case b4 => omega
  intro w2 hown hgrow
  have hO0 : OwnI w (.slice (some ⟨w.heap.size, 0, none⟩) 0 n) [] w2 := ⟨hown, below_grown hgrow⟩
  have HO0 := Lib.hid hO0
  clear hown hgrow hO0
  go_wp2
  go_loopw [5, 6, 7] (fun v5 v6 v7 wr => ∃ (b : Nat) (O : List Int), b ≤ n ∧ v6 = .int .i64 (b : Int) ∧ v7 = .int .i64 (b : Int) ∧ SortOf κ (L.take b) O ∧ (∀ x ∈ L.take b, ∀ y ∈ L.drop b, κ x / 2 < κ y / 2) ∧ OwnI w v5 O wr ∧ O.length ≤ 2 * b) (fun _ v6 _ _ => n - (intOf v6).toNat)
  case atStart => exact ⟨0, [], Nat.zero_le _, rfl, rfl, by simpa using SortOf.nil κ, by simp, HO0.out, by simp⟩
  case round =>
    obtain ⟨b, O, hbn, rfl, rfl, hso, hbd, hown, hOl⟩ := hrel
    clear HO0
    by_cases hlt : b < n
    · have q1 : (b : Int) < (n : Int) := by omega
      have HSO := Lib.hid (And.intro hso (And.intro hbd hown))
      clear hso hbd hown
      go_wp2
      go_loopw [7] (fun v7 wq => ∃ e : Nat, b ≤ e ∧ e ≤ n ∧ v7 = .int .i64 (e : Int) ∧ (∀ j, b ≤ j → j < e → κ (L.getD j 0) / 2 = κ (L.getD b 0) / 2) ∧ OwnI w u5 O wq) (fun v7 _ => n - (intOf v7).toNat)
      case atStart => exact ⟨b, Nat.le_refl _, hbn, rfl, fun j h1 h2 => by omega, HSO.out.2.2⟩
      case round =>
        obtain ⟨e, hbe, hen, rfl, hrun, hown⟩ := hrel
        obtain ⟨bb, off, rfl, hbl, hcb⟩ := num_at (HL.out.1.kept hown.2) (i := b) (by rw [HL.out.2.1]; exact hlt)
        have hm0 : L.getD b 0 ∈ L := by simp [List.getD_eq_getElem?_getD, HL.out.2.1, hlt]
        have hT0 := fun q => HT.out _ hm0 (wr.drewN q) (below_drewN hown.2 q)
        by_cases hgo : e < n ∧ κ (L.getD e 0) / 2 = κ (L.getD b 0) / 2
        · obtain ⟨hg1, hg2⟩ := hgo
          obtain ⟨bb2, off2, he2, hbl2, hcb2⟩ := num_at (HL.out.1.kept hown.2) (i := e) (by rw [HL.out.2.1]; exact hg1)
          simp only [Option.some.injEq, Addr.mk.injEq, and_true] at he2
          obtain ⟨rfl, rfl⟩ := he2
          have hm1 : L.getD e 0 ∈ L := by simp [List.getD_eq_getElem?_getD, HL.out.2.1, hg1]
          have hT1 := fun q => HT.out _ hm1 (wr.drewN q) (below_drewN hown.2 q)
          have hrun2 : ∀ j, b ≤ j → j < e + 1 → κ (L.getD j 0) / 2 = κ (L.getD b 0) / 2 := fun j h1 h2 => by
            by_cases h3 : j < e
            · exact hrun j h1 h3
            · rw [show j = e by omega]; exact hg2
          have HR := Lib.hid (And.intro hrun2 hown)
          clear hrun hrun2 hown hm0 hm1
          generalize L.getD e 0 = x1 at *
          generalize L.getD b 0 = x0 at *
          have H0 := Lib.hid hT0
          have H1 := Lib.hid hT1
          clear hT0 hT1
          generalize κ x1 = y1 at *
          generalize κ x0 = y0 at *
          have q2 : (e : Int) < (n : Int) := by omega
          have q3 : (0 : Int) ≤ (e : Int) := by omega
          have q4 : (0 : Int) ≤ (b : Int) := by omega
          have hd : (y1 / 2 == y0 / 2) = true := by simpa using hg2
          clear hg2
          go_wp2
          go_quiet (first | (refine Calls.quiet_of_same (H1.out _)) | (refine Calls.quiet_of_same (H0.out _)))
          go_wp2
          go_roundw
          case rel => exact ⟨e + 1, by omega, by omega, by go_num, HR.out.1, HR.out.2.drewN _⟩
          case measure => simp [intOf]; omega
        · have hbe2 : b < e := by
            by_cases h : b < e
            · exact h
            · obtain rfl : e = b := by omega
              exact absurd ⟨hlt, rfl⟩ hgo
          have hstop : e = L.length ∨ κ (L.getD e 0) / 2 ≠ κ (L.getD b 0) / 2 := by
            rw [HL.out.2.1]
            by_cases h : e < n
            · exact .inr fun h2 => hgo ⟨h, h2⟩
            · exact .inl (by omega)
          have hrs := run_step HL.out.2.2 hbe2 (by rw [HL.out.2.1]; exact hen) HSO.out.1 HSO.out.2.1 hrun hstop
          have hAl := rng_ln L b e hbe (by rw [HL.out.2.1]; exact hen)
          have hAt := fun j (hj : b + j < e) => rng_at L b e j hj
          have hAm := fun j (hj : b + j < e) => show L.getD (b + j) 0 ∈ L by simp [List.getD_eq_getElem?_getD, HL.out.2.1, show b + j < n by omega]
          have HR := Lib.hid (And.intro hrs (And.intro hAl (And.intro hAt hAm)))
          have HOW := Lib.hid hown
          have hnum := fun u (hu : Below w.heap.size w u) j (hj : j < L.length) => num_at (HL.out.1.kept hu) (i := j) hj
          have HNU := Lib.hid hnum
          clear hrs hAl hAt hAm hrun hnum
          have q4 : (0 : Int) ≤ (b : Int) := by omega
          have q5 : (b : Int) ≤ (e : Int) := by omega
          have q6 : (e : Int) ≤ (cap : Int) := by omega
          have hcase : (e : Int) < (n : Int) ∧ κ (L.getD e 0) / 2 ≠ κ (L.getD b 0) / 2 ∨ ¬ (e : Int) < (n : Int) := by
            by_cases h : e < n
            · exact .inl ⟨by omega, fun h2 => hgo ⟨h, h2⟩⟩
            · exact .inr (by omega)
          clear hstop hgo
          rcases hcase with ⟨q2, hg2⟩ | q2
          · obtain ⟨bb2, off2, he2, hbl2, hcb2⟩ := num_at (HL.out.1.kept hown.2) (i := e) (by rw [HL.out.2.1]; omega)
            simp only [Option.some.injEq, Addr.mk.injEq, and_true] at he2
            obtain ⟨rfl, rfl⟩ := he2
            have hm1 : L.getD e 0 ∈ L := by simp [List.getD_eq_getElem?_getD, HL.out.2.1, show e < n by omega]
            have hT1 := fun q => HT.out _ hm1 (wr.drewN q) (below_drewN hown.2 q)
            clear hown hm0 hm1
            generalize L.getD e 0 = x1 at *
            generalize L.getD b 0 = x0 at *
            have H0 := Lib.hid hT0
            have H1 := Lib.hid hT1
            clear hT0 hT1
            generalize κ x1 = y1 at *
            generalize κ x0 = y0 at *
            have q3 : (0 : Int) ≤ (e : Int) := by omega
            have hd : (y1 / 2 == y0 / 2) = false := by simpa using hg2
            clear hg2
            go_wp2
            go_quiet (first | (refine Calls.quiet_of_same (H1.out _)) | (refine Calls.quiet_of_same (H0.out _)))
            clear H0 H1 hcb hcb2
            go_wp2
            go_loopw [5, 42] (fun v5 v42 wq => ∃ t : Nat, t ≤ 2 ∧ v42 = .int .i64 (t : Int) ∧ OwnI w v5 (O ++ bitsTo κ (rng L b e) t) wq) (fun _ v42 _ => 2 - (intOf v42).toNat)
            case atStart => exact ⟨0, by omega, rfl, by simpa [bitsTo] using HOW.out.drewN _⟩
            case round =>
              obtain ⟨t, ht2, rfl, hown⟩ := hrel
              by_cases htl : t < 2
              · have r1 : (t : Int) < 2 := by omega
                have HOT := Lib.hid hown
                clear hown
                go_wp2
                go_loopw [5, 50] (fun v5 v50 wq => ∃ j : Nat, j ≤ e - b ∧ v50 = .int .i64 (j : Int) ∧ OwnI w v5 (O ++ bitsTo κ (rng L b e) t ++ ((rng L b e).take j).filter fun x => decide (κ x % 2 = (t : Int))) wq) (fun _ v50 _ => (e - b) - (intOf v50).toNat)
                case atStart => exact ⟨0, Nat.zero_le _, rfl, by simpa using HOT.out⟩
                case round =>
                  obtain ⟨j, hj, rfl, hown⟩ := hrel
                  by_cases hjl : j < e - b
                  · have hx := HR.out.2.2.1 j (by omega)
                    have hm := HR.out.2.2.2 j (by omega)
                    have hsn : (rng L b e).take (j + 1) = (rng L b e).take j ++ [(rng L b e).getD j 0] := by
                      rw [List.take_add_one]; simp [List.getD_eq_getElem?_getD, HR.out.2.1, hjl]
                    obtain ⟨bb3, off3, he3, hbl3, hcb3⟩ := HNU.out _ hown.2 (b + j) (by rw [HL.out.2.1]; omega)
                    simp only [Option.some.injEq, Addr.mk.injEq, and_true] at he3
                    obtain ⟨rfl, rfl⟩ := he3
                    rw [hx] at hsn
                    have hTj := HT.out _ hm _ hown.2
                    have hlen : (O ++ bitsTo κ (rng L b e) t ++ ((rng L b e).take j).filter fun x => decide (κ x % 2 = (t : Int))).length ≤ 5000000 := by
                      have h1 := bitsTo_len κ (rng L b e) t ht2
                      have h2 := List.length_filter_le (fun x => decide (κ x % 2 = (t : Int))) ((rng L b e).take j)
                      rw [List.length_take, HR.out.2.1] at h2
                      rw [HR.out.2.1] at h1
                      simp only [List.length_append]
                      omega
                    generalize hz : L.getD (b + j) 0 = z at *
                    have hcb4 : wr.cell? ⟨bb, off + b + j, none⟩ = some (.int .i64 z) := by rw [Nat.add_assoc]; exact hcb3
                    have r2 : (j : Int) < ((e - b : Nat) : Int) := by omega
                    have r2' : (j : Int) < (e : Int) - (b : Int) := by omega
                    have r3 : (0 : Int) ≤ (j : Int) := by omega
                    have hand : bits .and .i64 (κ z) 1 = κ z % 2 := and_mask (κ z) 1 (by omega)
                    have HTJ := Lib.hid hTj
                    have HSN := Lib.hid (And.intro hsn hlen)
                    have HOJ := Lib.hid hown
                    have hsz := hown.2.size
                    clear hx hm hsn hTj hcb3 hlen hz hown
                    generalize hy : κ z = y at *
                    by_cases hyt : y % 2 = (t : Int)
                    · have HF : Hid (((rng L b e).take (j + 1)).filter (fun x => decide (κ x % 2 = (t : Int))) = ((rng L b e).take j).filter (fun x => decide (κ x % 2 = (t : Int))) ++ [z]) := Lib.hid (by
                        rw [HSN.out.1, List.filter_append]
                        congr 1
                        rw [List.filter_cons_of_pos (by rw [hy]; simpa using hyt)]; rfl)
                      have hd3 : (y % 2 == (t : Int)) = true := by simpa using hyt
                      clear hy
                      go_wp2_with fail
                      refine HTJ.out.mono ?_
                      rintro x u ⟨rfl, rfl⟩
                      go_wp2_with (first
                        | (at_builtin
                           refine wpList_append_nums rfl (.tmp 60) (.tmp 62) rfl w.heap.size _ _ _ rfl (HOJ.out.alloc _).1 (some ⟨_, 0, none⟩) 1 1 [z] rfl rfl ?c1 (by simp) ?c2 ?c3 ?_))
                      case c1 => exact nums_one _ _
                      case c2 => have := HSN.out.2; omega
                      case c3 => first | omega | (simp; omega)
                      intro v' w6 hown hgrow _
                      have hI5 := (HOJ.out.alloc _).app (l' := O ++ bitsTo κ (rng L b e) t ++ ((rng L b e).take (j + 1)).filter fun x => decide (κ x % 2 = (t : Int))) (by rw [HF.out]; simpa [Nat.add_assoc] using hown) hgrow
                      have HX5 := Lib.hid hI5
                      clear hown hgrow hI5
                      go_wp2
                      go_roundw
                      case rel => exact ⟨j + 1, by omega, by go_num, HX5.out⟩
                      case measure => simp [intOf]; omega
                    · have HF : Hid (((rng L b e).take (j + 1)).filter (fun x => decide (κ x % 2 = (t : Int))) = ((rng L b e).take j).filter (fun x => decide (κ x % 2 = (t : Int)))) := Lib.hid (by
                        rw [HSN.out.1, List.filter_append, List.filter_cons_of_neg (by rw [hy]; simpa using hyt)]; simp)
                      have hd3 : (y % 2 == (t : Int)) = false := by simpa using hyt
                      clear hyt hy
                      go_wp2_with fail
                      refine HTJ.out.mono ?_
                      rintro x u ⟨rfl, rfl⟩
                      go_wp2
                      go_roundw
                      case rel => exact ⟨j + 1, by omega, by go_num, by rw [HF.out]; exact HOJ.out⟩
                      case measure => simp [intOf]; omega
                  · obtain rfl : j = e - b := by omega
                    rw [List.take_of_length_le (by rw [HR.out.2.1]; omega), List.append_assoc, ← bitsTo_succ] at hown
                    have HOX := Lib.hid hown
                    have r4 : ¬ ((e - b : Nat) : Int) < (e : Int) - (b : Int) := by omega
                    clear hown
                    go_wp2
                    go_roundw
                    case rel => exact ⟨t + 1, by omega, by go_num, HOX.out⟩
                    case measure => simp [intOf]; omega
              · obtain rfl : t = 2 := by omega
                have hl2 : (O ++ bitsTo κ (rng L b e) 2).length ≤ 2 * e := by
                  have h1 := bitsTo_len κ (rng L b e) 2 (by omega)
                  rw [HR.out.2.1] at h1
                  rw [List.length_append]; omega
                have HOX := Lib.hid (And.intro hown hl2)
                clear hown hl2
                go_wp2
                go_roundw
                case rel => exact ⟨e, _, hen, rfl, rfl, HR.out.1.1, HR.out.1.2, HOX.out.1, HOX.out.2⟩
                case measure => simp [intOf]; omega
          · have hd : decide (e < n) = false := decide_eq_false (by omega)
            clear q2
            clear hown hm0 hT0
            go_wp2
            go_quiet (fail)
            clear hcb
            go_wp2
            go_loopw [5, 42] (fun v5 v42 wq => ∃ t : Nat, t ≤ 2 ∧ v42 = .int .i64 (t : Int) ∧ OwnI w v5 (O ++ bitsTo κ (rng L b e) t) wq) (fun _ v42 _ => 2 - (intOf v42).toNat)
            case atStart => exact ⟨0, by omega, rfl, by simpa [bitsTo] using HOW.out.drewN _⟩
            case round =>
              obtain ⟨t, ht2, rfl, hown⟩ := hrel
              by_cases htl : t < 2
              · have r1 : (t : Int) < 2 := by omega
                have HOT := Lib.hid hown
                clear hown
                go_wp2
                go_loopw [5, 50] (fun v5 v50 wq => ∃ j : Nat, j ≤ e - b ∧ v50 = .int .i64 (j : Int) ∧ OwnI w v5 (O ++ bitsTo κ (rng L b e) t ++ ((rng L b e).take j).filter fun x => decide (κ x % 2 = (t : Int))) wq) (fun _ v50 _ => (e - b) - (intOf v50).toNat)
                case atStart => exact ⟨0, Nat.zero_le _, rfl, by simpa using HOT.out⟩
                case round =>
                  obtain ⟨j, hj, rfl, hown⟩ := hrel
                  by_cases hjl : j < e - b
                  · have hx := HR.out.2.2.1 j (by omega)
                    have hm := HR.out.2.2.2 j (by omega)
                    have hsn : (rng L b e).take (j + 1) = (rng L b e).take j ++ [(rng L b e).getD j 0] := by
                      rw [List.take_add_one]; simp [List.getD_eq_getElem?_getD, HR.out.2.1, hjl]
                    obtain ⟨bb3, off3, he3, hbl3, hcb3⟩ := HNU.out _ hown.2 (b + j) (by rw [HL.out.2.1]; omega)
                    simp only [Option.some.injEq, Addr.mk.injEq, and_true] at he3
                    obtain ⟨rfl, rfl⟩ := he3
                    rw [hx] at hsn
                    have hTj := HT.out _ hm _ hown.2
                    have hlen : (O ++ bitsTo κ (rng L b e) t ++ ((rng L b e).take j).filter fun x => decide (κ x % 2 = (t : Int))).length ≤ 5000000 := by
                      have h1 := bitsTo_len κ (rng L b e) t ht2
                      have h2 := List.length_filter_le (fun x => decide (κ x % 2 = (t : Int))) ((rng L b e).take j)
                      rw [List.length_take, HR.out.2.1] at h2
                      rw [HR.out.2.1] at h1
                      simp only [List.length_append]
                      omega
                    generalize hz : L.getD (b + j) 0 = z at *
                    have hcb4 : wr.cell? ⟨bb, off + b + j, none⟩ = some (.int .i64 z) := by rw [Nat.add_assoc]; exact hcb3
                    have r2 : (j : Int) < ((e - b : Nat) : Int) := by omega
                    have r2' : (j : Int) < (e : Int) - (b : Int) := by omega
                    have r3 : (0 : Int) ≤ (j : Int) := by omega
                    have hand : bits .and .i64 (κ z) 1 = κ z % 2 := and_mask (κ z) 1 (by omega)
                    have HTJ := Lib.hid hTj
                    have HSN := Lib.hid (And.intro hsn hlen)
                    have HOJ := Lib.hid hown
                    have hsz := hown.2.size
                    clear hx hm hsn hTj hcb3 hlen hz hown
                    generalize hy : κ z = y at *
                    by_cases hyt : y % 2 = (t : Int)
                    · have HF : Hid (((rng L b e).take (j + 1)).filter (fun x => decide (κ x % 2 = (t : Int))) = ((rng L b e).take j).filter (fun x => decide (κ x % 2 = (t : Int))) ++ [z]) := Lib.hid (by
                        rw [HSN.out.1, List.filter_append]
                        congr 1
                        rw [List.filter_cons_of_pos (by rw [hy]; simpa using hyt)]; rfl)
                      have hd3 : (y % 2 == (t : Int)) = true := by simpa using hyt
                      clear hy
                      go_wp2_with fail
                      refine HTJ.out.mono ?_
                      rintro x u ⟨rfl, rfl⟩
                      go_wp2_with (first
                        | (at_builtin
                           refine wpList_append_nums rfl (.tmp 60) (.tmp 62) rfl w.heap.size _ _ _ rfl (HOJ.out.alloc _).1 (some ⟨_, 0, none⟩) 1 1 [z] rfl rfl ?c1 (by simp) ?c2 ?c3 ?_))
                      case c1 => exact nums_one _ _
                      case c2 => have := HSN.out.2; omega
                      case c3 => first | omega | (simp; omega)
                      intro v' w6 hown hgrow _
                      have hI5 := (HOJ.out.alloc _).app (l' := O ++ bitsTo κ (rng L b e) t ++ ((rng L b e).take (j + 1)).filter fun x => decide (κ x % 2 = (t : Int))) (by rw [HF.out]; simpa [Nat.add_assoc] using hown) hgrow
                      have HX5 := Lib.hid hI5
                      clear hown hgrow hI5
                      go_wp2
                      go_roundw
                      case rel => exact ⟨j + 1, by omega, by go_num, HX5.out⟩
                      case measure => simp [intOf]; omega
                    · have HF : Hid (((rng L b e).take (j + 1)).filter (fun x => decide (κ x % 2 = (t : Int))) = ((rng L b e).take j).filter (fun x => decide (κ x % 2 = (t : Int)))) := Lib.hid (by
                        rw [HSN.out.1, List.filter_append, List.filter_cons_of_neg (by rw [hy]; simpa using hyt)]; simp)
                      have hd3 : (y % 2 == (t : Int)) = false := by simpa using hyt
                      clear hyt hy
                      go_wp2_with fail
                      refine HTJ.out.mono ?_
                      rintro x u ⟨rfl, rfl⟩
                      go_wp2
                      go_roundw
                      case rel => exact ⟨j + 1, by omega, by go_num, by rw [HF.out]; exact HOJ.out⟩
                      case measure => simp [intOf]; omega
                  · obtain rfl : j = e - b := by omega
                    rw [List.take_of_length_le (by rw [HR.out.2.1]; omega), List.append_assoc, ← bitsTo_succ] at hown
                    have HOX := Lib.hid hown
                    have r4 : ¬ ((e - b : Nat) : Int) < (e : Int) - (b : Int) := by omega
                    clear hown
                    go_wp2
                    go_roundw
                    case rel => exact ⟨t + 1, by omega, by go_num, HOX.out⟩
                    case measure => simp [intOf]; omega
              · obtain rfl : t = 2 := by omega
                have hl2 : (O ++ bitsTo κ (rng L b e) 2).length ≤ 2 * e := by
                  have h1 := bitsTo_len κ (rng L b e) 2 (by omega)
                  rw [HR.out.2.1] at h1
                  rw [List.length_append]; omega
                have HOX := Lib.hid (And.intro hown hl2)
                clear hown hl2
                go_wp2
                go_roundw
                case rel => exact ⟨e, _, hen, rfl, rfl, HR.out.1.1, HR.out.1.2, HOX.out.1, HOX.out.2⟩
                case measure => simp [intOf]; omega
    · obtain rfl : b = n := by omega
      have hT : L.take b = L := List.take_of_length_le (by rw [HL.out.2.1]; omega)
      rw [hT] at hso
      have HSO := Lib.hid (And.intro hso hown)
      clear hso hbd hown hT
      go_wp2
      go_ret
      exact ⟨_, O, rfl, HSO.out.1, HSO.out.2⟩

end Go.Proofs.YtpnjccomngdblaaGreat
