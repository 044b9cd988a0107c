/- The contract of partsOf: the builders. -/
import Derived.Test.YtdidoecigkbffaaGreatMC
set_option maxRecDepth 100000
namespace Go.Proofs.YtdidoecigkbffaaGreat
open Go.RowKit
open S J M

/-- The digit of c behind p, if p begins it; of the first k digits. -/
def nxtK (k : Nat) (p c : List Bool) : List Bool := if p.length < k ∧ c.take p.length = p then [c.getD p.length false] else []
def nxt (p c : List Bool) : List Bool := nxtK c.length p c
/-- The digits behind p of all codes that p begins. -/
def partB (cs : List (List Bool)) (p : List Bool) : List Bool := cs.flatMap (nxt p)

theorem nxtK_zero (p c : List Bool) : nxtK 0 p c = [] := by unfold nxtK; rw [if_neg (by omega)]
theorem nxtK_same (k : Nat) (c : List Bool) (h : k < c.length) : nxtK k (c.take k) c = [] ∧ nxtK (k + 1) (c.take k) c = [c.getD k false] := by
  have hl : (c.take k).length = k := by simp; omega
  unfold nxtK
  rw [hl]
  exact ⟨if_neg (by omega), if_pos ⟨by omega, rfl⟩⟩
theorem nxtK_other (k : Nat) (p c : List Bool) (_h : k < c.length) (hp : p ≠ c.take k) : nxtK (k + 1) p c = nxtK k p c := by
  unfold nxtK
  by_cases e : p.length < k ∧ c.take p.length = p
  · rw [if_pos e, if_pos ⟨by omega, e.2⟩]
  · rw [if_neg e, if_neg]
    rintro ⟨h1, h2⟩
    by_cases e2 : p.length = k
    · exact hp (by rw [← h2, e2])
    · exact e ⟨by omega, h2⟩
theorem partB_succ (cs : List (List Bool)) (i : Nat) (h : i < cs.length) (p : List Bool) : partB (cs.take (i + 1)) p = partB (cs.take i) p ++ nxt p (cs.getD i []) := by
  unfold partB
  rw [List.take_succ_eq_append_getElem h, List.flatMap_append]
  simp [List.getD_eq_getElem?_getD, h]
theorem nxtK_len (k : Nat) (p c : List Bool) : (nxtK k p c).length ≤ 1 := by unfold nxtK; split <;> simp
theorem partB_len (cs : List (List Bool)) (p : List Bool) : (partB cs p).length ≤ cs.length := by
  unfold partB
  induction cs with
  | nil => simp
  | cons c cs ih =>
    rw [List.flatMap_cons, List.length_append, List.length_cons]
    have := nxtK_len c.length p c
    show (nxtK c.length p c).length + _ ≤ _
    omega

theorem kp_iter {w : World} {k : Nat} {s : ByteArray} (pos : Nat) : Kp (fun b => b = k) w (w.iterAt k s pos) :=
  ⟨rfl, rfl, rfl, by simp [World.iterAt], fun b _ hx => by simp [World.iterAt, Array.getElem?_setIfInBounds]; intro e; exact absurd e.symm hx⟩

/-- One digit of one code. -/
structure BI (w : World) (mb ib : Nat) (s : ByteArray) (pos : Nat) (N : Nat) (B : List Bool → List Bool) (u : World) : Prop where
  ex : ∃ hs pb sv, BM w mb N hs B pb sv u ∧ (∀ p, hs p = decide (B p ≠ [])) ∧ (∀ p, hs p = true → ib ≠ pb p ∧ (sv p).ownBlock ≠ some ib)
  it : u.heap[ib]? = some (.stringIter s pos)
  ne : ib ≠ mb
  ge : w.heap.size ≤ ib

theorem zero62 (w : World) : (zeroValue 62).run Tryz.prog w = .ok (.pointer none) w := by kernel_rfl

/-- The symbols' codes, as they stand in the row. -/
def codesL (xs : List Int) (f : Nat → List Bool) : List (List Bool) := xs.map fun x => f x.toNat

theorem dig_nat (b : Bool) : ((dig b).toNat : Int) = if b then 49 else 48 := by cases b <;> rfl

/-- The step of the digits: the bit goes behind those of its text. -/
theorem BM.digit {w u : World} {mb N : Nat} {hs : List Bool → Bool} {B0 : List Bool → List Bool} {pb : List Bool → Nat} {sv : List Bool → Value} {c : List Bool} {k : Nat} (_h : BM w mb N hs (fun p => B0 p ++ nxtK k p c) pb sv u) (hk : k < c.length) :
    (fun p => if p = c.take k then B0 (c.take k) ++ nxtK k (c.take k) c ++ [c.getD k false] else B0 p ++ nxtK k p c) = fun p => B0 p ++ nxtK (k + 1) p c := by
  funext p
  by_cases e : p = c.take k
  · subst e
    rw [if_pos rfl, (nxtK_same k c hk).1, (nxtK_same k c hk).2, List.append_nil]
  · rw [if_neg e, nxtK_other k p c hk e]

/-- Behind the digit's bit. -/
theorem BM.digit_end {w u u' : World} {mb N ib : Nat} {hs : List Bool → Bool} {B0 : List Bool → List Bool} {pb : List Bool → Nat} {sv : List Bool → Value} {c : List Bool} {k : Nat} {s : ByteArray} {ps : Nat} (h : BM w mb N hs (fun p => B0 p ++ nxtK k p c) pb sv u) (hk : k < c.length) (hp : hs (c.take k) = true)
    (hpost : PutPost u (pb (c.take k)) (sv (c.take k)) (B0 (c.take k) ++ nxtK k (c.take k) c ++ [c.getD k false]) u') (hit : u.heap[ib]? = some (.stringIter s ps)) (hh : ∀ p, p ≠ c.take k → hs p = decide (B0 p ++ nxtK k p c ≠ [])) (hfr : ∀ p, hs p = true → ib ≠ pb p ∧ (sv p).ownBlock ≠ some ib) :
    ∃ sv', BM w mb N hs (fun p => B0 p ++ nxtK (k + 1) p c) pb sv' u' ∧ u'.heap[ib]? = some (.stringIter s ps) ∧ (∀ p, hs p = decide (B0 p ++ nxtK (k + 1) p c ≠ [])) ∧ ∀ p, hs p = true → ib ≠ pb p ∧ (sv' p).ownBlock ≠ some ib := by
  obtain ⟨s', h1, h2, h3⟩ := h.add hp hpost
  rw [h.digit hk] at h1
  have hil : ib < u.heap.size := (Array.getElem?_eq_some_iff.1 hit).1
  refine ⟨_, h1, ?_, fun p => ?_, fun p hpp => ⟨(hfr p hpp).1, ?_⟩⟩
  · rw [h2.block ib hil (fun e => by
      rcases e with e | e
      · exact (hfr _ hp).1 e
      · exact (hfr _ hp).2 e)]
    exact hit
  · by_cases e : p = c.take k
    · subst e
      rw [hp, (nxtK_same k c hk).2]; simp
    · rw [hh p e, nxtK_other k p c hk e]
  · by_cases e : p = c.take k
    · subst e
      simp only [if_true]
      intro e2
      rcases h3 _ e2 with e3 | e3
      · exact (hfr _ hp).2 e3
      · omega
    · simp only [e, if_false]
      exact (hfr p hpp).2

theorem make_hint (n : Int) (w : World) : (Instr.makeMap 29 (some (.int .i64 n))).run Tryz.prog w = .ok (.map (some w.heap.size)) (w.alloc (.map #[] 0)) := by
  simp [Instr.makeMap, run_underlying Tryz.underlying29, asInt, asIntOf, Result.andThen]

instance : Inhabited RP := ⟨⟨0, none, 0, 0, 0, 0, 0, none, 0, 0⟩⟩

/-- What partsOf tells: of each text that begins a code the rank of the digits behind it. -/
def PartsEnd (w : World) (cs : List (List Bool)) (e : Ending) (u : World) : Prop :=
  ∃ (b N : Nat) (ks : List (List Bool)) (Rf : List Bool → RP), e = .returned (.map (some b)) ∧ PM u b N ks (partB cs) Rf ∧ (∀ p, p ∈ ks ↔ partB cs p ≠ []) ∧ w.heap.size ≤ b ∧ Below w.heap.size w u

set_option maxHeartbeats 4000000 in
theorem parts_walk (A : Option Addr) (n cA C size : Nat) (xs : List Int) (f : Nat → List Bool) (w : World) (hx : NumsAt .i64 w A xs) (hl : xs.length = n) (hn : n ≤ 1000) (hxs : ∀ x ∈ xs, 0 ≤ x ∧ x < size) (hC : ∀ i, i < size → w.cell? ⟨C, i, none⟩ = some (.string (str (f i)))) (hf : ∀ i, (f i).length ≤ 40) :
    Calls Tryz.prog 22 #[.slice A n cA, .slice (some ⟨C, 0, none⟩) size size] w (PartsEnd w (codesL xs f)) := by
  have HX := Lib.hid (And.intro hx (And.intro hl (And.intro hxs (And.intro hC hf))))
  clear hx hl hxs hC hf
  obtain ⟨cs, hcs⟩ : ∃ cs, cs = codesL xs f := ⟨_, rfl⟩
  rw [← hcs]
  have HCS := Lib.hid hcs
  clear hcs
  have hmm := fun (t : TypeId) (w : World) => (show (Instr.makeMap t none).run Tryz.prog w = .ok (.map (some w.heap.size)) (w.alloc (.map #[] 0)) from rfl)
  go_enter Tryz.func22, Tryz.ntmps22
  go_wp2
  clear hmm
  obtain ⟨mb, hmb⟩ : ∃ mb, mb = w.heap.size := ⟨_, rfl⟩
  have hst := BM.start w
  rw [← hmb]
  rw [← hmb] at hst
  have HST := Lib.hid hst
  clear hst
  have HMB := Lib.hid hmb
  clear hmb
  go_loopw [7, 8, 9, 10, 11, 18] (fun _ _ _ _ _ v18 wr => ∃ (i N : Nat) (hs : List Bool → Bool) (pb : List Bool → Nat) (sv : List Bool → Value), i ≤ n ∧ v18 = .int .i64 (i : Int) ∧ N ≤ 40 * i ∧ BM w mb N hs (partB (cs.take i)) pb sv wr ∧ (∀ p, hs p = decide (partB (cs.take i) p ≠ []))) (fun _ _ _ _ _ v18 _ => n - (intOf v18).toNat)
  case atStart => exact ⟨0, 0, _, _, _, Nat.zero_le _, rfl, by omega, HST.out, fun p => by simp [partB]⟩
  case round =>
    obtain ⟨i, N, hs, pb, sv, hin, rfl, hN, hB, hh⟩ := hrel
    clear HST
    by_cases hlt : i < n
    · obtain ⟨bb, off, hAe, hbl, hcb⟩ := num_at (HX.out.1.kept hB.bel) (i := i) (by rw [HX.out.2.1]; exact hlt)
      have hxm : xs.getD i 0 ∈ xs := by simp [List.getD_eq_getElem?_getD, HX.out.2.1, hlt]
      have hxb := HX.out.2.2.1 _ hxm
      obtain ⟨y, hy⟩ : ∃ y : Nat, xs.getD i 0 = (y : Int) := ⟨(xs.getD i 0).toNat, by omega⟩
      have hcy := HX.out.2.2.2.1 y (by omega)
      have hcc : wr.cell? ⟨C, y, none⟩ = some (.string (str (f y))) := by rw [hB.bel.cell (p := ⟨C, y, none⟩) (World.block_lt_of_cell? w _ hcy)]; exact hcy
      have hci : cs.getD i [] = f y := by
        rw [HCS.out]; unfold codesL
        rw [List.getD_eq_getElem?_getD, List.getElem?_map, List.getElem?_eq_getElem (by rw [HX.out.2.1]; exact hlt)]
        rw [List.getD_eq_getElem?_getD, List.getElem?_eq_getElem (by rw [HX.out.2.1]; exact hlt)] at hy
        simp only [Option.getD_some] at hy
        simp [hy]
      rw [hy] at hcb
      have hf40 := HX.out.2.2.2.2 y
      obtain ⟨c, hc⟩ : ∃ c, c = f y := ⟨_, rfl⟩
      rw [← hc] at hcc hci hf40
      subst hAe
      have q1 : (i : Int) < (n : Int) := by omega
      have q2 : (0 : Int) ≤ (i : Int) := by omega
      have q3 : (y : Int) < (size : Int) := by omega
      have q4 : (0 : Int) ≤ (y : Int) := by omega
      have HB := Lib.hid (And.intro hB (And.intro hh (And.intro hci hy)))
      clear hB hh hci hy hxb hxm hcy hc
      go_wp2
      obtain ⟨ib, hib⟩ : ∃ ib, ib = wr.heap.size := ⟨_, rfl⟩
      obtain ⟨wi, hwi⟩ : ∃ wi, wi = wr.alloc (.stringIter (str c) 0) := ⟨_, rfl⟩
      have hst : BM w mb N hs (fun p => partB (cs.take i) p ++ nxtK 0 p c) pb sv wi ∧ (∀ p, hs p = decide (partB (cs.take i) p ++ nxtK 0 p c ≠ [])) := by
        have e : (fun p => partB (cs.take i) p ++ nxtK 0 p c) = partB (cs.take i) := by funext p; rw [nxtK_zero, List.append_nil]
        rw [e, hwi]
        refine ⟨HB.out.1.kept ((Below.refl _ _).alloc (Nat.le_refl _) _), fun p => ?_⟩
        rw [HB.out.2.1 p, nxtK_zero, List.append_nil]
      have hit : wi.heap[ib]? = some (.stringIter (str c) 0) := by rw [hwi, hib]; exact heap_alloc_new _ _
      have hfr : ib ≠ mb ∧ w.heap.size ≤ ib ∧ ∀ p, hs p = true → ib ≠ pb p ∧ (sv p).ownBlock ≠ some ib := by
        refine ⟨by have := HB.out.1.map.lt; omega, by rw [hib]; exact HB.out.1.bel.size, fun p hp => ?_⟩
        have := (HB.out.1.bld p hp).blk
        exact ⟨by omega, fun e => by have := this.2 _ e; omega⟩
      have HI := Lib.hid (And.intro hst (And.intro hit hfr))
      try rw [show wr.iter (str c) 0 = wi from hwi.symm]
      try rw [← hwi]
      rw [← hib]
      clear hst hit hfr hib hwi hcc hcb
      go_loopw [9, 10, 11] (fun _ _ _ wq => ∃ (k N' : Nat) (hs : List Bool → Bool) (pb : List Bool → Nat) (sv : List Bool → Value), k ≤ c.length ∧ N' ≤ N + k ∧ wq.heap[ib]? = some (.stringIter (str c) k) ∧ BM w mb N' hs (fun p => partB (cs.take i) p ++ nxtK k p c) pb sv wq ∧ (∀ p, hs p = decide (partB (cs.take i) p ++ nxtK k p c ≠ [])) ∧ ∀ p, hs p = true → ib ≠ pb p ∧ (sv p).ownBlock ≠ some ib) (fun _ _ _ wq => c.length - wq.iterPos ib)
      case atStart => exact ⟨0, N, hs, pb, sv, Nat.zero_le _, by omega, HI.out.2.1, HI.out.1.1, HI.out.1.2, HI.out.2.2.2.2⟩
      case round =>
        obtain ⟨k, N', hs', pb', sv', hkc, hN', hit, hB, hh, hfr⟩ := hrel
        by_cases hkl : k < c.length
        · have hkey : (c.take k).length ≤ 1000 := by simp; omega
          have hsz' : k < (str c).size := by rw [str_size]; exact hkl
          have hnx0 := fun ty => Lib.run_next_ascii_at (P := Tryz.prog) wr ib (str c) k ty hit hsz' (by rw [str_at c k hkl hsz']; cases c.getD k false <;> decide)
          rw [str_at c k hkl hsz', dig_nat] at hnx0
          obtain ⟨w1, hw1⟩ : ∃ w1, w1 = wr.iterAt ib (str c) (k + 1) := ⟨_, rfl⟩
          rw [← hw1] at hnx0
          have hB1 : BM w mb N' hs' (fun p => partB (cs.take i) p ++ nxtK k p c) pb' sv' w1 := by rw [hw1]; exact hB.out HI.out.2.2.1 hfr HI.out.2.2.2.1 (kp_iter _)
          have hit1 : w1.heap[ib]? = some (.stringIter (str c) (k + 1)) := by rw [hw1]; exact Lib.iterAt_heap _ _ _ _ _ hit
          have hlook := hB1.map.look (t := 61) (e := 62) Tryz.underlying61 zero62 (c.take k) hkey
          have hpos0 : wr.iterPos ib = k := by simp [World.iterPos, hit]
          have hlB : ((partB (cs.take i) (c.take k) ++ nxtK k (c.take k) c)).length + 1 ≤ 1000000000 := by
            have := partB_len (cs.take i) (c.take k)
            have := nxtK_len k (c.take k) c
            rw [List.length_append]
            have : (cs.take i).length ≤ i := List.length_take_le _ _
            omega
          have hex := str_take c k
          have q5 : (k : Int) ≤ ((str c).size : Int) := by omega
          have q6 : (0 : Int) ≤ (k : Int) := by omega
          have HPS := Lib.hid hpos0
          obtain ⟨bit, hbit⟩ : ∃ bit, bit = c.getD k false := ⟨_, rfl⟩
          rw [← hbit] at hnx0
          have HBT := Lib.hid hbit
          by_cases hhk : hs' (c.take k) = true
          · have hbd := hB1.bld _ hhk
            obtain ⟨a0, m0, cp, hsv⟩ := hbd.form
            rw [hsv] at hbd
            have hadd := add_any (pb' (c.take k)) a0 m0 cp _ bit w1 hbd hlB
            rw [if_pos hhk] at hlook
            have HAD := Lib.hid hadd
            have H1 := Lib.hid (And.intro hB1 (And.intro hit1 (And.intro hh (And.intro hfr hsv))))
            clear hadd hbd hsv hB1 hB hh hfr hit hit1 hw1 hbit hpos0 hlB hkey
            obtain ⟨pbk, hpbk⟩ : ∃ pbk, pbk = pb' (c.take k) := ⟨_, rfl⟩
            rw [← hpbk] at HAD hlook
            have HPK := Lib.hid hpbk
            clear hpbk
            simp only [Option.getD_some] at hlook
            cases bit
            all_goals
              go_wp2_with fail
              (with_reducible refine HAD.out.mono ?_)
              rintro e u5 ⟨rfl, hpost⟩
              have hend := BM.digit_end (ib := ib) H1.out.1 hkl hhk (by rw [← HPK.out, H1.out.2.2.2.2, ← HBT.out]; exact hpost) H1.out.2.1 (fun p _ => H1.out.2.2.1 p) H1.out.2.2.2.1
              have HEND := Lib.hid hend
              clear hpost hend hlook hnx0
              go_wp2
              go_roundw
              case rel =>
                obtain ⟨sv2, g1, g2, g3, g4⟩ := HEND.out
                exact ⟨k + 1, N', hs', pb', sv2, by omega, by omega, g2, g1, g3, g4⟩
              case measure =>
                obtain ⟨sv2, g1, g2, g3, g4⟩ := HEND.out
                have e1 : u5.iterPos ib = k + 1 := by simp [World.iterPos, g2]
                rw [e1, HPS.out]; omega
          · have hhk' : hs' (c.take k) = false := by simpa using hhk
            rw [if_neg hhk] at hlook
            simp only [Option.getD_none] at hlook
            have H1 := Lib.hid (And.intro hB1 (And.intro hit1 (And.intro hh hfr)))
            clear hB1 hB hh hfr hit hit1 hw1 hbit hpos0
            cases bit
            all_goals
              go_wp2_with fail
              (with_reducible refine (new_any _).mono ?_)
              rintro e u2 ⟨rfl, hbn, hbb⟩
              obtain ⟨u3, hrun, hm3, hg3⟩ := (H1.out.1.map.kept hbb).put (t := 61) (e := 62) Tryz.underlying61 (by omega) (c.take k) hkey (.pointer (some ⟨w1.heap.size, 0, none⟩))
              have hB3 := H1.out.1.new hhk' hbn hbb hm3 hg3
              have hil := (Array.getElem?_eq_some_iff.1 H1.out.2.1).1
              have hit3 : u3.heap[ib]? = some (.stringIter (str c) (k + 1)) := by
                rw [hg3.block ib (Nat.lt_of_lt_of_le hil hbb.size) (fun e => HI.out.2.2.1 (by cases e; rfl)), hbb.block ib hil]; exact H1.out.2.1
              have hbd := hB3.bld (c.take k) (by simp)
              simp only [if_true] at hbd
              have hadd := fun b => add_any w1.heap.size none 0 0 _ b u3 hbd hlB
              have H3 := Lib.hid (And.intro hB3 (And.intro hit3 hil))
              have HAD := Lib.hid hadd
              clear hadd hbd hB3 hit3 hil hm3 hg3 hbn hbb
              go_wp2_with fail
              (with_reducible refine (HAD.out _).mono ?_)
              rintro e u5 ⟨rfl, hpost⟩
              have hend := BM.digit_end (ib := ib) H3.out.1 hkl (by simp) (by simp only [if_true]; rw [← HBT.out]; exact hpost) H3.out.2.1 (fun p hp => by simp only [hp, if_false]; exact H1.out.2.2.1 p) (fun p hp => by
                by_cases e : p = c.take k
                · simp only [e, if_true]; exact ⟨by have := H3.out.2.2; omega, by simp [Value.ownBlock]⟩
                · simp only [e, if_false] at hp ⊢; exact H1.out.2.2.2 p hp)
              have HEND := Lib.hid hend
              clear hpost hend hlook hnx0 hrun
              go_wp2
              go_roundw
              case rel =>
                obtain ⟨sv2, g1, g2, g3, g4⟩ := HEND.out
                exact ⟨k + 1, N' + 1, _, _, sv2, by omega, by omega, g2, g1, g3, g4⟩
              case measure =>
                obtain ⟨sv2, g1, g2, g3, g4⟩ := HEND.out
                have e1 : u5.iterPos ib = k + 1 := by simp [World.iterPos, g2]
                rw [e1, HPS.out]; omega
        · obtain rfl : k = c.length := by omega
          have hnx := fun ty => Lib.run_next_end_at (P := Tryz.prog) wr ib (str c) c.length ty hit (by rw [str_size]; omega)
          have HE := Lib.hid (And.intro hB (And.intro hh hit))
          clear hB hh hfr hit
          go_wp2
          go_roundw
          case rel =>
            have e : (fun p => partB (cs.take i) p ++ nxtK c.length p c) = partB (cs.take (i + 1)) := by
              funext p
              rw [partB_succ cs i (by rw [HCS.out]; unfold codesL; rw [List.length_map, HX.out.2.1]; exact hlt), HB.out.2.2.1]; rfl
            refine ⟨i + 1, N', hs', pb', sv', by omega, by go_num, by omega, by rw [← e]; exact HE.out.1, fun p => ?_⟩
            rw [HE.out.2.1 p, ← e]
          case measure => simp [intOf]; omega
    · obtain rfl : i = n := by omega
      have q1 : ¬ (i : Int) < (i : Int) := by omega
      have hcl : cs.length = i := by rw [HCS.out]; unfold codesL; rw [List.length_map, HX.out.2.1]
      rw [show cs.take i = cs by rw [← hcl, List.take_length]] at hB hh
      obtain ⟨z, hz⟩ := hB.map.len (t := 61) (e := 62) Tryz.underlying61
      have hmh := make_hint
      obtain ⟨w6, hw6⟩ : ∃ w6, w6 = wr.alloc (.map #[] 0) := ⟨_, rfl⟩
      have hB6 : BM w mb N hs (partB cs) pb sv w6 := by rw [hw6]; exact hB.kept ((Below.refl _ _).alloc (Nat.le_refl _) _)
      obtain ⟨pm, hpm⟩ : ∃ pm, pm = wr.heap.size := ⟨_, rfl⟩
      have hpmm : MapAt w6 pm 0 (fun _ => none) := by rw [hw6, hpm]; exact MapAt.made wr
      have hlow : w.heap.size ≤ pm ∧ w6.heap.size = pm + 1 ∧ mb < pm := ⟨by rw [hpm]; exact hB.bel.size, by rw [hw6, hpm]; simp, by rw [hpm]; exact hB.map.lt⟩
      have hblk : ∀ p, hs p = true → pb p < pm ∧ ∀ k, (sv p).ownBlock = some k → k < pm := fun p hp => by rw [hpm]; exact (hB.bld p hp).blk
      have HB := Lib.hid (And.intro hB6 (And.intro hh (And.intro hpmm (And.intro hlow hblk))))
      have HW := Lib.hid (And.intro hw6 hpm)
      clear hB hh hB6 hpmm hlow hblk hw6 hpm
      go_wp2_with (first | (at_range; rw [← HW.out.1]; refine wpList_range_map _ rfl (.tmp 53) 61 62 rfl Tryz.underlying61 mb N _ rfl HB.out.1.map ?_; intro w7 cnt hR hcN hb7))
      try go_frame
      obtain ⟨r, hr⟩ : ∃ r, r = w6.heap.size := ⟨_, rfl⟩
      rw [← hr] at hR ⊢
      rw [← HW.out.2]
      have hrp : r = pm + 1 := by rw [hr]; exact HB.out.2.2.2.1.2.1
      have hbw : Below w.heap.size w w7 := HB.out.1.bel.trans (hb7.mono HB.out.1.bel.size)
      have hmm7 := HB.out.2.2.1.kept hb7
      have hbl7 : ∀ p, hs p = true → BuildAt w7 (pb p) (sv p) (partB cs p) := fun p hp => (HB.out.1.bld p hp).kept hb7
      have hsm : ∀ p, (if hs p then some (Value.pointer (some ⟨pb p, 0, none⟩)) else none).isSome = hs p := fun p => by cases hs p <;> rfl
      have HRP := Lib.hid hrp
      have HR := Lib.hid (And.intro hR (And.intro hbw (And.intro hmm7 (And.intro hbl7 (And.intro hsm (And.intro hcN hrp))))))
      clear hR hbw hmm7 hbl7 hsm hb7 hrp hr hmh hz
      go_loopw [13, 14] (fun _ _ wq => ∃ (left : List Bool → Bool) (cnt1 : Nat) (dn : List (List Bool)) (Rf : List Bool → RP), RangeAt wq mb r N (fun p => if hs p then some (Value.pointer (some ⟨pb p, 0, none⟩)) else none) left cnt1 ∧ (∀ p, left p = (hs p && !decide (p ∈ dn))) ∧ dn.Nodup ∧ (∀ p, p ∈ dn → hs p = true) ∧ MapAt wq pm dn.length (fun p => if p ∈ dn then some (rv (Rf p)) else none) ∧ (∀ p, p ∈ dn → RK wq (Rf p) (partB cs p)) ∧ cnt1 + dn.length ≤ N ∧ (∀ p, hs p = true → BuildAt wq (pb p) (sv p) (partB cs p)) ∧ Below w.heap.size w wq) (fun _ _ wq => wq.rangeLeft mb r)
      case atStart => exact ⟨_, cnt, [], fun _ => default, HR.out.1, fun p => by rw [HR.out.2.2.2.2.1 p]; simp, List.nodup_nil, fun p hp => by simp at hp, by simpa using HR.out.2.2.1, fun p hp => by simp at hp, by simp; exact HR.out.2.2.2.2.2.1, HR.out.2.2.2.1, HR.out.2.1⟩
      case round =>
        obtain ⟨left, cnt1, dn, Rf, hR, hlf, hnd, hdh, hm, hrk, hcd, hbl, hbw⟩ := hrel
        have HL := Lib.hid (And.intro hR (And.intro hlf (And.intro hnd (And.intro hdh (And.intro hm (And.intro hrk (And.intro hcd (And.intro hbl hbw))))))))
        clear hR hlf hnd hdh hm hrk hcd hbl hbw HR
        go_wp2_with (first | (at_next; refine wpList_next_map _ rfl (.tmp 54) rfl mb r N _ left cnt1 rfl HL.out.1 ?done ?more))
        case done =>
          intro hln
          have hks : ∀ p, p ∈ dn ↔ partB cs p ≠ [] := fun p => by
            have h1 := HL.out.2.1 p
            rw [hln p] at h1
            constructor
            · intro hp
              have := HL.out.2.2.2.1 p hp
              rw [HB.out.2.1 p] at this
              simpa using this
            · intro hp
              have h2 : hs p = true := by rw [HB.out.2.1 p]; simpa using hp
              rw [h2] at h1
              simpa using h1.symm
          have HK := Lib.hid hks
          clear hks hln
          go_wp2
          go_ret
          exact ⟨pm, dn.length, dn, Rf, rfl, ⟨HL.out.2.2.2.2.1, HL.out.2.2.2.2.2.1, HL.out.2.2.1⟩, HK.out, HB.out.2.2.2.1.1, HL.out.2.2.2.2.2.2.2.2⟩
        case more =>
          intro l v w' cnt' hll hlk hv hl1 hR' hlt hk' hen
          subst hv
          obtain ⟨since, seen, c0, hobj⟩ := HL.out.1.obj
          have hrk1 : ∀ p, p ∈ dn → RK w' (Rf p) (partB cs p) := fun p hp => (HL.out.2.2.2.2.2.1 p hp).kpT hk' (fun k e cs f h => by rw [e, hobj] at h; cases h)
          have hrp := HRP.out
          have hm1 := HL.out.2.2.2.2.1.kp hk' (fun e => by omega)
          have hbl1 : ∀ p, hs p = true → BuildAt w' (pb p) (sv p) (partB cs p) := fun p hp => (HL.out.2.2.2.2.2.2.2.1 p hp).kpX hk' (fun e => by have := (HB.out.2.2.2.2 p hp).1; omega) (fun k hk e => by have := (HB.out.2.2.2.2 p hp).2 k hk; omega)
          have hbw1 : Below w.heap.size w w' := HL.out.2.2.2.2.2.2.2.2.trans (hk'.toBelow HL.out.2.2.2.2.2.2.2.2.size (fun k hk e => by have := HB.out.2.2.2.1.1; omega))
          have hnl : l ∉ dn := fun h => by have := HL.out.2.1 l; rw [hll] at this; simp [h] at this
          have hbd := hbl1 l hlk
          obtain ⟨a0, m0, cp, hsv⟩ := hbd.form
          rw [hsv] at hbd
          have hLl : (partB cs l).length ≤ 1000000000 := by
            have h1 := partB_len cs l
            have h2 : cs.length ≤ 1000 := by rw [HCS.out]; unfold codesL; rw [List.length_map, HX.out.2.1]; exact hn
            omega
          have hbits := bits_any (pb l) a0 m0 cp (partB cs l) w' hbd hLl
          have HBI := Lib.hid hbits
          have H2 := Lib.hid (And.intro hR' (And.intro hrk1 (And.intro hm1 (And.intro hbl1 (And.intro hbw1 (And.intro hnl hlt))))))
          clear hbits hbd hsv hR' hrk1 hm1 hbl1 hbw1 hnl hobj hk' hrp
          go_wp2_with fail
          (with_reducible refine HBI.out.mono ?_)
          rintro e u5 ⟨rfl, hrow, hb5⟩
          have HNW := Lib.hid (rnew_any _ _ _ (partB cs l) u5 hrow hLl)
          have HB5 := Lib.hid hb5
          clear hrow hb5 HBI
          generalize nw (partB cs l).length = nwl at *
          generalize (partB cs l).length = ll at *
          go_wp2_with fail
          (with_reducible refine HNW.out.mono ?_)
          rintro e u6 ⟨R, rfl, hrkR, -, hb6⟩
          have hb56 : Below w'.heap.size w' u6 := HB5.out.trans (hb6.mono HB5.out.size)
          have hcd := HL.out.2.2.2.2.2.2.1
          obtain ⟨u7, hrun, hm7, hg7⟩ := (H2.out.2.2.1.kept hb56).put (t := 29) (e := 56) Tryz.underlying29 (by omega) l hl1 (rv R)
          obtain ⟨es, ck, hob⟩ := (H2.out.2.2.1.kept hb56).obj
          have hk7 : Kp (fun k => k = pm) u6 u7 := ⟨hg7.os, hg7.tape, hg7.output, hg7.size, fun k hk hx => hg7.block k hk (fun e => hx (by cases e; rfl))⟩
          have hR7 := (H2.out.1.kept hb56).kp hk7 (fun e => by have := HB.out.2.2.2.1.2.2; omega) (fun e => by have := HRP.out; omega)
          have hrk7 : ∀ p, p ∈ dn → RK u7 (Rf p) (partB cs p) := fun p hp => ((H2.out.2.1 p hp).kept hb56).kpT hk7 (fun k e cs f h => by rw [e, hob] at h; cases h)
          have hrkl : RK u7 R (partB cs l) := hrkR.kpT hk7 (fun k e cs f h => by rw [e, hob] at h; cases h)
          have hbl7 : ∀ p, hs p = true → BuildAt u7 (pb p) (sv p) (partB cs p) := fun p hp => ((H2.out.2.2.2.1 p hp).kept hb56).kpX hk7 (fun e => by have := (HB.out.2.2.2.2 p hp).1; omega) (fun k hk e => by have := (HB.out.2.2.2.2 p hp).2 k hk; omega)
          have hbw7 : Below w.heap.size w u7 := (H2.out.2.2.2.2.1.trans (hb56.mono H2.out.2.2.2.2.1.size)).trans (hk7.toBelow (Nat.le_trans H2.out.2.2.2.2.1.size hb56.size) (fun k hk e => by have := HB.out.2.2.2.1.1; omega))
          have H7 := Lib.hid (And.intro hR7 (And.intro hrk7 (And.intro hrkl (And.intro hbl7 (And.intro hbw7 (And.intro hm7 hcd))))))
          unfold rv at hrun
          clear hR7 hrk7 hrkl hbl7 hbw7 hm7 hk7 hob hg7 hb56 hb6 hrkR hcd hen
          go_wp2
          go_roundw
          case rel =>
            obtain ⟨g1, g2, g3, g4, g5, g6, g7⟩ := H7.out
            have hnl := H2.out.2.2.2.2.2.1
            refine ⟨_, cnt', l :: dn, fun p => if p = l then R else Rf p, g1, fun p => ?_, List.nodup_cons.2 ⟨hnl, HL.out.2.2.1⟩, fun p hp => ?_, ?_, fun p hp => ?_, by have := H2.out.2.2.2.2.2.2; simp only [List.length_cons]; omega, g4, g5⟩
            · show (left p && !decide (p = l)) = _
              rw [HL.out.2.1 p]
              by_cases e : p = l <;> simp [e]
            · rcases List.mem_cons.1 hp with e | e
              · rw [e]; exact hlk
              · exact HL.out.2.2.2.1 p e
            · have e : (fun p => if p ∈ l :: dn then some (rv (if p = l then R else Rf p)) else none) = fun k => if k = l then some (rv R) else if k ∈ dn then some (rv (Rf k)) else none := by
                funext p
                by_cases e : p = l
                · simp [e]
                · simp [e]
              rw [e]
              exact g6
            · show RK u7 (if p = l then R else Rf p) (partB cs p)
              rcases List.mem_cons.1 hp with e | e
              · rw [if_pos e, e]; exact g3
              · have hne : p ≠ l := fun e2 => hnl (e2 ▸ e)
                rw [if_neg hne]; exact g2 p e
          case measure =>
            rw [H7.out.1.left, HL.out.1.left]; exact H2.out.2.2.2.2.2.2

end Go.Proofs.YtdidoecigkbffaaGreat
