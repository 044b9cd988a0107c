/- The contracts of Read and of the document's Read. -/
import Derived.Test.YtilfjdmgeflagaaU
namespace Go.Proofs.Ytilfjdmgeflagaa
open Go.RowKit
open M

/-- Byte k of a string. -/
def sB (s : ByteArray) (k : Nat) : Nat := (s.data.toList.getD k 0).toNat
theorem sB_lt (s : ByteArray) (k : Nat) : sB s k < 256 := UInt8.toNat_lt _
theorem sB_get (s : ByteArray) (k : Nat) (h : k < s.size) : s[k].toNat = sB s k := by
  have h2 : k < s.data.toList.length := by simpa using h
  simp only [sB, List.getD_eq_getElem?_getD, List.getElem?_eq_getElem h2, Option.getD_some]
  rfl

/-- The first n bits of a string. -/
def sBits (s : ByteArray) (n : Nat) : List Bool := (List.range n).map fun i => (sB s (i / 8)).testBit (i % 8)
theorem sBits_length (s : ByteArray) (n : Nat) : (sBits s n).length = n := by simp [sBits]
theorem sBits_getD (s : ByteArray) (n i : Nat) (h : i < n) : (sBits s n).getD i false = (sB s (i / 8)).testBit (i % 8) := by
  simp [sBits, List.getD_eq_getElem?_getD, h]

set_option maxHeartbeats 1000000 in
theorem read_bad (n : Int) (s : ByteArray) (w : World) (hn : n ≤ 9223372036854775807) (_hs : s.size ≤ 60) (h : n < 0 ∨ s.size ≠ p8 n.toNat) :
    Calls Try.prog 38 #[.int .i64 n, .string s] w fun e w' => e = .returned (.tuple #[.agg #[.int .i64 0, .slice none 0 0], .int .i64 10]) ∧ Below w.heap.size w w' := by
  by_cases h0 : n < 0
  · clear h
    go_enter Try.func38, Try.ntmps38
    go_wp2
    refine bodyPost_ret (v := .tuple #[.agg #[.int .i64 0, .slice none 0 0], .int .i64 10]) (by simp [results, Try.results38, go_sem]) rfl ⟨rfl, ?_⟩
    exact (Below.refl _ _).alloc (Nat.le_refl _) _
  · have h1 : s.size ≠ p8 n.toNat := by omega
    have HH := Lib.hid h1
    clear h h1
    go_enter Try.func38, Try.ntmps38
    go_wp2_with fail
    refine (parts8 n _ (by omega) hn).mono ?_
    rintro e w' ⟨rfl, rfl⟩
    have h1 := HH.out
    generalize p8 n.toNat = k at *
    have hb1 : ((s.size : Int) != (k : Int)) = true := by simp; omega
    have hb2 : (s.size != k) = true := by simp [h1]
    clear h1
    go_wp2
    refine bodyPost_ret (v := .tuple #[.agg #[.int .i64 0, .slice none 0 0], .int .i64 10]) (by simp [results, Try.results38, go_sem]) rfl ⟨rfl, ?_⟩
    exact (Below.refl _ _).alloc (Nat.le_refl _) _

set_option maxHeartbeats 1000000 in
theorem read_trail (n : Nat) (s : ByteArray) (w : World) (hs : s.size ≤ 60) (h : s.size = p8 n) (h8 : 0 < n % 8) (ht : sB s (s.size - 1) / 2 ^ (n % 8) ≠ 0) :
    Calls Try.prog 38 #[.int .i64 (n : Int), .string s] w fun e w' => e = .returned (.tuple #[.agg #[.int .i64 0, .slice none 0 0], .int .i64 10]) ∧ Below w.heap.size w w' := by
  have hpos : 0 < s.size := by rw [h]; unfold p8; omega
  have hn : n ≤ 480 := by unfold p8 at h; omega
  have hidx : s.size - 1 < s.size := Nat.sub_lt hpos (by decide)
  have hg := sB_get s (s.size - 1) hidx
  have hb : (((s[s.size - 1]).toNat : Int) / 2 ^ (n % 8) != 0) = true := by
    rw [hg]
    have e : (sB s (s.size - 1) : Int) / 2 ^ (n % 8) = ((sB s (s.size - 1) / 2 ^ (n % 8) : Nat) : Int) := by
      rw [Int.natCast_ediv]; simp
    rw [e]; simp; omega
  have HH := Lib.hid h
  clear h ht hg
  go_enter Try.func38, Try.ntmps38
  go_wp2_with fail
  refine (parts8 (n : Int) _ (by omega) (by omega)).mono ?_
  rintro e w' ⟨rfl, rfl⟩
  rw [Int.toNat_natCast, ← HH.out]
  go_wp2
  refine bodyPost_ret (v := .tuple #[.agg #[.int .i64 0, .slice none 0 0], .int .i64 10]) (by simp [results, Try.results38, go_sem]) rfl ⟨rfl, ?_⟩
  exact (Below.refl _ _).alloc (Nat.le_refl _) _

theorem bits8 (s : ByteArray) (i : Nat) : sBits s (8 * (i + 1)) = sBits s (8 * i) ++ bitsOf (sB s i) 8 := by
  apply List.ext_getElem
  · simp [sBits, bitsOf_length]; omega
  · intro j h1 h2
    simp only [sBits_length] at h1
    rw [List.getElem_append]
    by_cases hj : j < 8 * i
    · simp [sBits, hj]
    · have h3 := bitsOf_getD (sB s i) 8 (j - 8 * i) (by omega)
      simp only [sBits_length, hj, dif_neg, not_false_eq_true]
      have h4 : j - 8 * i < (bitsOf (sB s i) 8).length := by rw [bitsOf_length]; omega
      rw [List.getD_eq_getElem?_getD, List.getElem?_eq_getElem h4, Option.getD_some] at h3
      rw [h3]
      simp only [sBits, List.getElem_map, List.getElem_range]
      rw [show j / 8 = i by omega, show j % 8 = j - 8 * i by omega]

theorem num8 (s : ByteArray) (i : Nat) : num (bitsOf (sB s i) 8) = sB s i := num_bitsOf _ _ (sB_lt s i)

/-- No bit is 1 from n on, up to the last byte's end. -/
def Clean (s : ByteArray) (n : Nat) : Prop := n % 8 = 0 ∨ sB s (s.size - 1) / 2 ^ (n % 8) = 0

theorem clean_bits (s : ByteArray) (n : Nat) (h : s.size = p8 n) (hc : Clean s n) (i : Nat) (h1 : n ≤ i) (h2 : i < 8 * s.size) : (sB s (i / 8)).testBit (i % 8) = false := by
  unfold p8 at h
  rcases hc with hc | hc
  · omega
  · have e : i / 8 = s.size - 1 := by omega
    rw [e]
    have hlt : sB s (s.size - 1) < 2 ^ (n % 8) := by
      rcases Nat.lt_or_ge (sB s (s.size - 1)) (2 ^ (n % 8)) with h | h
      · exact h
      · have := Nat.div_pos h (Nat.pow_pos (by decide)); omega
    apply Nat.testBit_lt_two_pow
    exact Nat.lt_of_lt_of_le hlt (Nat.pow_le_pow_right (by decide) (by omega))

theorem wd_clean (s : ByteArray) (n k : Nat) (h : s.size = p8 n) (hc : Clean s n) : wd (sBits s (8 * s.size)) k = wd (sBits s n) k := by
  apply Nat.eq_of_testBit_eq
  intro j
  by_cases hj : j < 64
  · rw [wd_bit _ _ _ hj, wd_bit _ _ _ hj]
    by_cases h1 : 64 * k + j < n
    · rw [sBits_getD _ _ _ h1, sBits_getD _ _ _ (by unfold p8 at h; omega)]
    · rw [show (sBits s n).getD (64 * k + j) false = false by rw [List.getD_eq_getElem?_getD, List.getElem?_eq_none (by rw [sBits_length]; omega)]; rfl]
      by_cases h2 : 64 * k + j < 8 * s.size
      · rw [sBits_getD _ _ _ h2]; exact clean_bits s n h hc _ (by omega) h2
      · rw [List.getD_eq_getElem?_getD, List.getElem?_eq_none (by rw [sBits_length]; omega)]; rfl
  · rw [wd_bit_ge _ _ _ (by omega), wd_bit_ge _ _ _ (by omega)]

theorem wrapB (x : UInt8) : IntKind.u64.wrap (x.toNat : Int) = (x.toNat : Int) := wrapU _ (Nat.lt_trans x.toNat_lt (by decide))

/-- What holds while bytes are read. -/
def ReadI (w : World) (s : ByteArray) (m i : Nat) (wr : World) : Prop :=
  wr.ownsRow 0 62 1 (.slice (some ⟨w.heap.size + 1, 0, none⟩) m m) m (wlN (sBits s (8 * i)) m) ∧ wr.cell? ⟨w.heap.size, 0, none⟩ = some (.int .i64 0) ∧ wr.cell? ⟨w.heap.size, 1, none⟩ = some (.slice none 0 0) ∧
    wr.frozen? ⟨w.heap.size, 0, none⟩ = false ∧ wr.frozen? ⟨w.heap.size, 1, none⟩ = false ∧ Below w.heap.size w wr
theorem ReadI.drew {w wr : World} {s : ByteArray} {m i : Nat} (h : ReadI w s m i wr) : ReadI w s m i wr.drew := by
  obtain ⟨r1, r2, r3, r4, r5, r6⟩ := h
  exact ⟨r1, r2, r3, r4, r5, r6.drew⟩

set_option maxHeartbeats 1000000 in
theorem read_ok (n : Nat) (s : ByteArray) (w : World) (hs : s.size ≤ 1000) (h : s.size = p8 n) (hc : Clean s n) :
    Calls Try.prog 38 #[.int .i64 (n : Int), .string s] w fun e w' => e = .returned (.tuple #[.agg #[.int .i64 (n : Int), .slice (some ⟨w.heap.size + 1, 0, none⟩) (nw n) (nw n)], .int .i64 0]) ∧
      RowAt w' (.slice (some ⟨w.heap.size + 1, 0, none⟩) (nw n) (nw n)) (sBits s n) ∧ Below w.heap.size w w' := by
  have hn : n ≤ 8000 := by unfold p8 at h; omega
  have hem := emptyWords_any (n : Int) 0 (w.alloc (Obj.cells #[Value.int .i64 0, .slice none 0 0] 29)) (by omega) (by omega) (by omega)
  rw [Int.toNat_natCast] at hem
  have hwd := fun k => wd_clean s n k h hc
  have HE := Lib.hid (And.intro hem (And.intro h hwd))
  clear hem hwd
  have hpos : ¬ n % 8 = 0 → 0 < s.size := fun h8 => by rw [h]; unfold p8; omega
  have hfin : ∀ i wr, i < s.size → ReadI w s (nw n) i wr → ReadI w s (nw n) (i + 1) (wr.setCell ⟨w.heap.size + 1, i * 8 / 64, none⟩ (.int .u64 (wd (sBits s (8 * (i + 1))) (i * 8 / 64) : Nat))) ∧ i * 8 / 64 < nw n ∧
      wr.cell? ⟨w.heap.size + 1, i * 8 / 64, none⟩ = some (.int .u64 (wd (sBits s (8 * i)) (i * 8 / 64) : Nat)) ∧ wr.frozen? ⟨w.heap.size + 1, i * 8 / 64, none⟩ = false ∧
      bits .or .u64 (wd (sBits s (8 * i)) (i * 8 / 64) : Int) (IntKind.u64.wrap ((sB s i : Int) * 2 ^ (i * 8 % 64))) = (wd (sBits s (8 * (i + 1))) (i * 8 / 64) : Int) := by
    intro i wr hi hI
    obtain ⟨r1, r2, r3, r4, r5, r6⟩ := hI
    have hm : i * 8 / 64 < nw n := by unfold p8 at h; unfold nw; omega
    have hor := orW (sBits s (8 * i)) (bitsOf (sB s i) 8) (i * 8 / 64) (i * 8 % 64) (by rw [sBits_length, Nat.mul_comm]) (by rw [sBits_length, Nat.mul_comm]) (by rw [bitsOf_length]; omega)
    rw [num8, ← bits8] at hor
    have hst := (r1.stored (i * 8 / 64) (.int .u64 (wd (sBits s (8 * i) ++ bitsOf (sB s i) 8) (i * 8 / 64) : Nat))).1
    rw [wlN_set (sBits s (8 * i)) (bitsOf (sB s i) 8) (nw n) (i * 8 / 64) (by rw [sBits_length, Nat.mul_comm]) (by rw [sBits_length, bitsOf_length]; omega), ← bits8] at hst
    refine ⟨⟨hst, ?_, ?_, ?_, ?_, ?_⟩, hm, ?_, r1.frozenAt _, hor⟩
    · rw [World.cell?_setCell_other _ _ _ _ (by simp)]; exact r2
    · rw [World.cell?_setCell_other _ _ _ _ (by simp)]; exact r3
    · simpa using r4
    · simpa using r5
    · exact r6.setCell (by simp) _
    · rw [r1.cellAt (i * 8 / 64) (by omega)]; simp [wlN, hm]
  have HFIN := Lib.hid hfin
  have hlast : ¬ n % 8 = 0 → ∃ hi : s.size - 1 < s.size, (((s[s.size - 1]'hi).toNat : Int) / 2 ^ (n % 8) != 0) = false := by
    intro h8
    have hi : s.size - 1 < s.size := Nat.sub_lt (hpos h8) (by decide)
    refine ⟨hi, ?_⟩
    rcases hc with hc | hc
    · exact absurd hc h8
    · rw [sB_get s _ hi]
      have e : (sB s (s.size - 1) : Int) / 2 ^ (n % 8) = ((sB s (s.size - 1) / 2 ^ (n % 8) : Nat) : Int) := by
        rw [Int.natCast_ediv]; simp
      rw [e, hc]; rfl
  have HP := Lib.hid (And.intro hpos hlast)
  clear hc h hpos hfin hlast
  by_cases h8 : n % 8 = 0
  case' neg =>
    have hps := HP.out.1 h8
    obtain ⟨hidx, hlb⟩ := HP.out.2 h8
    have h8' : 0 < n % 8 := by omega
    clear h8
  all_goals
    go_enter Try.func38, Try.ntmps38
    go_wp2_with fail
    refine (parts8 (n : Int) _ (by omega) (by omega)).mono ?_
    rintro e w' ⟨rfl, rfl⟩
    rw [Int.toNat_natCast, ← HE.out.2.1]
    go_wp2_with fail
    refine HE.out.1.mono ?_
    rintro e w1 ⟨rfl, hown, hgrow⟩
    have hI : ReadI w s (nw n) 0 w1 := by
      refine ⟨by rw [show sBits s (8 * 0) = [] from rfl, wl_empty]; simpa using hown, ?_, ?_, ?_, ?_, ?_⟩
      · rw [hgrow.cell_far _ (by simp) (by simp)]; simp
      · rw [hgrow.cell_far _ (by simp) (by simp)]; simp
      · rw [hgrow.frozen_far _ (by simp) (by simp)]; simp
      · rw [hgrow.frozen_far _ (by simp) (by simp)]; simp
      · exact ((Below.refl _ _).alloc (Nat.le_refl _) _).trans ((below_grown hgrow).mono (by simp))
    have HI := Lib.hid hI
    clear hI hown hgrow HP
    generalize hm : nw n = m at *
    have HM := Lib.hid hm
    clear hm
    go_wp2
    go_loopw [38] (fun v wr => ∃ i : Nat, i ≤ s.size ∧ v = .int .i64 (i : Int) ∧ ReadI w s m i wr) (fun v _ => s.size - (intOf v).toNat)
    case atStart => exact ⟨0, Nat.zero_le _, rfl, HI.out⟩
    case round =>
      obtain ⟨i, hi, rfl, hI⟩ := hrel
      by_cases hlt : i < s.size
      · obtain ⟨hI2, hkm, hcw, hfz, hor⟩ := HFIN.out i wr hlt hI
        have hsb := sB_get s i hlt
        rw [← hsb] at hor
        have HI2 := Lib.hid (And.intro hI2 hor)
        clear hI2 hor hI hsb
        generalize wd (sBits s (8 * i)) (i * 8 / 64) = y at *
        have q1 : IntKind.i64.wrap (((i : Int) * 8).tdiv 64) = (i : Int) * 8 / 64 := by rw [IntWalk.i64_quo _ _ (by omega)]
        have q2 : ((i : Int) * 8).tmod 64 = ((i * 8 % 64 : Nat) : Int) := rfl
        have q6 : min (i * 8 % 64) 64 = i * 8 % 64 := by omega
        have q3 : ((i : Int) * 8 / 64).toNat = i * 8 / 64 := by omega
        have q4 : (0 : Int) ≤ (i : Int) * 8 / 64 := by omega
        have q5 : (i : Int) * 8 / 64 < (m : Int) := by omega
        have q7 : (0 : Int) ≤ (i : Int) := by omega
        have q8 : (i : Int) < (s.size : Int) := by omega
        go_wp2
        go_still_tail 14, mixed
        clear q1 q2 q3 q4 q5
        go_wp2
        go_roundw
        case rel => exact ⟨i + 1, by omega, by go_num, by rw [wrapB, HI2.out.2]; exact HI2.out.1.drew⟩
        case measure => simp [intOf]; omega
      · obtain rfl : i = s.size := by omega
        obtain ⟨r1, r2, r3, r4, r5, r6⟩ := hI
        have R1 := Lib.hid (And.intro r1 r6)
        clear r1 r6 HI HFIN
        go_wp2
        refine bodyPost_ret (v := .tuple #[.agg #[.int .i64 (n : Int), .slice (some ⟨w.heap.size + 1, 0, none⟩) m m], .int .i64 0]) (by simp [results, Try.results38, go_sem, r2, r3]) rfl ?_
        have e1 : nw n = m := HM.out
        obtain ⟨hr, hB⟩ := R1.out
        refine ⟨by rw [e1], ?_, (hB.setCell (by simp) _).setCell (by simp) _⟩
        have hg : wr.grownBy ((wr.setCell ⟨w.heap.size, 0, none⟩ (Value.int IntKind.i64 (n : Int))).setCell ⟨w.heap.size, 1, none⟩ (Value.slice (some ⟨w.heap.size + 1, 0, none⟩) m m)) (some w.heap.size) :=
          grown_trans (grown_setCell wr ⟨w.heap.size, 0, none⟩ _) (grown_setCell _ ⟨w.heap.size, 1, none⟩ _)
        have := hr.kept hg (.inr (by simp [Value.ownBlock]))
        unfold RowAt
        rw [sBits_length, e1]
        rw [show wlN (sBits s n) m = wlN (sBits s (8 * s.size)) m from ?_]
        · exact this
        · simp only [wlN]
          apply List.map_congr_left
          intro k _
          rw [HE.out.2.2 k]

end Go.Proofs.Ytilfjdmgeflagaa
