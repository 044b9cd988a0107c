/- The contract of the document's Read. -/
import Derived.Test.YtilfjdmgeflagaaV
namespace Go.Proofs.Ytilfjdmgeflagaa
open Go.RowKit
open M

set_option maxHeartbeats 1000000 in
theorem rread_bad (n : Int) (s : ByteArray) (w : World) (hs : s.size ≤ 60) (h : n < 0 ∨ s.size ≠ p8 n.toNat) :
    Calls Try.prog 39 #[.int .i64 n, .string s] w fun e w' => e = .returned (.tuple #[.slice none 0 0, .int .i64 10]) ∧ w = w' := by
  by_cases h0 : n < 0
  · clear h
    go_enter Try.func39, Try.ntmps39
    go_wp2
    go_ret2
    exact ⟨rfl, rfl⟩
  · by_cases h1 : 8 * (s.size : Int) < n
    · clear h
      go_enter Try.func39, Try.ntmps39
      go_wp2
      go_ret2
      exact ⟨rfl, rfl⟩
    · have h2 : ((s.size : Int) != (n + 7) / 8) = true := by
        have : s.size ≠ p8 n.toNat := by omega
        unfold p8 at this
        simp; omega
      clear h
      go_enter Try.func39, Try.ntmps39
      go_wp2
      go_ret2
      exact ⟨rfl, rfl⟩

theorem bit8_eq (x j : Nat) (h : x < 256) : (bits .and .u8 ((x : Int) / 2 ^ j) 1 == 1) = x.testBit j := by
  have e : (x : Int) / 2 ^ j = ((x / 2 ^ j : Nat) : Int) := by
    rw [Int.natCast_ediv]; simp
  have hd : x / 2 ^ j < 256 := Nat.lt_of_le_of_lt (Nat.div_le_self _ _) h
  have e2 : bits .and .u8 ((x / 2 ^ j : Nat) : Int) 1 = ((x / 2 ^ j &&& 1 : Nat) : Int) := u8_and_nat _ 1 hd (by decide)
  rw [e, e2, Nat.and_one_is_mod, Nat.testBit_eq_decide_div_mod_eq]
  rw [Bool.eq_iff_iff]
  simp
  omega

theorem sBits_snoc (s : ByteArray) (i : Nat) : sBits s (i + 1) = sBits s i ++ [(sB s (i / 8)).testBit (i % 8)] := by
  simp [sBits, List.range_succ]

theorem byt_bit (l : List Bool) (k j : Nat) : (byt l k).testBit j = if j < 8 then l.getD (8 * k + j) false else false := by
  rw [byt, num_testBit]
  simp only [List.getD_eq_getElem?_getD, List.getElem?_take, List.getElem?_drop]
  split <;> simp

theorem byt_clean (s : ByteArray) (n k : Nat) (h : s.size = p8 n) (hc : Clean s n) (hk : k < s.size) : byt (sBits s n) k = sB s k := by
  apply Nat.eq_of_testBit_eq
  intro j
  rw [byt_bit]
  by_cases hj : j < 8
  · rw [if_pos hj]
    by_cases h1 : 8 * k + j < n
    · rw [sBits_getD _ _ _ h1, show (8 * k + j) / 8 = k by omega, show (8 * k + j) % 8 = j by omega]
    · have := clean_bits s n h hc (8 * k + j) (by omega) (by omega)
      rw [show (8 * k + j) / 8 = k by omega, show (8 * k + j) % 8 = j by omega] at this
      rw [this, List.getD_eq_getElem?_getD, List.getElem?_eq_none (by rw [sBits_length]; omega)]; rfl
  · rw [if_neg hj]
    symm
    apply Nat.testBit_lt_two_pow
    exact Nat.lt_of_lt_of_le (sB_lt s k) (show 2 ^ 8 ≤ 2 ^ j from Nat.pow_le_pow_right (by decide) (by omega))

theorem str_list (s : ByteArray) (xs : List Nat) (hx : ∀ x ∈ xs, x < 256) : strOfNums (xs.map fun k : Nat => (k : Int)) = s ↔ xs = (List.range s.size).map (sB s) := by
  have hsz : s.data.toList.length = s.size := by simp
  have hsl : s.data.toList.map (·.toNat) = (List.range s.size).map (sB s) := by
    apply List.ext_getElem
    · simp [hsz]
    · intro i h1 h2
      simp only [List.length_map] at h1
      simp [sB, List.getD_eq_getElem?_getD, List.getElem?_eq_getElem h1]
  have hmap : (strOfNums (xs.map fun k : Nat => (k : Int))).data.toList.map (·.toNat) = xs := by
    rw [strOfNums_data]
    simp only [List.map_map]
    apply List.ext_getElem
    · simp
    · intro i h1 h2
      simp only [List.getElem_map, Function.comp]
      have := hx xs[i] (List.getElem_mem _)
      simp [UInt8.toNat_ofNat', Nat.mod_eq_of_lt this]
  constructor
  · intro h
    rw [h, hsl] at hmap
    exact hmap.symm
  · intro h
    have e : (strOfNums (xs.map fun k : Nat => (k : Int))).data.toList.map (·.toNat) = s.data.toList.map (·.toNat) := by rw [hmap, hsl, h]
    have e2 : (strOfNums (xs.map fun k : Nat => (k : Int))).data.toList = s.data.toList := by
      apply List.ext_getElem
      · have := congrArg List.length e; simpa using this
      · intro i h1 h2
        have := congrArg (fun l => l[i]?) e
        simp only [List.getElem?_map, List.getElem?_eq_getElem h1, List.getElem?_eq_getElem h2, Option.map_some, Option.some.injEq] at this
        exact UInt8.toNat_inj.1 this
    have e3 : (strOfNums (xs.map fun k : Nat => (k : Int))).data = s.data := by
      apply Array.ext'
      exact e2
    cases s; cases hq : strOfNums (xs.map fun k : Nat => (k : Int))
    rw [hq] at e3
    simp only at e3
    rw [e3]

theorem clean_str (s : ByteArray) (n : Nat) (h : s.size = p8 n) : strOfNums (bytI (sBits s n) (p8 n)) = s ↔ Clean s n := by
  have e : bytI (sBits s n) (p8 n) = ((List.range (p8 n)).map (byt (sBits s n))).map fun k : Nat => (k : Int) := by simp [bytI]
  rw [e, str_list s _ (by
    intro x hx
    obtain ⟨k, -, rfl⟩ := List.mem_map.1 hx
    exact byt_lt _ _), ← h]
  constructor
  · intro hh
    by_cases h8 : n % 8 = 0
    · exact .inl h8
    · have hpos : 0 < s.size := by rw [h]; unfold p8; omega
      have := congrArg (fun l => l[s.size - 1]?) hh
      have hlt : s.size - 1 < s.size := by omega
      simp [hlt] at this
      right
      rw [← this]
      apply Nat.div_eq_of_lt
      have hn := num_lt (((sBits s n).drop (8 * (s.size - 1))).take 8)
      refine Nat.lt_of_lt_of_le hn (Nat.pow_le_pow_right (by decide) ?_)
      simp only [List.length_take, List.length_drop, sBits_length]
      unfold p8 at h
      omega
  · intro hc
    apply List.map_congr_left
    intro k hk
    exact byt_clean s n k h hc (by simpa using hk)

theorem toList_ne {A s : ByteArray} (h : A ≠ s) : (A.toList == s.toList) = false := by
  rw [beq_eq_false_iff_ne]
  intro e
  rw [ByteArray.toList_eq, ByteArray.toList_eq] at e
  have e2 : A.data = s.data := Array.ext' e
  cases A; cases s
  simp only at e2
  exact h (by rw [e2])

def RPost (n : Nat) (s : ByteArray) (w : World) (e : Ending) (w' : World) : Prop :=
  ((Clean s n ∧ ∃ a c, e = .returned (.tuple #[.slice a n c, .int .i64 0]) ∧ BoolsAt w' a (sBits s n)) ∨ (¬ Clean s n ∧ e = .returned (.tuple #[.slice none 0 0, .int .i64 10]))) ∧ Below w.heap.size w w'

set_option maxHeartbeats 1000000 in
theorem rread_loop (n : Nat) (s : ByteArray) (w : World) (hs : s.size ≤ 60) (h : s.size = p8 n) :
    Calls Try.prog 39 #[.int .i64 (n : Int), .string s] w (RPost n s w) := by
  have hn : n ≤ 480 := by unfold p8 at h; omega
  have h8 : ((s.size : Int) != ((n : Int) + 7) / 8) = false := by unfold p8 at h; simp; omega
  have hle : ¬ 8 * (s.size : Int) < (n : Int) := by unfold p8 at h; omega
  obtain ⟨i0, hi, hz0, hz1, hz2⟩ := info_parts info4
  have HH := Lib.hid h
  clear h
  go_enter Try.func39, Try.ntmps39
  go_wp2
  go_loopw [6, 7] (fun v6 v7 wr => ∃ i : Nat, i ≤ n ∧ v7 = .int .i64 (i : Int) ∧ wr.ownsRow w.heap.size 4 1 v6 i ((sBits s i).map Value.bool) ∧ Below w.heap.size w wr) (fun _ v7 _ => n - (intOf v7).toNat)
  case atStart => exact ⟨0, Nat.zero_le _, rfl, World.ownsRow_nil _ _ _ _, Below.refl _ _⟩
  case round =>
    obtain ⟨i, hin, rfl, r1, r2⟩ := hrel
    by_cases hlt : i < n
    · have hidx : i / 8 < s.size := by have := HH.out; unfold p8 at this; omega
      have hbit : (bits .and .u8 (((s[i / 8]).toNat : Int) / 2 ^ (i % 8)) 1 == 1) = (sB s (i / 8)).testBit (i % 8) := by
        rw [sB_get s _ hidx]; exact bit8_eq _ _ (sB_lt _ _)
      have HB := Lib.hid (And.intro hbit (And.intro r1 r2))
      have hsz := r2.size
      have q1 : (i : Int) / 8 < (s.size : Int) := by omega
      have q2 : (0 : Int) ≤ (i : Int) / 8 := by omega
      clear hbit r1 r2
      go_wp2_with (first
        | (at_builtin
           refine wpList_append_own_at _ rfl (.tmp 30) (.tmp 41) 44 rfl w.heap.size 4 i0 (.bool false) 1 1 Try.underlying44 hi hz0 hz1 hz2 rfl (by omega) _ _ _ rfl (HB.out.2.1.alloc _) ⟨wr.heap.size, 0, none⟩ 1 1
             [.bool (bits .and .u8 (((s[i / 8]).toNat : Int) / 2 ^ (i % 8)) 1 == 1)] rfl rfl ?c1 ?c2 ?c3 ?c4 ?c5 ?_))
      case c1 =>
        intro j u hj
        match j, hj with
        | 0, hj => simp at hj; subst hj; simp [Addr.add]
      case c2 => intro u hu; simp at hu; subst hu; rfl
      case c3 => unfold maxLen; omega
      case c4 => omega
      case c5 => simp; omega
      intro v' w2 hown hgrow _ _
      have hB2 : Below w.heap.size w w2 := (HB.out.2.2.alloc hsz _).grown hgrow (by simp; omega) (fun k hk => (HB.out.2.1.lt k hk).1)
      have hown2 : w2.ownsRow w.heap.size 4 1 v' (i + 1) ((sBits s (i + 1)).map Value.bool) := by
        rw [sBits_snoc, List.map_append, ← HB.out.1]; exact hown
      have HX := Lib.hid (And.intro hown2 hB2)
      clear hown hgrow hB2 hown2 HB
      go_wp2
      go_roundw
      case rel => exact ⟨i + 1, by omega, by go_num, HX.out.1, HX.out.2⟩
      case measure => simp [intOf]; omega
    · obtain rfl : i = n := by omega
      have r1' : wr.ownsRow w.heap.size 4 1 u6 (sBits s i).length ((sBits s i).map Value.bool) := by rw [sBits_length]; exact r1
      obtain ⟨a, c, hv, hsl⟩ := slice_of_own r1'
      rw [sBits_length] at hv hsl
      have hby := rbytes_any a c i (sBits s i) wr hsl.2.2.2.1 (sBits_length s i) (by omega)
      have HY := Lib.hid (And.intro hby (And.intro hsl r2))
      have hst := clean_str s i HH.out
      clear r1 r1' hsl hby r2
      subst hv
      by_cases hc : Clean s i
      · rw [hst.2 hc] at HY
        clear hst
        go_wp2_with fail
        refine HY.out.1.mono ?_
        rintro e w3 ⟨rfl, hb3⟩
        have hfin : RPost i s w (.returned (.tuple #[.slice a i c, .int .i64 0])) w3 := ⟨.inl ⟨hc, a, c, rfl, HY.out.2.1.2.2.2.1.kept hb3⟩, HY.out.2.2.trans (hb3.mono HY.out.2.2.size)⟩
        have HFIN := Lib.hid hfin
        clear hfin hb3 hc HY
        go_wp2
        go_ret2
        exact HFIN.out
      · have hne : strOfNums (bytI (sBits s i) (p8 i)) ≠ s := fun e => hc (hst.1 e)
        clear hst
        generalize strOfNums (bytI (sBits s i) (p8 i)) = A at *
        go_wp2_with fail
        refine HY.out.1.mono ?_
        rintro e w3 ⟨rfl, hb3⟩
        have hfin : RPost i s w (.returned (.tuple #[.slice none 0 0, .int .i64 10])) w3 := ⟨.inr ⟨hc, rfl⟩, HY.out.2.2.trans (hb3.mono HY.out.2.2.size)⟩
        have HFIN := Lib.hid hfin
        clear hfin hb3 hc HY
        have hbe : (A.toList == s.toList) = false := toList_ne hne
        clear hne
        go_wp2
        go_ret2
        exact HFIN.out

end Go.Proofs.Ytilfjdmgeflagaa
