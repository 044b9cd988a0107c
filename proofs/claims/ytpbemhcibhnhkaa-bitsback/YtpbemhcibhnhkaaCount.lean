/- The walk of BitsCount. -/
import Derived.Test.YtpbemhcibhnhkaaQ
import Derived.Deep.RegionHeld3
import Derived.Deep.DrawnRows
namespace Go.Proofs.Ytpbemhcibhnhkaa
open Go.RowKit
open M
attribute [local go_sem ↓] Go.wp_at_zero Go.wp_at_succ

theorem onesN_in (l : List Bool) (a b : Nat) (hab : a ≤ b) (hb : b ≤ l.length) : onesN l (a : Int) (b : Int) = cnt ((l.drop a).take (b - a)) := by
  have e1 : lo l.length (a : Int) = a := by unfold lo; omega
  have e2 : hi l.length (a : Int) (b : Int) = b := by unfold hi; rw [e1]; omega
  unfold onesN
  rw [e1, e2]

theorem onesN_one (l : List Bool) (i : Nat) (h : i < l.length) : (onesN l (i : Int) ((i : Int) + 1) : Int) = oneI l (i : Int) := by
  have e := onesN_in l i (i + 1) (by omega) (by omega)
  rw [show ((i : Int) + 1) = ((i + 1 : Nat) : Int) by omega, e]
  rw [show i + 1 - i = 1 by omega]
  have ed : l.drop i = l.getD i false :: l.drop (i + 1) := by
    rw [List.drop_eq_getElem_cons h]; simp [List.getD_eq_getElem?_getD, h]
  rw [ed]
  simp only [List.take_succ_cons, List.take_zero, cnt, oneI, getB, Int.toNat_natCast]
  simp only [List.getD_eq_getElem?_getD]
  by_cases hb : l[i]?.getD false = true <;> simp [hb]

theorem cnt_snoc (l : List Bool) (i : Nat) (h : i < l.length) : (cnt (l.take (i + 1)) : Int) = (cnt (l.take i) : Int) + oneI l (i : Int) := by
  rw [take_snoc l i _ h rfl, cnt_append]
  simp only [cnt, oneI, getB, Int.toNat_natCast]
  simp only [List.getD_eq_getElem?_getD]
  by_cases hb : l[i]?.getD false = true <;> simp [hb]

theorem onesN_all (l : List Bool) : onesN l 0 (l.length : Int) = cnt l := by
  have := onesN_in l 0 l.length (by omega) (by omega)
  simpa using this

theorem onesN_split (l : List Bool) (k : Nat) (h : k ≤ l.length) : onesN l 0 (k : Int) + onesN l (k : Int) (l.length : Int) = cnt l := by
  have e1 := onesN_in l 0 k (by omega) h
  have e2 := onesN_in l k l.length h (by omega)
  simp only [Int.natCast_zero] at e1
  rw [e1, e2, ← cnt_append]
  congr 1
  simp only [List.drop_zero, Nat.sub_zero]
  rw [List.take_of_length_le (l := l.drop k) (by simp)]
  exact List.take_append_drop k l

theorem onesN_none (l : List Bool) (k : Nat) (h : k ≤ l.length) : onesN l (k : Int) (k : Int) = 0 := by
  rw [onesN_in l k k (by omega) h]; simp [cnt]

/-- A row that was made, in its box. -/
def Rw (w : World) (b g : Nat) (l : List Bool) (u : World) : Prop :=
  Bx u b l.length (.slice (some ⟨g, 0, none⟩) (nw l.length) (nw l.length)) ∧ RowAt u (.slice (some ⟨g, 0, none⟩) (nw l.length) (nw l.length)) l ∧ Below w.heap.size w u
theorem Rw.kept {w u u' : World} {b g : Nat} {l : List Bool} (h : Rw w b g l u) (hb : Below u.heap.size u u') : Rw w b g l u' :=
  ⟨h.1.kept hb, h.2.1.kept hb, h.2.2.trans (hb.mono h.2.2.size)⟩
theorem Rw.drew {w u : World} {b g : Nat} {l : List Bool} (h : Rw w b g l u) : Rw w b g l u.drew := h.kept ((Below.refl _ _).drew)

theorem ones_rw {w u : World} {b g : Nat} {l : List Bool} (n m : Nat) (x y : Int) (h : Rw w b g l u) (hn : l.length = n) (hm : nw n = m) (hl : n ≤ 300) :
    Calls Try.prog 22 #[.agg #[.int .i64 (n : Int), .slice (some ⟨g, 0, none⟩) m m], .int .i64 x, .int .i64 y] u fun e w' => e = .returned (.int .i64 (onesN l x y : Nat)) ∧ Rw w b g l w' := by
  subst hn hm
  exact (ones_any _ _ _ l x y u h.2.1 (by omega)).mono fun e w' hh => ⟨hh.1, h.kept hh.2⟩
theorem one_rw {w u : World} {b g : Nat} {l : List Bool} (n m : Nat) (x : Int) (h : Rw w b g l u) (hn : l.length = n) (hm : nw n = m) (hl : n ≤ 300) :
    Calls Try.prog 21 #[.agg #[.int .i64 (n : Int), .slice (some ⟨g, 0, none⟩) m m], .int .i64 x] u fun e w' => e = .returned (.int .i64 (oneI l x)) ∧ Rw w b g l w' := by
  subst hn hm
  exact (one_any _ l x u h.2.1 (by omega)).mono fun e w' hh => ⟨hh.1, h.kept hh.2⟩
theorem len_rw {w u : World} {b g : Nat} {l : List Bool} (n m : Nat) (h : Rw w b g l u) (hn : l.length = n) (hm : nw n = m) :
    Calls Try.prog 20 #[.agg #[.int .i64 (n : Int), .slice (some ⟨g, 0, none⟩) m m]] u fun e w' => e = .returned (.int .i64 (n : Int)) ∧ Rw w b g l w' := by
  subst hn hm
  exact (len_any _ l u h.2.1).mono fun e w' hh => ⟨hh.1, h.kept hh.2⟩

theorem oneI_01 (l : List Bool) (i : Int) : 0 ≤ oneI l i ∧ oneI l i ≤ 1 := by unfold oneI; split <;> omega

set_option maxHeartbeats 1000000 in
theorem count_walk1 (a1 : Option Addr) (c1 : Nat) (x : List Bool) (at' : Int) (w : World) (hx : x.length ≤ 300) (h1 : BoolsAt w a1 x)
    (n1 : Nat) (e1 : min n1 300 = x.length) (k1 : n1 ≤ c1) (m1 : c1 ≤ maxLen) :
    Calls Try.prog 7 #[.slice a1 n1 c1, .int .i64 at'] w fun e w' => e = .returned (.bool true) ∧ Below w.heap.size w w' := by
  have hf1 := fun w => few_any a1 n1 c1 w k1 m1
  rw [e1] at hf1
  have hmk := fun u (hb : Below w.heap.size w u) => make_any a1 c1 x u (h1.kept hb) (by omega)
  have HF := Lib.hid (And.intro hf1 hmk)
  clear hf1 e1 h1 hmk
  unfold maxLen at m1
  generalize hlx : x.length = lx at *
  generalize hnx : nw lx = mx at *
  have HL := Lib.hid (And.intro hlx hnx)
  clear hlx hnx
  have htm : ∃ k : Nat, k ≤ lx ∧ (at'.tmod ((lx : Int) + 1) = (k : Int) ∨ (at'.tmod ((lx : Int) + 1) = -(k : Int) ∧ 0 < k)) := by
    have h1 := Int.tmod_lt_of_pos at' (b := (lx : Int) + 1) (by omega)
    have h2 := Int.lt_tmod_of_pos at' (b := (lx : Int) + 1) (by omega)
    by_cases h : 0 ≤ at'.tmod ((lx : Int) + 1)
    · exact ⟨(at'.tmod ((lx : Int) + 1)).toNat, by omega, .inl (by omega)⟩
    · exact ⟨(-(at'.tmod ((lx : Int) + 1))).toNat, by omega, .inr ⟨by omega, by omega⟩⟩
  obtain ⟨k, hk, ht⟩ := htm
  have q1 : IntKind.i64.wrap ((lx : Int) + 1) = (lx : Int) + 1 := IntWalk.i64_in _ (by omega)
  clear q1
  rcases ht with ht | ⟨ht, hk0⟩
  all_goals
    go_enter Try.func7, Try.ntmps7
    go_wp2_with fail
    refine (awake_any _).mono ?_
    rintro e w1 ⟨rfl, hb1⟩
    have HW := Lib.hid hb1
    clear hb1
    go_wp2_with fail
    refine (HF.out.1 _).mono ?_
    rintro e w' ⟨rfl, rfl⟩
    go_wp2_with fail
    have hm2 := HF.out.2 w1 HW.out
    refine hm2.mono ?_
    clear hm2
    rintro e w2 ⟨rfl, hr2, hb2⟩
    have hal2 : Below w2.heap.size w2 (w2.alloc (.cells #[.int .i64 (lx : Int), .slice (some ⟨w1.heap.size + 1, 0, none⟩) mx mx] 28)) := (Below.refl _ _).alloc (Nat.le_refl _) _
    have hR : Rw w w2.heap.size (w1.heap.size + 1) x (w2.alloc (.cells #[.int .i64 (lx : Int), .slice (some ⟨w1.heap.size + 1, 0, none⟩) mx mx] 28)) := by
      unfold Rw
      rw [HL.out.1, HL.out.2]
      exact ⟨Bx.new w2 lx _, hr2.kept hal2, (HW.out.trans (hb2.mono HW.out.size)).trans (hal2.mono (Nat.le_trans HW.out.size hb2.size))⟩
    have HR := Lib.hid hR
    clear hR hal2 hr2 hb2 HF HW
    go_wp2_with fail
    generalize (w2.alloc (.cells #[.int .i64 (lx : Int), .slice (some ⟨w1.heap.size + 1, 0, none⟩) mx mx] 28)) = w3 at *
    generalize w2.heap.size = b1 at *
    generalize w1.heap.size + 1 = g1 at *
    refine (len_rw _ _ HR.out HL.out.1 HL.out.2).mono ?_
    rintro e w4 ⟨rfl, hR4⟩
    have HR4 := Lib.hid hR4
    clear hR4 HR
    go_wp2
    go_loopw [9, 10] (fun v9 v10 wr => ∃ i : Nat, i ≤ lx ∧ v10 = .int .i64 (i : Int) ∧ v9 = .int .i64 (cnt (x.take i) : Nat) ∧ Rw w b1 g1 x wr) (fun _ v10 _ => lx - (intOf v10).toNat)
    case atStart => exact ⟨0, Nat.zero_le _, rfl, rfl, HR4.out⟩
    case round =>
      obtain ⟨i, hi, rfl, rfl, hR⟩ := hrel
      have hl1 : (x.length : Nat) = lx := HL.out.1
      obtain ⟨l1, l2⟩ := hR.1
      rw [hl1] at l1 l2
      rw [HL.out.2] at l2
      by_cases hlt : i < lx
      · have hone := onesN_one x i (by omega)
        have hsn := cnt_snoc x i (by omega)
        have h01 := oneI_01 x (i : Int)
        have hcl : cnt (x.take i) ≤ lx := by have := cnt_le (x.take i); simp at this; omega
        have HO := Lib.hid (And.intro hone hsn)
        clear hone hsn hl1
        have q1 : IntKind.i64.wrap ((i : Int) + 1) = (i : Int) + 1 := IntWalk.i64_in _ (by omega)
        go_wp2
        go_region_held3 (fun w' => w'.cell? ⟨b1, 0, none⟩ = some (.int .i64 (lx : Int)) ∧ w'.cell? ⟨b1, 1, none⟩ = some (.slice (some ⟨g1, 0, none⟩) mx mx))
          (first
            | go_keep
            | exact ⟨(hR.1.1).trans (by rw [HL.out.1]), (hR.1.2).trans (by rw [HL.out.1, HL.out.2])⟩)
          (first
            | (go_at_call 22; (with_reducible refine (ones_rw _ _ _ _ hR.drew HL.out.1 HL.out.2 hx).mono ?_); rintro e u ⟨rfl, hR⟩)
            | (go_at_call 21; (with_reducible refine (one_rw _ _ _ hR HL.out.1 HL.out.2 hx).mono ?_); rintro e u ⟨rfl, hR⟩))
        all_goals
          have hne : ((onesN x (i : Int) ((i : Int) + 1) : Int) != oneI x (i : Int)) = false := by rw [HO.out.1]; simp
          obtain ⟨l1, l2⟩ := hR.1
          rw [HL.out.1] at l1 l2
          rw [HL.out.2] at l2
          clear q1
          go_wp2_with fail
          refine (one_rw _ _ _ hR HL.out.1 HL.out.2 hx).mono ?_
          clear hR l1 l2
          rintro e u2 ⟨rfl, hR⟩
          have HR2 := Lib.hid hR
          clear hR
          go_wp2
          go_roundw
          case rel => exact ⟨i + 1, by omega, by go_num, by rw [HO.out.2], HR2.out⟩
          case measure => simp [intOf]; omega
      · obtain rfl : i = lx := by omega
        have hti : x.take i = x := by rw [← hl1]; simp
        rw [hti]
        have hcl : cnt x ≤ i := by have := cnt_le x; omega
        have ha := onesN_all x
        have hb := onesN_split x k (by omega)
        have hc := onesN_none x k (by omega)
        rw [hl1] at ha hb
        have f1 : ((onesN x 0 (i : Int) : Int) == (cnt x : Int)) = true := by rw [ha]; simp
        have f2 : ((onesN x 0 (k : Int) : Int) + (onesN x (k : Int) (i : Int) : Int) == (cnt x : Int)) = true := by rw [← hb]; simp
        have f3 : ((onesN x (k : Int) (k : Int) : Int) == 0) = true := by rw [hc]; simp
        have q2 : IntKind.i64.wrap ((onesN x 0 (k : Int) : Int) + (onesN x (k : Int) (i : Int) : Int)) = (onesN x 0 (k : Int) : Int) + (onesN x (k : Int) (i : Int) : Int) := IntWalk.i64_in _ (by omega)
        clear hti ha hb hc hl1
        go_wp2
        go_region_held3 (fun w' => w'.cell? ⟨b1, 0, none⟩ = some (.int .i64 (i : Int)) ∧ w'.cell? ⟨b1, 1, none⟩ = some (.slice (some ⟨g1, 0, none⟩) mx mx))
          (first
            | go_keep
            | exact ⟨(hR.1.1).trans (by rw [HL.out.1]), (hR.1.2).trans (by rw [HL.out.1, HL.out.2])⟩)
          (first
            | (go_at_call 22; (with_reducible refine (ones_rw _ _ _ _ hR HL.out.1 HL.out.2 hx).mono ?_); rintro e u ⟨rfl, hR⟩)
            | (go_at_call 22; (with_reducible refine (ones_rw _ _ _ _ hR.drew HL.out.1 HL.out.2 hx).mono ?_); rintro e u ⟨rfl, hR⟩))
        all_goals
          have HR2 := Lib.hid hR
          clear hR
          go_wp2
          go_ret
          exact ⟨rfl, HR2.out.2.2⟩

end Go.Proofs.Ytpbemhcibhnhkaa
