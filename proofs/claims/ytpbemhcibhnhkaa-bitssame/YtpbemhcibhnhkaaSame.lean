/- The walk of BitsSame. -/
import Derived.Test.YtpbemhcibhnhkaaQ
namespace Go.Proofs.Ytpbemhcibhnhkaa
open Go.RowKit
open M

theorem take_eq_snoc (x y : List Bool) (i : Nat) (hx : i < x.length) (hy : i < y.length) :
    decide (x.take (i + 1) = y.take (i + 1)) = (decide (x.take i = y.take i) && (x.getD i false == y.getD i false)) := by
  rw [take_snoc x i _ hx rfl, take_snoc y i _ hy rfl]
  rw [Bool.eq_iff_iff]
  simp only [decide_eq_true_eq, Bool.and_eq_true, beq_iff_eq]
  constructor
  · intro h
    have := List.append_inj' h rfl
    exact ⟨this.1, by simpa using this.2⟩
  · rintro ⟨h1, h2⟩; rw [h1, h2]

def isB (x y : List Bool) (i : Nat) : Bool := decide (x.length = y.length) && decide (x.take i = y.take i)

theorem isB_end (x y : List Bool) (i : Nat) (h3 : ¬ (i < x.length ∧ i < y.length)) : isB x y i = decide (x = y) := by
  unfold isB
  by_cases hl : x.length = y.length
  · rw [List.take_of_length_le (by omega), List.take_of_length_le (by omega)]; simp [hl]
  · have : x ≠ y := fun e => hl (by rw [e])
    simp [hl, this]

theorem isB_succ (x y : List Bool) (i : Nat) (h1 : i < x.length) (h2 : i < y.length) : isB x y (i + 1) = (isB x y i && (x.getD i false == y.getD i false)) := by
  unfold isB
  rw [take_eq_snoc x y i h1 h2, Bool.and_assoc]

/-- Two rows that were made, each in its box. -/
def Two (w : World) (b1 b2 g1 g2 : Nat) (x y : List Bool) (u : World) : Prop :=
  Bx u b1 x.length (.slice (some ⟨g1, 0, none⟩) (nw x.length) (nw x.length)) ∧ RowAt u (.slice (some ⟨g1, 0, none⟩) (nw x.length) (nw x.length)) x ∧
  Bx u b2 y.length (.slice (some ⟨g2, 0, none⟩) (nw y.length) (nw y.length)) ∧ RowAt u (.slice (some ⟨g2, 0, none⟩) (nw y.length) (nw y.length)) y ∧ Below w.heap.size w u
theorem Two.kept {w u u' : World} {b1 b2 g1 g2 : Nat} {x y : List Bool} (h : Two w b1 b2 g1 g2 x y u) (hb : Below u.heap.size u u') : Two w b1 b2 g1 g2 x y u' :=
  ⟨h.1.kept hb, h.2.1.kept hb, h.2.2.1.kept hb, h.2.2.2.1.kept hb, h.2.2.2.2.trans (hb.mono h.2.2.2.2.size)⟩

theorem same_rows (g1 g2 : Nat) (x y : List Bool) (w : World) (h1 : RowAt w (.slice (some ⟨g1, 0, none⟩) (nw x.length) (nw x.length)) x) (h2 : RowAt w (.slice (some ⟨g2, 0, none⟩) (nw y.length) (nw y.length)) y) (hx : x.length ≤ 300) :
    Calls Try.prog 33 #[.agg #[.int .i64 (x.length : Int), .slice (some ⟨g1, 0, none⟩) (nw x.length) (nw x.length)], .agg #[.int .i64 (y.length : Int), .slice (some ⟨g2, 0, none⟩) (nw y.length) (nw y.length)]] w
      fun e w' => e = .returned (.bool (decide (x = y))) ∧ Below w.heap.size w w' := same_any _ _ _ _ _ _ x y w h1 h2 (by omega)

set_option maxHeartbeats 1000000 in
theorem same_walk1 (a1 a2 : Option Addr) (c1 c2 : Nat) (x y : List Bool) (w : World) (hx : x.length ≤ 300) (hy : y.length ≤ 300) (h1 : BoolsAt w a1 x) (h2 : BoolsAt w a2 y)
    (n1 n2 : Nat) (e1 : min n1 300 = x.length) (e2 : min n2 300 = y.length) (k1 : n1 ≤ c1) (k2 : n2 ≤ c2) (m1 : c1 ≤ maxLen) (m2 : c2 ≤ maxLen) :
    Calls Try.prog 8 #[.slice a1 n1 c1, .slice a2 n2 c2] w fun e w' => e = .returned (.bool true) ∧ Below w.heap.size w w' := by
  have hf1 := fun w => few_any a1 n1 c1 w k1 m1
  have hf2 := fun w => few_any a2 n2 c2 w k2 m2
  rw [e1] at hf1
  rw [e2] at hf2
  have HF := Lib.hid (And.intro hf1 hf2)
  have H1 := Lib.hid h1
  have H2 := Lib.hid h2
  clear hf1 hf2 e1 e2 h1 h2
  unfold maxLen at m1 m2
  have hb0 : Value.bool ((x.length : Int) == (y.length : Int)) = .bool (isB x y 0) := by
    simp only [isB, List.take_zero, decide_true, Bool.and_true, Value.bool.injEq]
    rw [Bool.eq_iff_iff]; simp; omega
  have HB0 := Lib.hid hb0
  clear hb0
  generalize hlx : x.length = lx at *
  generalize hly : y.length = ly at *
  have HL := Lib.hid (And.intro hlx hly)
  clear hlx hly
  go_enter Try.func8, Try.ntmps8
  go_wp2_with fail
  refine (awake_any _).mono ?_
  rintro e w1 ⟨rfl, hb1⟩
  have HW := Lib.hid hb1
  clear hb1
  go_wp2_with fail
  refine (HF.out.1 _).mono ?_
  rintro e w' ⟨rfl, rfl⟩
  go_wp2_with fail
  refine (HF.out.2 _).mono ?_
  rintro e w' ⟨rfl, rfl⟩
  go_wp2
  go_loopw [8, 9] (fun v8 v9 wr => ∃ i : Nat, i ≤ lx ∧ i ≤ ly ∧ v9 = .int .i64 (i : Int) ∧ v8 = .bool (isB x y i) ∧ Below w.heap.size w wr) (fun _ v9 _ => lx - (intOf v9).toNat)
  case atStart => exact ⟨0, Nat.zero_le _, Nat.zero_le _, rfl, HB0.out, HW.out⟩
  case round =>
    obtain ⟨i, hi1, hi2, rfl, rfl, hbel⟩ := hrel
    obtain ⟨hlx, hly⟩ := HL.out
    by_cases hlt : i < lx ∧ i < ly
    · obtain ⟨hl1, hl2⟩ := hlt
      have hs := isB_succ x y i (by omega) (by omega)
      have g1 := H1.out.kept hbel
      have g2 := H2.out.kept hbel
      rcases g1 with hnil | ⟨b1, o1, rfl, hb1, hc1⟩
      · subst hnil; simp at hlx; omega
      rcases g2 with hnil | ⟨b2, o2, rfl, hb2, hc2⟩
      · subst hnil; simp at hly; omega
      have d1 := hc1 i (by omega)
      have d2 := hc2 i (by omega)
      have HS := Lib.hid (And.intro hs hbel)
      clear hc1 hc2 hs hbel hlx hly
      generalize x.getD i false = p at *
      generalize y.getD i false = q at *
      generalize hbv : isB x y i = bv at *
      have q1 : (i : Int) < (lx : Int) := by omega
      have q2 : (i : Int) < (ly : Int) := by omega
      have q3 : (0 : Int) ≤ (i : Int) := by omega
      clear hbv
      cases bv
      · go_wp2
        go_quiet (fail)
        go_wp2
        go_roundw
        case rel => exact ⟨i + 1, by omega, by omega, by go_num, by rw [HS.out.1]; rfl, below_drewN HS.out.2 _⟩
        case measure => simp [intOf]; omega
      · go_wp2
        go_quiet (fail)
        go_wp2
        go_roundw
        case rel => exact ⟨i + 1, by omega, by omega, by go_num, by rw [HS.out.1]; rfl, below_drewN HS.out.2 _⟩
        case measure => simp [intOf]; omega
    · have hend := isB_end x y i (by omega)
      rw [hend]
      have hmk1 := make_any a1 c1 x wr (H1.out.kept hbel) (by omega)
      rw [hlx] at hmk1
      have HM1 := Lib.hid hmk1
      have HB := Lib.hid hbel
      clear hend hbel hmk1
      have hd2 : decide (y = x) = decide (x = y) := by rw [Bool.eq_iff_iff]; simp [eq_comm]
      generalize hd : decide (x = y) = dv at *
      have HD := Lib.hid (And.intro hd hd2)
      clear hd hd2 hlx hly
      by_cases hl1 : i < lx
      all_goals
        go_wp2_with fail
        refine HM1.out.mono ?_
        rintro e w2 ⟨rfl, hr2, hb2⟩
        have hz := HB.out.size
        have hal2 : Below w2.heap.size w2 (w2.alloc (.cells #[.int .i64 (lx : Int), .slice (some ⟨wr.heap.size + 1, 0, none⟩) (nw lx) (nw lx)] 28)) := (Below.refl _ _).alloc (Nat.le_refl _) _
        have hB3 : Below w.heap.size w (w2.alloc (.cells #[.int .i64 (lx : Int), .slice (some ⟨wr.heap.size + 1, 0, none⟩) (nw lx) (nw lx)] 28)) := (HB.out.trans (hb2.mono hz)).trans (hal2.mono (Nat.le_trans hz hb2.size))
        have hmk2 := make_any a2 c2 y _ (H2.out.kept hB3) (by rw [HL.out.2]; omega)
        rw [HL.out.2] at hmk2
        have hr3 := hr2.kept hal2
        have hx3 := Bx.new w2 lx (.slice (some ⟨wr.heap.size + 1, 0, none⟩) (nw lx) (nw lx))
        have H3 := Lib.hid (And.intro hmk2 (And.intro hr3 (And.intro hx3 hB3)))
        clear hmk2 hr3 hx3 hB3 hal2 hb2 hr2 hz HM1 HB
        go_wp2_with fail
        generalize (w2.alloc (.cells #[.int .i64 (lx : Int), .slice (some ⟨wr.heap.size + 1, 0, none⟩) (nw lx) (nw lx)] 28)) = w3 at *
        refine H3.out.1.mono ?_
        rintro e w4 ⟨rfl, hr4, hb4⟩
        obtain ⟨-, hr3, hx3, hB3⟩ := H3.out
        have hal4 : Below w4.heap.size w4 (w4.alloc (.cells #[.int .i64 (ly : Int), .slice (some ⟨w3.heap.size + 1, 0, none⟩) (nw ly) (nw ly)] 28)) := (Below.refl _ _).alloc (Nat.le_refl _) _
        have hT : Two w w2.heap.size w4.heap.size (wr.heap.size + 1) (w3.heap.size + 1) x y (w4.alloc (.cells #[.int .i64 (ly : Int), .slice (some ⟨w3.heap.size + 1, 0, none⟩) (nw ly) (nw ly)] 28)) := by
          unfold Two
          rw [HL.out.1, HL.out.2]
          exact ⟨(hx3.kept hb4).kept hal4, (hr3.kept hb4).kept hal4, Bx.new w4 ly _, hr4.kept hal4, (hB3.trans (hb4.mono hB3.size)).trans (hal4.mono (Nat.le_trans hB3.size hb4.size))⟩
        have HT := Lib.hid hT
        have l0 := (hx3.kept hb4).lt
        have l1 := (hx3.kept hb4).1
        have l2 := (hx3.kept hb4).2
        clear hT hal4 hB3 hx3 hr3 hb4 hr4 H3
        generalize w2.heap.size = b1 at *
        generalize wr.heap.size + 1 = g1 at *
        generalize w3.heap.size + 1 = g2 at *
        go_wp2_with fail
        have hs1 := same_rows _ _ x y _ HT.out.2.1 HT.out.2.2.2.1 (by rw [HL.out.1]; exact hx)
        rw [HL.out.1, HL.out.2, HD.out.1] at hs1
        refine hs1.mono ?_
        clear hs1 l0 l1 l2
        rintro e w6 ⟨rfl, hb6⟩
        have hT := HT.out.kept hb6
        have HT := Lib.hid hT
        obtain ⟨⟨l1, l2⟩, -, ⟨l3, l4⟩, -⟩ := hT
        rw [HL.out.1] at l1 l2
        rw [HL.out.2] at l3 l4
        clear hb6
        cases dv
        all_goals
          go_wp2_with fail
          have hs2 := same_rows _ _ y x _ HT.out.2.2.2.1 HT.out.2.1 (by rw [HL.out.2]; exact hy)
          rw [HL.out.1, HL.out.2, HD.out.2] at hs2
          refine hs2.mono ?_
          clear hs2 l1 l2 l3 l4
          rintro e w7 ⟨rfl, hb7⟩
          have hT := HT.out.kept hb7
          have HT := Lib.hid hT
          obtain ⟨⟨l1, l2⟩, -, ⟨l3, l4⟩, -⟩ := hT
          rw [HL.out.1] at l1 l2
          rw [HL.out.2] at l3 l4
          clear hb7
          go_wp2_with fail
          have hs3 := same_rows _ _ x x _ HT.out.2.1 HT.out.2.1 (by rw [HL.out.1]; exact hx)
          rw [HL.out.1, decide_eq_true rfl] at hs3
          refine hs3.mono ?_
          clear hs3 l1 l2 l3 l4
          rintro e w8 ⟨rfl, hb8⟩
          have hB8 := HT.out.2.2.2.2.trans (hb8.mono HT.out.2.2.2.2.size)
          have HB8 := Lib.hid hB8
          clear hb8 hB8
          go_wp2
          go_ret
          exact ⟨rfl, HB8.out⟩

end Go.Proofs.Ytpbemhcibhnhkaa
