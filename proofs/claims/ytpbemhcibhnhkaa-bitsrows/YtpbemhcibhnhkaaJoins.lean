/- The walk of BitsJoins. -/
import Derived.Test.YtpbemhcibhnhkaaR
import Derived.Test.YtpbemhcibhnhkaaCount
namespace Go.Proofs.Ytpbemhcibhnhkaa
open Go.RowKit
open M
attribute [local go_sem ↓] Go.wp_at_zero Go.wp_at_succ

/-- While bits are added: the builder zb has those of all up to i; its words lie behind L; all is a slice at a3, ahead of L. -/
def JI (w : World) (zb L : Nat) (a3 : Option Addr) (all : List Bool) (c3 i : Nat) (u : World) : Prop :=
  ∃ s, BuildAt u zb s (all.take i) ∧ (∀ k, s.ownBlock = some k → L ≤ k) ∧ SliceOf u a3 all.length c3 all ∧ (∀ b o, a3 = some ⟨b, o, none⟩ → b < L ∧ b ≠ zb) ∧ Below w.heap.size w u ∧ w.heap.size ≤ zb ∧ w.heap.size ≤ L

theorem SliceOf.kp {X : Nat → Prop} {w w' : World} {A : Option Addr} {n c : Nat} {l : List Bool} (h : SliceOf w A n c l) (hb : Kp X w w') (hx : ∀ b o, A = some ⟨b, o, none⟩ → ¬ X b) : SliceOf w' A n c l :=
  ⟨h.1, h.2.1, h.2.2.1, h.2.2.2.1.kp hb hx, h.2.2.2.2⟩

theorem JI.kept {w u u' : World} {zb L : Nat} {a3 : Option Addr} {all : List Bool} {c3 i : Nat} (h : JI w zb L a3 all c3 i u) (hb : Below u.heap.size u u') : JI w zb L a3 all c3 i u' := by
  obtain ⟨s, h1, h2, h5, h8, h9, h10, h11⟩ := h
  exact ⟨s, h1.kept hb, h2, h5.kept hb, h8, h9.trans (hb.mono h9.size), h10, h11⟩

theorem JI.add {w u u' : World} {zb L : Nat} {a3 : Option Addr} {all : List Bool} {c3 i : Nat} {s : Value} (h : JI w zb L a3 all c3 i u) (hsL : ∀ k, s.ownBlock = some k → L ≤ k) (hL : L ≤ u.heap.size)
    (hp : PutPost u zb s (all.take (i + 1)) u') : JI w zb L a3 all c3 (i + 1) u' := by
  obtain ⟨s0, -, -, h5, h8, h9, h10, h11⟩ := h
  obtain ⟨s', k1, k2, k3⟩ := hp
  have hX : ∀ k, k < L → k ≠ zb → ¬ PX zb s k := by
    rintro k hk hz (e | e)
    · exact hz e
    · have := hsL k e; omega
  refine ⟨s', k1, ?_, h5.kp k3 (fun b o e => hX b (h8 b o e).1 (h8 b o e).2), h8, h9.trans (k3.toBelow h9.size (fun k hk => hX k (by omega) (by omega))), h10, h11⟩
  intro k hk
  rcases k2 k hk with e | e
  · exact hsL k e
  · omega

theorem add_ji {w u : World} {zb L : Nat} {a3 : Option Addr} {all : List Bool} {c3 i : Nat} (h : JI w zb L a3 all c3 i u) (hL : L ≤ u.heap.size) (hi : i < all.length) (hl : all.length ≤ 300) (b : Bool) (hb : all.getD i false = b) :
    Calls Try.prog 31 #[.pointer (some ⟨zb, 0, none⟩), .bool b] u fun e w' => e = .returned (.int .i64 ((i + 1 : Nat) : Int)) ∧ JI w zb L a3 all c3 (i + 1) w' ∧ L ≤ w'.heap.size := by
  obtain ⟨s, h1, h2, -⟩ := id h
  obtain ⟨a, m, c, rfl⟩ := h1.form
  have hlen : (all.take i).length = i := by simp only [List.length_take]; omega
  refine (add_any zb a m c _ b u h1 (by omega)).mono ?_
  rintro e u' ⟨rfl, hp⟩
  rw [hlen]
  rw [← take_snoc all i b hi hb] at hp
  exact ⟨rfl, h.add h2 hL hp, Nat.le_trans hL hp.choose_spec.2.2.size⟩

theorem onesN_tail (x y : List Bool) : onesN (x ++ y) (x.length : Int) ((x ++ y).length : Int) = cnt y := by
  rw [onesN_in (x ++ y) x.length (x ++ y).length (by simp) (by omega)]
  simp

theorem JI.start {w w2 w4 : World} {v : Value} {all : List Bool} {zb : Nat} (hbd : BuildAt w4 zb (.slice none 0 0) []) (hown : w4.ownsRow w2.heap.size 4 1 v all.length (all.map Value.bool)) (hz : zb < w2.heap.size) (hB : Below w.heap.size w w4) (hzw : w.heap.size ≤ zb) :
    ∃ a3 c3, v = .slice a3 all.length c3 ∧ JI w zb w4.heap.size a3 all c3 0 w4 := by
  obtain ⟨a3, c3, rfl, hs⟩ := slice_of_own hown
  refine ⟨a3, c3, rfl, .slice none 0 0, by simpa using hbd, fun k hk => by simp [Value.ownBlock] at hk, hs, ?_, hB, hzw, hB.size⟩
  rintro b o rfl
  have := hown.lt b rfl
  exact ⟨this.2, by omega⟩

theorem make_sl (A : Option Addr) (n c : Nat) (l : List Bool) (w : World) (h : SliceOf w A n c l) (hn : n ≤ 300) :
    Calls Try.prog 13 #[.slice A n c] w fun e w' => e = .returned (.agg #[.int .i64 (n : Int), .slice (some ⟨w.heap.size + 1, 0, none⟩) (nw n) (nw n)]) ∧ RowAt w' (.slice (some ⟨w.heap.size + 1, 0, none⟩) (nw n) (nw n)) l ∧ Below w.heap.size w w' := by
  obtain ⟨rfl, -, -, h4, -⟩ := h
  exact make_any A c l w h4 (by omega)

theorem ones_sl (g n : Nat) (l : List Bool) (y : Int) (w : World) (h : RowAt w (.slice (some ⟨g, 0, none⟩) (nw n) (nw n)) l) (hn : l.length = n) (hl : n ≤ 300) (hy : y = (n : Int)) :
    Calls Try.prog 22 #[.agg #[.int .i64 (n : Int), .slice (some ⟨g, 0, none⟩) (nw n) (nw n)], .int .i64 0, .int .i64 y] w fun e w' => e = .returned (.int .i64 (cnt l : Nat)) ∧ Below w.heap.size w w' := by
  subst hn hy
  have := ones_any _ _ _ l 0 (l.length : Int) w h (by omega)
  rw [onesN_all] at this
  exact this

/-- How long a list is: under a name that stays. -/
def LenIs (l : List Bool) (n : Nat) : Prop := l.length = n
theorem LenIs.eq {l : List Bool} {n : Nat} (h : LenIs l n) : l.length = n := h

theorem ones_sl2 (g n : Nat) (l : List Bool) (z y : Int) (w : World) (h : RowAt w (.slice (some ⟨g, 0, none⟩) (nw n) (nw n)) l) (hn : LenIs l n) (hl : n ≤ 300) (hz : z = (n : Int)) (hy : y = (n : Int)) :
    Calls Try.prog 22 #[.agg #[.int .i64 z, .slice (some ⟨g, 0, none⟩) (nw n) (nw n)], .int .i64 0, .int .i64 y] w fun e w' => e = .returned (.int .i64 (cnt l : Nat)) ∧ Below w.heap.size w w' := by
  subst hz
  exact ones_sl g n l y w h hn hl hy

theorem SliceOf.len {w : World} {A : Option Addr} {n c : Nat} {l : List Bool} (h : SliceOf w A n c l) : LenIs l n := h.1

/-- Behind the loop: the builder has all bits; the row of all is made, in its box. -/
def JW (w : World) (zb b9 g9 : Nat) (all : List Bool) (u : World) : Prop := (∃ a m c, BuildAt u zb (.slice a m c) all) ∧ Rw w b9 g9 all u
theorem JW.kept {w u u' : World} {zb b9 g9 : Nat} {all : List Bool} (h : JW w zb b9 g9 all u) (hb : Below u.heap.size u u') : JW w zb b9 g9 all u' := by
  obtain ⟨⟨a, m, c, h1⟩, h2⟩ := h
  exact ⟨⟨a, m, c, h1.kept hb⟩, h2.kept hb⟩
theorem JW.below {w u : World} {zb b9 g9 : Nat} {all : List Bool} (h : JW w zb b9 g9 all u) : Below w.heap.size w u := h.2.2.2
theorem JW.drew {w u : World} {zb b9 g9 : Nat} {all : List Bool} (h : JW w zb b9 g9 all u) : JW w zb b9 g9 all u.drew := h.kept ((Below.refl _ _).drew)

def RowN (g n : Nat) (l : List Bool) (u : World) : Prop := RowAt u (.slice (some ⟨g, 0, none⟩) (nw n) (nw n)) l

theorem JW.cells {w u : World} {zb b9 g9 n : Nat} {all : List Bool} (h : JW w zb b9 g9 all u) (hn : LenIs all n) : u.cell? ⟨b9, 0, none⟩ = some (.int .i64 (n : Int)) ∧ u.cell? ⟨b9, 1, none⟩ = some (.slice (some ⟨g9, 0, none⟩) (nw n) (nw n)) := by
  obtain rfl := hn.eq
  exact h.2.1

theorem bits_jw {w u : World} {zb b9 g9 n : Nat} {all : List Bool} (g : Nat) (h : JW w zb b9 g9 all u) (hn : LenIs all n) (hl : n ≤ 300) (hg : u.heap.size + 1 = g) :
    Calls Try.prog 32 #[.pointer (some ⟨zb, 0, none⟩)] u fun e w' => e = .returned (.agg #[.int .i64 (n : Int), .slice (some ⟨g, 0, none⟩) (nw n) (nw n)]) ∧ JW w zb b9 g9 all w' ∧ RowN g n all w' := by
  obtain rfl := hn.eq
  subst hg
  obtain ⟨⟨a, m, c, h1⟩, -⟩ := id h
  exact (bits_any zb a m c all u h1 (by omega)).mono fun e w' hh => ⟨hh.1, h.kept hh.2.2, hh.2.1⟩

theorem same_jw {w u : World} {zb b9 g9 g n : Nat} {all : List Bool} (h : JW w zb b9 g9 all u) (hr : RowN g n all u) (hn : LenIs all n) (hl : n ≤ 300) :
    Calls Try.prog 33 #[.agg #[.int .i64 (n : Int), .slice (some ⟨g, 0, none⟩) (nw n) (nw n)], .agg #[.int .i64 (n : Int), .slice (some ⟨g9, 0, none⟩) (nw n) (nw n)]] u fun e w' => e = .returned (.bool true) ∧ JW w zb b9 g9 all w' := by
  obtain rfl := hn.eq
  have := same_any _ _ _ _ _ _ all all u hr h.2.2.1 (by omega)
  rw [decide_eq_true rfl] at this
  exact this.mono fun e w' hh => ⟨hh.1, h.kept hh.2⟩

theorem ones_jw0 {w u : World} {zb b9 g9 n : Nat} {x y : List Bool} (h : JW w zb b9 g9 (x ++ y) u) (hn : LenIs (x ++ y) n) (hl : n ≤ 300) :
    Calls Try.prog 22 #[.agg #[.int .i64 (n : Int), .slice (some ⟨g9, 0, none⟩) (nw n) (nw n)], .int .i64 0, .int .i64 (n : Int)] u fun e w' => e = .returned (.int .i64 ((cnt x : Int) + (cnt y : Int))) ∧ JW w zb b9 g9 (x ++ y) w' := by
  obtain rfl := hn.eq
  have := ones_any _ _ _ (x ++ y) 0 ((x ++ y).length : Int) u h.2.2.1 (by omega)
  rw [onesN_all, cnt_append] at this
  exact this.mono fun e w' hh => ⟨hh.1, h.kept hh.2⟩

theorem ones_jw1 {w u : World} {zb b9 g9 n : Nat} {x y : List Bool} (z : Int) (h : JW w zb b9 g9 (x ++ y) u) (hn : LenIs (x ++ y) n) (hl : n ≤ 300) (hz : z = (x.length : Int)) :
    Calls Try.prog 22 #[.agg #[.int .i64 (n : Int), .slice (some ⟨g9, 0, none⟩) (nw n) (nw n)], .int .i64 z, .int .i64 (n : Int)] u fun e w' => e = .returned (.int .i64 (cnt y : Nat)) ∧ JW w zb b9 g9 (x ++ y) w' := by
  obtain rfl := hn.eq
  subst hz
  have := ones_any _ _ _ (x ++ y) (x.length : Int) ((x ++ y).length : Int) u h.2.2.1 (by omega)
  rw [onesN_tail] at this
  exact this.mono fun e w' hh => ⟨hh.1, h.kept hh.2⟩

set_option maxHeartbeats 2000000 in
theorem joins_core (a1 a2 : Option Addr) (n1 n2 q1 q2 c1 c2 : Nat) (x y : List Bool) (w : World) (G1 : SliceOf w a1 q1 c1 x) (G2 : SliceOf w a2 q2 c2 y) (k1 : n1 ≤ c1) (k2 : n2 ≤ c2)
    (hq1 : (150 < n1 ∧ q1 = 150) ∨ (n1 ≤ 150 ∧ n1 = q1)) (hq2 : (150 < n2 ∧ q2 = 150) ∨ (n2 ≤ 150 ∧ n2 = q2)) :
    Calls Try.prog 10 #[.slice a1 n1 c1, .slice a2 n2 c2] w fun e w' => e = .returned (.bool true) ∧ Below w.heap.size w w' := by
  have m1 := G1.2.2.1
  have m2 := G2.2.2.1
  unfold maxLen at m1 m2
  have HG := Lib.hid (And.intro G1 G2)
  clear G1 G2
  rcases hq1 with ⟨t1, rfl⟩ | ⟨t1, rfl⟩
  all_goals
    rcases hq2 with ⟨t2, rfl⟩ | ⟨t2, rfl⟩
    all_goals
      go_enter Try.func10, Try.ntmps10
      go_wp2_with fail
      refine (awake_any _).mono ?_
      rintro e w1 ⟨rfl, hbw1⟩
      have HW := Lib.hid hbw1
      clear hbw1
      go_wp2_with fail
      refine (new_any _).mono ?_
      rintro e w2 ⟨rfl, hbd, hb2⟩
      have hB2 := HW.out.trans (hb2.mono HW.out.size)
      have hz2 := hbd.lt
      have S1 := HG.out.1.kept hB2
      have S2 := HG.out.2.kept hB2
      have HS := Lib.hid (And.intro S1 (And.intro S2 (And.intro hB2 hbd)))
      clear S1 S2 hB2 hbd hb2
      go_wp2_with (first
        | (at_builtin
           refine wpList_append_bools rfl (.tmp 25) (.tmp 26) rfl w2.heap.size (.slice none 0 0) 0 [] rfl (World.ownsRow_nil _ _ _ _) a1 _ c1 x rfl HS.out.1 ?_ (Nat.le_refl _) ?_))
      · omega
      intro v1 w3 hown1 hg1 hat1
      have hB3 : Below w2.heap.size w2 w3 := (Below.refl _ _).grown hg1 (Nat.le_refl _) (by simp [Value.ownBlock])
      have H3 := Lib.hid (And.intro hown1 hB3)
      clear hown1 hg1 hat1 hB3
      go_wp2_with (first
        | (at_builtin
           refine wpList_append_bools rfl (.tmp 28) (.tmp 29) rfl w2.heap.size v1 _ _ rfl H3.out.1 a2 _ c2 y rfl (HS.out.2.1.kept H3.out.2) ?_ H3.out.2.size ?_))
      · omega
      intro v2 w4 hown2 hg2 hat2
      have hB4 : Below w2.heap.size w2 w4 := H3.out.2.grown hg2 H3.out.2.size (fun k hk => (H3.out.1.lt k hk).1)
      obtain ⟨a3, c3, rfl, hJ⟩ := JI.start (w := w) (all := x ++ y) (HS.out.2.2.2.kept hB4) (by
        have e1 := HG.out.1.1
        have e2 := HG.out.2.1
        rw [List.length_append, List.map_append, e1, e2]
        simpa using hown2) hz2 (HS.out.2.2.1.trans (hB4.mono HS.out.2.2.1.size)) HW.out.size
      have hN : (x ++ y).length ≤ 300 := by
        have e1 := HG.out.1.1
        have e2 := HG.out.2.1
        rw [List.length_append]; omega
      have HJ := Lib.hid hJ
      clear hJ hown2 hg2 hat2 hB4 H3 HS
      generalize hall : x ++ y = all at *
      generalize hNl : all.length = N at *
      have HA := Lib.hid (And.intro hall hNl)
      clear hall hNl
      go_wp2
      go_loopw [8] (fun v wr => ∃ i : Nat, i ≤ N ∧ v = .int .i64 (i : Int) ∧ JI w w1.heap.size w4.heap.size a3 all c3 i wr ∧ w4.heap.size ≤ wr.heap.size) (fun v _ => N - (intOf v).toNat)
      case atStart => exact ⟨0, Nat.zero_le _, rfl, HJ.out, Nat.le_refl _⟩
      case round =>
        obtain ⟨i, hi, rfl, hJ, hL⟩ := hrel
        by_cases hlt : i < N
        · have hsl := hJ.choose_spec.2.2.1
          rcases hsl.2.2.2.1 with hnil | ⟨b, off, rfl, hbs, hcs⟩
          · have := HA.out.2; subst hnil; simp at this; omega
          have hcb := hcs i (by rw [HA.out.2]; exact hlt)
          generalize hbv : all.getD i false = bv at *
          have hadd := add_ji hJ hL (by rw [HA.out.2]; exact hlt) (by rw [HA.out.2]; exact hN) bv hbv
          have HADD := Lib.hid hadd
          clear hadd hJ hsl hcs hbv hL
          go_wp2_with fail
          refine HADD.out.mono ?_
          clear HADD hcb hbs
          rintro e u ⟨rfl, hJ, hL⟩
          have HJ2 := Lib.hid (And.intro hJ hL)
          clear hJ hL
          go_wp2
          go_roundw
          case rel => exact ⟨i + 1, by omega, by go_num, HJ2.out.1, HJ2.out.2⟩
          case measure => simp [intOf]; omega
        · obtain rfl : i = N := by omega
          obtain ⟨s9, hbd, -, hsl, -, hBr, -⟩ := id hJ
          rw [HA.out.2] at hsl
          have hmk := make_sl a3 i c3 all wr hsl hN
          rw [show all.take i = all by rw [← HA.out.2]; simp] at hbd
          have HM := Lib.hid (And.intro hmk (And.intro hBr (And.intro hbd.form (And.intro hbd hsl))))
          clear hsl hmk hBr hbd hJ hL HJ
          go_wp2_with fail
          refine HM.out.1.mono ?_
          rintro e w5 ⟨rfl, hr5, hb5⟩
          have hal : Below w5.heap.size w5 (w5.alloc (.cells #[.int .i64 (i : Int), .slice (some ⟨wr.heap.size + 1, 0, none⟩) (nw i) (nw i)] 28)) := (Below.refl _ _).alloc (Nat.le_refl _) _
          have hBW : Below w.heap.size w (w5.alloc (.cells #[.int .i64 (i : Int), .slice (some ⟨wr.heap.size + 1, 0, none⟩) (nw i) (nw i)] 28)) := (HM.out.2.1.trans (hb5.mono HM.out.2.1.size)).trans (hal.mono (Nat.le_trans HM.out.2.1.size hb5.size))
          have hJW : JW w w1.heap.size w5.heap.size (wr.heap.size + 1) all (w5.alloc (.cells #[.int .i64 (i : Int), .slice (some ⟨wr.heap.size + 1, 0, none⟩) (nw i) (nw i)] 28)) := by
            obtain ⟨-, -, hf, hbd, -⟩ := HM.out
            refine ⟨?_, ?_⟩
            · obtain ⟨a, m, c, e⟩ := hf
              rw [e] at hbd
              exact ⟨a, m, c, (hbd.kept hb5).kept hal⟩
            · unfold Rw
              rw [HA.out.2]
              exact ⟨Bx.new w5 i _, hr5.kept hal, hBW⟩
          have HJW := Lib.hid (And.intro hJW hBW)
          clear hJW hBW hal hr5 hb5 HM
          go_wp2_with fail
          generalize (w5.alloc (.cells #[.int .i64 (i : Int), .slice (some ⟨wr.heap.size + 1, 0, none⟩) (nw i) (nw i)] 28)) = w6 at *
          generalize w5.heap.size = b9 at *
          generalize wr.heap.size + 1 = g9 at *
          refine (make_sl a1 _ c1 x w6 (HG.out.1.kept HJW.out.2) (by omega)).mono ?_
          rintro e w7 ⟨rfl, hr7, hb7⟩
          have H7 := Lib.hid (And.intro hr7 (And.intro (HJW.out.1.kept hb7) (HJW.out.2.trans (hb7.mono HJW.out.2.size))))
          clear hr7 hb7 HJW
          go_wp2_with fail
          refine (ones_sl _ _ x _ w7 H7.out.1 HG.out.1.1 (by omega) (by omega)).mono ?_
          rintro e w8 ⟨rfl, hb8⟩
          have H8 := Lib.hid (And.intro (H7.out.2.1.kept hb8) (H7.out.2.2.trans (hb8.mono H7.out.2.2.size)))
          clear hb8 H7
          go_wp2_with fail
          refine (make_sl a2 _ c2 y w8 (HG.out.2.kept H8.out.2) (by omega)).mono ?_
          rintro e w9 ⟨rfl, hr9, hb9⟩
          have H9 := Lib.hid (And.intro hr9 (And.intro (H8.out.1.kept hb9) (H8.out.2.trans (hb9.mono H8.out.2.size))))
          clear hr9 hb9 H8
          go_wp2_with fail
          refine (ones_sl _ _ y _ w9 H9.out.1 HG.out.2.1 (by omega) (by omega)).mono ?_
          rintro e w10 ⟨rfl, hb10⟩
          have hj := H9.out.2.1.kept hb10
          have hcx : cnt x ≤ 300 := by have := cnt_le x; have := HG.out.1.1; omega
          have hcy : cnt y ≤ 300 := by have := cnt_le y; have := HG.out.2.1; omega
          clear hb10 H9
          go_wp2
          obtain ⟨hall, hNl⟩ := HA.out
          subst hall
          clear HA
          obtain ⟨l1, l2⟩ := hj.2.1
          rw [hNl] at l1 l2
          have HNL : LenIs (x ++ y) i := hNl
          have HLY := HG.out.2.len
          clear hNl
          go_region_held3 (fun w' => w'.cell? ⟨b9, 0, none⟩ = some (.int .i64 (i : Int)) ∧ w'.cell? ⟨b9, 1, none⟩ = some (.slice (some ⟨g9, 0, none⟩) (nw i) (nw i)))
            (first
              | go_keep
              | exact hj.cells HNL)
            (first
              | (go_at_call 32; (with_reducible refine (bits_jw (w10.heap.size + 1) hj.drew HNL hN rfl).mono ?_); rintro e u ⟨rfl, hj, hrn⟩)
              | (go_at_call 33; (with_reducible refine (same_jw hj hrn HNL hN).mono ?_); rintro e u ⟨rfl, hj⟩)
              | (go_at_call 22; (with_reducible refine (ones_jw0 hj HNL hN).mono ?_); rintro e u ⟨rfl, hj⟩)
              | (go_at_call 22; (with_reducible refine (ones_jw1 _ hj HNL hN ?_).mono ?_); (have := HG.out.1.1; omega); rintro e u ⟨rfl, hj⟩)
              | (go_at_call 13; (with_reducible refine (make_sl a2 _ c2 y _ (HG.out.2.kept hj.below) ?_).mono ?_); (omega); rintro e u ⟨rfl, hry, hbm⟩; have hj := hj.kept hbm)
              | (go_at_call 22; (with_reducible refine (ones_sl2 _ _ y _ _ _ hry HLY ?_ ?_ ?_).mono ?_); (omega); (omega); (omega); rintro e u ⟨rfl, hbm⟩; have hj := hj.kept hbm))
          all_goals
            have HF := Lib.hid hj.2.2.2
            clear hj
            go_wp2
            go_ret
            exact ⟨rfl, HF.out⟩

end Go.Proofs.Ytpbemhcibhnhkaa
