/- The walk of BitsBuilds. -/
import Derived.Test.YtpbemhcibhnhkaaBuildsA
import Derived.Test.YtpbemhcibhnhkaaReads
namespace Go.Proofs.Ytpbemhcibhnhkaa
open Go.RowKit
open M

theorem HD.sl5 {w u : World} {zb hb : Nat} {v7 s hs : Value} {L P W R : List Bool} {a : Option Addr} {n c : Nat} (h : HD w zb hb (.slice a n c) v7 L P W R s hs u) (hn : P.length = n) : SliceOf u a n c P := by
  obtain ⟨a', c', e, hs⟩ := slice_of_own h.r5
  simp only [Value.slice.injEq] at e
  obtain ⟨rfl, e2, rfl⟩ := e
  subst hn
  exact hs

theorem own_slice {w : World} {base n : Nat} {v : Value} {l : List Bool} (h : w.ownsRow base 4 1 v n (l.map Value.bool)) (hn : l.length = n) : ∃ a c, v = .slice a n c := by
  subst hn
  obtain ⟨a, c, e, -⟩ := slice_of_own h
  exact ⟨a, c, e⟩

theorem list_long (a : Option Addr) (k c m : Nat) (l : List Bool) (w : World) (h : RowAt w (.slice a k c) l) (hn : l.length = m) (hl : m ≤ 10000) :
    Calls Try.prog 19 #[.agg #[.int .i64 (m : Int), .slice a k c]] w fun e w' => (∃ a cap, e = .returned (.slice a m cap) ∧ BoolsAt w' a l) ∧ Below w.heap.size w w' := by
  subst hn
  refine (list_any _ _ _ l w h (by omega)).mono ?_
  rintro e w' ⟨v, rfl, ⟨a, cap, rfl, hb⟩, hbel⟩
  exact ⟨⟨a, cap, rfl, hb⟩, hbel⟩

set_option maxRecDepth 100000 in
set_option maxHeartbeats 4000000 in
theorem builds_core (a1 : Option Addr) (n1 c1 M : Nat) (os : List (Bool × Int × Int)) (w : World) (ho : os.length = n1) (hm1 : n1 ≤ 9223372036854775807) (hO : OpsAt w a1 os)
    (hwf : ∀ o ∈ os, (Lit.int .u64 o.2.1).wf = true ∧ (Lit.int .i64 o.2.2).wf = true) (hM : M = min n1 30) :
    Calls Try.prog 5 #[.slice a1 n1 c1] w fun e w' => e = .returned (.bool true) ∧ Below w.heap.size w w' := by
  obtain ⟨i4, hi4, hz40, hz41, hz42⟩ := info_parts info4
  have HI := Lib.hid (And.intro hO (And.intro hwf ho))
  clear hO hwf ho
  go_enter Try.func5, Try.ntmps5
  go_wp2_with fail
  refine (awake_any _).mono ?_
  rintro e w1 ⟨rfl, hb1⟩
  have HW := Lib.hid hb1
  clear hb1
  go_wp2_with fail
  refine (new_any _).mono ?_
  rintro e w2 ⟨rfl, hbd, hb2⟩
  have hH := HD.start hbd (HW.out.trans (hb2.mono HW.out.size)) HW.out.size
  have HH := Lib.hid hH
  clear hH hbd hb2 HW
  generalize w1.heap.size = zb at *
  go_wp2
  generalize w2.heap.size = hb at *
  go_loopw [5, 7, 8] (fun v5 v7 v8 wr => ∃ (i : Nat) (L W : List Bool) (s hs : Value), i ≤ M ∧ v8 = .int .i64 (i : Int) ∧ L.length ≤ 64 * i ∧ W.length ≤ 64 * i ∧ (i ≤ 10 → W = []) ∧ HD w zb hb v5 v7 L L W W s hs wr) (fun _ _ v8 _ => M - (intOf v8).toNat)
  case atStart => exact ⟨0, [], [], _, _, Nat.zero_le _, rfl, by simp, by simp, fun _ => rfl, HH.out⟩
  case round =>
    obtain ⟨i, L, W, s, hs, hiM, rfl, hL, hWl, hW, hH⟩ := hrel
    by_cases hlt : i < M
    · have hlt1 : i < n1 := by omega
      have hlt2 : i < 30 := by omega
      obtain ⟨hO, hwf, hol⟩ := HI.out
      rcases hO.kept hH.bel with hnil | ⟨p1, o1, rfl, hp1, hc1⟩
      · subst hnil; simp at hol; omega
      obtain ⟨hc0, hcx, hcy⟩ := hc1 i (by omega)
      have hxr := hwf (os.getD i (false, 0, 0)) (by simp [List.getD_eq_getElem?_getD, show i < os.length by omega])
      generalize os.getD i (false, 0, 0) = o at *
      obtain ⟨wh, x, y⟩ := o
      simp only at hc0 hcx hcy hxr
      obtain ⟨X, rfl⟩ : ∃ X : Nat, x = (X : Int) := Int.eq_ofNat_of_zero_le (bounds_u64 hxr.1).1
      have hX64 : X < 2 ^ 64 := by have := (bounds_u64 hxr.1).2; omega
      have hyr := bounds_i64 hxr.2
      obtain ⟨a5, c5, hv5, hsl5⟩ := slice_of_own hH.r5
      subst hv5
      have hbx := Ox.new wh (X : Int) y wr
      have hH3 := hH.alloc (.cells #[.bool wh, .int .u64 (X : Int), .int .i64 y] 56)
      have hal : Below wr.heap.size wr (wr.alloc (.cells #[.bool wh, .int .u64 (X : Int), .int .i64 y] 56)) := (Below.refl _ _).alloc (Nat.le_refl _) _
      have hsl := hsl5.kept hal
      have hob : (Value.slice a5 L.length c5).ownBlock ≠ some wr.heap.size := fun e => by have := hH.lt5 _ e; omega
      have hws := hH.bel.size
      generalize hLn : L.length = N at *
      have HB := Lib.hid (And.intro hH3 (And.intro hbx (And.intro hsl (And.intro hW (And.intro hLn hob)))))
      clear hO hwf hc1 hol hxr hH hbx hH3 hsl hsl5 hal hW HH hLn hob
      cases wh with
      | true =>
        by_cases hgood : 0 ≤ y ∧ y ≤ 64 ∧ X < 2 ^ y.toNat
        · obtain ⟨hy0, hy1, hXk⟩ := hgood
          obtain ⟨k, rfl⟩ := Int.eq_ofNat_of_zero_le hy0
          rw [Int.toNat_natCast] at hXk
          have hk : k ≤ 64 := by omega
          have HX := Lib.hid (And.intro hXk hX64)
          clear hXk hX64 hy0 hy1
          go_wp2_with fail
          generalize (wr.alloc (.cells #[.bool true, .int .u64 (X : Int), .int .i64 (k : Int)] 56)) = w3 at *
          generalize wr.heap.size = ob at *
          refine (rput_ok a5 N c5 L X k w3 HB.out.2.2.1 (by omega) hk HX.out.1).mono ?_
          rintro e w4 ⟨v', rfl, hown, hb4⟩
          have hlen : (L ++ bitsOf X k).length = N + k := by rw [List.length_append, bitsOf_length, HB.out.2.2.2.2.1]
          obtain ⟨a', c', rfl⟩ := own_slice hown hlen
          rw [← hlen] at hown
          have hH4 := HB.out.1.new5 hown hb4
          rw [hlen] at hH4
          obtain ⟨-, q1, q2⟩ := HB.out.2.1.kept hb4
          have H4 := Lib.hid (And.intro hH4 (And.intro hlen (And.intro HB.out.2.2.2.1 HB.out.2.2.2.2.1)))
          clear hown hb4 hlen hH4 HB hc0 hcx hcy hp1
          go_wp2_with fail
          refine (put_hd H4.out.1 (bitsOf X k) (X : Int) k (by rw [num_bitsOf _ _ HX.out.1]) (bitsOf_length _ _) hk (by have := H4.out.2.2.2; omega)).mono ?_
          rintro e w5 ⟨rfl, s', hH5⟩
          have HT := Lib.hid (And.intro hH5 (And.intro H4.out.2.1 H4.out.2.2.1))
          clear hH5 H4 q1 q2
          by_cases h10 : i = 10
          · have hrow0 := HT.out.2.2 (by omega)
            go_wp2_with fail
            refine (bits_hd HT.out.1 (N + k) (w5.heap.size + 1) HT.out.2.1 (by omega) rfl).mono ?_
            rintro e w6 ⟨rfl, hrow, hb6⟩
            have g6 := HT.out.1.kept hb6
            have d0 := g6.bx.1
            have d1 := g6.bx.2
            have f0 := g6.z0
            have f1 := g6.z1
            have hH6 := HT.out.1.seth hrow hb6 (fun k hk => by simp [Value.ownBlock] at hk; omega)
            rw [HT.out.2.1] at hH6
            have hsz6 := hH6.bel.size
            have H6 := Lib.hid (And.intro hH6 (And.intro (hH6.sl5 HT.out.2.1) HT.out.2.1))
            have HR0 := Lib.hid hrow0
            clear g6 hH6 hrow hb6 HT hrow0
            go_wp2_with (first
              | (at_builtin
                 refine wpList_append_bools rfl (.tmp 72) (.tmp 73) rfl w.heap.size u7 _ _ rfl H6.out.1.r7 _ _ _ _ rfl H6.out.2.1 ?_ ?_ ?_))
            · rw [HR0.out]; simp; omega
            · exact hsz6
            intro v7' w7 hown hg hat
            have hH7 := H6.out.1.app7 (W' := (L ++ bitsOf X k)) (by rw [HR0.out, ← H6.out.2.2] at hown; simpa using hown) hg (by simpa using hat)
            have H7 := Lib.hid (And.intro hH7 H6.out.2.2)
            clear hH7 hown hg hat H6 d0 d1 f0 f1 hsz6
            go_wp2
            go_roundw
            case rel => exact ⟨i + 1, (L ++ bitsOf X k), (L ++ bitsOf X k), _, _, by omega, by go_num, by rw [H7.out.2]; omega, by rw [H7.out.2]; omega, fun h => absurd h (by omega), H7.out.1⟩
            case measure => simp [intOf]; omega
          · go_wp2
            go_roundw
            case rel => exact ⟨i + 1, (L ++ bitsOf X k), W, _, _, by omega, by go_num, by rw [HT.out.2.1]; omega, by omega, fun h => HT.out.2.2 (by omega), HT.out.1⟩
            case measure => simp [intOf]; omega
        · have hbad : y < 0 ∨ 64 < y ∨ (0 ≤ y ∧ y < 64 ∧ 2 ^ y.toNat ≤ X) := by
            by_cases h1 : y < 0
            · exact .inl h1
            · by_cases h2 : 64 < y
              · exact .inr (.inl h2)
              · have h3 : 2 ^ y.toNat ≤ X := by
                  rcases Nat.lt_or_ge X (2 ^ y.toNat) with h | h
                  · exact absurd ⟨by omega, by omega, h⟩ hgood
                  · exact h
                have h4 : y ≠ 64 := by rintro rfl; exact absurd h3 (Nat.not_le.2 hX64)
                exact .inr (.inr ⟨by omega, by omega, h3⟩)
          have hbad2 : y < 0 ∨ 64 < y ∨ ((2 ^ y.toNat - 1 : Nat) : Int) < (X : Int) := by
            rcases hbad with h | h | ⟨h1, h2, h3⟩
            · exact .inl h
            · exact .inr (.inl h)
            · have : 0 < 2 ^ y.toNat := Nat.pow_pos (by decide)
              exact .inr (.inr (by omega))
          have HX := Lib.hid (And.intro hbad hbad2)
          clear hbad hbad2 hX64 hgood
          go_wp2_with fail
          generalize (wr.alloc (.cells #[.bool true, .int .u64 (X : Int), .int .i64 y] 56)) = w5 at *
          generalize wr.heap.size = ob at *
          refine (rput_no _ X y w5 HX.out.1).mono ?_
          rintro e w' ⟨rfl, rfl⟩
          obtain ⟨-, q1, q2⟩ := HB.out.2.1
          clear hc0 hcx hcy hp1
          go_wp2_with fail
          refine (put_no _ (X : Int) y w5 HX.out.2).mono ?_
          rintro e w' ⟨rfl, rfl⟩
          have HT := Lib.hid (And.intro HB.out.1 (And.intro HB.out.2.2.2.2.1 HB.out.2.2.2.1))
          clear HB q1 q2 HX
          by_cases h10 : i = 10
          · have hrow0 := HT.out.2.2 (by omega)
            go_wp2_with fail
            refine (bits_hd HT.out.1 (N) (w5.heap.size + 1) HT.out.2.1 (by omega) rfl).mono ?_
            rintro e w6 ⟨rfl, hrow, hb6⟩
            have g6 := HT.out.1.kept hb6
            have d0 := g6.bx.1
            have d1 := g6.bx.2
            have f0 := g6.z0
            have f1 := g6.z1
            have hH6 := HT.out.1.seth hrow hb6 (fun k hk => by simp [Value.ownBlock] at hk; omega)
            rw [HT.out.2.1] at hH6
            have hsz6 := hH6.bel.size
            have H6 := Lib.hid (And.intro hH6 (And.intro (hH6.sl5 HT.out.2.1) HT.out.2.1))
            have HR0 := Lib.hid hrow0
            clear g6 hH6 hrow hb6 HT hrow0
            go_wp2_with (first
              | (at_builtin
                 refine wpList_append_bools rfl (.tmp 72) (.tmp 73) rfl w.heap.size u7 _ _ rfl H6.out.1.r7 _ _ _ _ rfl H6.out.2.1 ?_ ?_ ?_))
            · rw [HR0.out]; simp; omega
            · exact hsz6
            intro v7' w7 hown hg hat
            have hH7 := H6.out.1.app7 (W' := L) (by rw [HR0.out, ← H6.out.2.2] at hown; simpa using hown) hg (by simpa using hat)
            have H7 := Lib.hid (And.intro hH7 H6.out.2.2)
            clear hH7 hown hg hat H6 d0 d1 f0 f1 hsz6
            go_wp2
            go_roundw
            case rel => exact ⟨i + 1, L, L, _, _, by omega, by go_num, by rw [H7.out.2]; omega, by rw [H7.out.2]; omega, fun h => absurd h (by omega), H7.out.1⟩
            case measure => simp [intOf]; omega
          · go_wp2
            go_roundw
            case rel => exact ⟨i + 1, L, W, _, _, by omega, by go_num, by rw [HT.out.2.1]; omega, by omega, fun h => HT.out.2.2 (by omega), HT.out.1⟩
            case measure => simp [intOf]; omega
      | false =>
        go_wp2_with (first
          | (at_builtin
             refine wpList_append_own_at _ rfl (.tmp 52) (.tmp 57) 22 rfl w.heap.size 4 i4 (.bool false) 1 1 Try.underlying22 hi4 hz40 hz41 hz42 rfl (by omega) _ _ _ rfl (HB.out.1.alloc _).r5 ⟨wr.heap.size + 1, 0, none⟩ 1 1
               [.bool ((X : Int) % 2 == 1)] rfl rfl ?c1 ?c2 ?c3 ?c4 ?c5 ?_))
        case c1 =>
          intro j u hj
          match j, hj with
          | 0, hj => simp at hj; subst hj; simp [Addr.add]
        case c2 => intro u hu; simp at hu; subst hu; rfl
        case c3 => unfold maxLen; have := HB.out.2.2.2.2.1; omega
        case c4 => have := HB.out.2.2.2.2.1; omega
        case c5 => simp; omega
        intro v' w4 hown hgrow _ hat
        have hlen : (L ++ [(X : Int) % 2 == 1]).length = N + 1 := by rw [List.length_append, HB.out.2.2.2.2.1]; rfl
        have hown2 : w4.ownsRow w.heap.size 4 1 v' (L ++ [(X : Int) % 2 == 1]).length ((L ++ [(X : Int) % 2 == 1]).map Value.bool) := by simpa using hown
        obtain ⟨a', c', rfl⟩ := own_slice (n := N + 1) (by rw [← hlen]; exact hown2) hlen
        have hH4 := (HB.out.1.alloc _).app5 hown2 hgrow (by simpa using hat)
        have hkp : Kp (fun k => (Value.slice a5 N c5).ownBlock = some k) _ w4 := (Kp.refl _ _).grown hgrow (fun k hk _ => hk)
        have hox := (HB.out.2.1.kept ((Below.refl _ _).alloc (Nat.le_refl _) _)).kp hkp HB.out.2.2.2.2.2
        obtain ⟨-, q1, q2⟩ := hox
        have H4 := Lib.hid (And.intro hH4 (And.intro hlen (And.intro HB.out.2.2.2.1 HB.out.2.2.2.2.1)))
        clear hown hown2 hlen hH4 HB hc0 hcx hcy hp1 hgrow hat hkp
        generalize hbv : ((X : Int) % 2 == 1) = bv at *
        go_wp2_with fail
        try rw [hbv]
        refine (add_hd H4.out.1 bv (by have := H4.out.2.2.2; omega)).mono ?_
        rintro e w5 ⟨rfl, s', hH5⟩
        have HT := Lib.hid (And.intro hH5 (And.intro H4.out.2.1 H4.out.2.2.1))
        have hNN := H4.out.2.2.2
        clear hH5 H4 q1 q2
        rw [hNN]
        clear hNN
        by_cases h10 : i = 10
        · have hrow0 := HT.out.2.2 (by omega)
          go_wp2_with fail
          refine (bits_hd HT.out.1 (N + 1) (w5.heap.size + 1) HT.out.2.1 (by omega) rfl).mono ?_
          rintro e w6 ⟨rfl, hrow, hb6⟩
          have g6 := HT.out.1.kept hb6
          have d0 := g6.bx.1
          have d1 := g6.bx.2
          have f0 := g6.z0
          have f1 := g6.z1
          have hH6 := HT.out.1.seth hrow hb6 (fun k hk => by simp [Value.ownBlock] at hk; omega)
          rw [HT.out.2.1] at hH6
          have hsz6 := hH6.bel.size
          have H6 := Lib.hid (And.intro hH6 (And.intro (hH6.sl5 HT.out.2.1) HT.out.2.1))
          have HR0 := Lib.hid hrow0
          clear g6 hH6 hrow hb6 HT hrow0
          go_wp2_with (first
            | (at_builtin
               refine wpList_append_bools rfl (.tmp 72) (.tmp 73) rfl w.heap.size u7 _ _ rfl H6.out.1.r7 _ _ _ _ rfl H6.out.2.1 ?_ ?_ ?_))
          · rw [HR0.out]; simp; omega
          · exact hsz6
          intro v7' w7 hown hg hat
          have hH7 := H6.out.1.app7 (W' := (L ++ [bv])) (by rw [HR0.out, ← H6.out.2.2] at hown; simpa using hown) hg (by simpa using hat)
          have H7 := Lib.hid (And.intro hH7 H6.out.2.2)
          clear hH7 hown hg hat H6 d0 d1 f0 f1 hsz6
          go_wp2
          go_roundw
          case rel => exact ⟨i + 1, (L ++ [bv]), (L ++ [bv]), _, _, by omega, by go_num, by rw [H7.out.2]; omega, by rw [H7.out.2]; omega, fun h => absurd h (by omega), H7.out.1⟩
          case measure => simp [intOf]; omega
        · go_wp2
          go_roundw
          case rel => exact ⟨i + 1, (L ++ [bv]), W, _, _, by omega, by go_num, by rw [HT.out.2.1]; omega, by omega, fun h => HT.out.2.2 (by omega), HT.out.1⟩
          case measure => simp [intOf]; omega
    · have hex : ¬ i < n1 ∨ (i < n1 ∧ ¬ i < 30) := by omega
      have hi30 : i ≤ 30 := by omega
      obtain ⟨a5, c5, hv5, hsl5⟩ := slice_of_own hH.r5
      obtain ⟨a7, c7, hv7, hsl7⟩ := slice_of_own hH.r7
      obtain ⟨ah, mh, ch, hvh⟩ : ∃ a m c, hs = .slice a m c := by
        rcases hH.row.form with ⟨-, rfl⟩ | ⟨g, cap, rfl, -⟩
        · exact ⟨_, _, _, rfl⟩
        · exact ⟨_, _, _, rfl⟩
      subst hv5 hv7 hvh
      generalize hLn : L.length = N at *
      generalize hWn : W.length = Q at *
      have HB := Lib.hid (And.intro hH (And.intro hsl5 (And.intro hsl7 (And.intro hLn hWn))))
      clear hH hsl5 hsl7 hLn hWn hW HH hM
      rcases hex with h1 | ⟨h1, h2⟩
      all_goals
        go_wp2_with fail
        refine (bits_hd HB.out.1 N (wr.heap.size + 1) HB.out.2.2.2.1 (by omega) rfl).mono ?_
        rintro e w3 ⟨rfl, hr3, hb3⟩
        have H3 := Lib.hid (And.intro hr3 (And.intro (HB.out.1.kept hb3) (And.intro (HB.out.2.1.kept hb3) (HB.out.2.2.1.kept hb3))))
        clear hr3 hb3
        go_wp2_with fail
        refine (list_long _ _ _ N L w3 H3.out.1 HB.out.2.2.2.1 (by omega)).mono ?_
        rintro e w4 ⟨⟨l1, k1, rfl, hbo⟩, hb4⟩
        have H4 := Lib.hid (And.intro hbo (And.intro (H3.out.2.1.kept hb4) (And.intro (H3.out.2.2.1.kept hb4) (H3.out.2.2.2.kept hb4))))
        clear hbo hb4 H3
        go_wp2_with fail
        refine (rsame_any l1 a5 N N k1 c5 L L w4 H4.out.1 H4.out.2.2.1.2.2.2.1 HB.out.2.2.2.1 HB.out.2.2.2.1 (by omega)).mono ?_
        rintro e w5 ⟨rfl, hb5⟩
        rw [decide_eq_true rfl]
        have hH5 := H4.out.2.1.kept hb5
        obtain ⟨d1, d2⟩ := hH5.bx
        rw [HB.out.2.2.2.2] at d1
        have H5 := Lib.hid (And.intro hH5 (H4.out.2.2.2.kept hb5))
        clear hH5 hb5 H4
        go_wp2_with fail
        refine (list_long _ _ _ Q W w5 H5.out.1.row HB.out.2.2.2.2 (by omega)).mono ?_
        rintro e w6 ⟨⟨l2, k2, rfl, hbo⟩, hb6⟩
        have H6 := Lib.hid (And.intro hbo (And.intro (H5.out.1.bel.trans (hb6.mono H5.out.1.bel.size)) (H5.out.2.kept hb6)))
        clear hbo hb6 H5 d1 d2
        go_wp2_with fail
        refine (rsame_any l2 a7 Q Q k2 c7 W W w6 H6.out.1 H6.out.2.2.2.2.2.1 HB.out.2.2.2.2 HB.out.2.2.2.2 (by omega)).mono ?_
        rintro e w7 ⟨rfl, hb7⟩
        rw [decide_eq_true rfl]
        have H7 := Lib.hid (H6.out.2.1.trans (hb7.mono H6.out.2.1.size))
        clear hb7 H6 HB
        go_wp2
        go_ret
        exact ⟨rfl, H7.out⟩

end Go.Proofs.Ytpbemhcibhnhkaa
