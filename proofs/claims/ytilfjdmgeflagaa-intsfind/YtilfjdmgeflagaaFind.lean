/- The walk of IntsFind. -/
import Derived.Test.YtilfjdmgeflagaaIK
namespace Go.Proofs.Ytilfjdmgeflagaa
open Go.RowKit
open M

/-- The numbers are from 0 on and below 2^20. -/
def Sm20 (xs : List Int) : Prop := ∀ x ∈ xs, 0 ≤ x ∧ x < 1048576

theorem NumsAt.drop {k : IntKind} {w : World} {b off : Nat} {xs : List Int} (h : NumsAt k w (some ⟨b, off, none⟩) xs) (n : Nat) : NumsAt k w (some ⟨b, off + n, none⟩) (xs.drop n) := by
  rcases h with h | ⟨b', off', h1, h2, h3⟩
  · subst h; exact .inl (by simp)
  · simp only [Option.some.injEq, Addr.mk.injEq, and_true] at h1
    obtain ⟨rfl, rfl⟩ := h1
    refine .inr ⟨b, off + n, rfl, h2, fun j hj => ?_⟩
    simp only [List.length_drop] at hj
    rw [Nat.add_assoc, h3 (n + j) (by omega)]
    simp [List.getD_eq_getElem?_getD]

theorem NumsAt.kp {k : IntKind} {X : Nat → Prop} {w w' : World} {a : Option Addr} {xs : List Int} (h : NumsAt k w a xs) (hb : Kp X w w') (hx : ∀ b o, a = some ⟨b, o, none⟩ → ¬ X b) : NumsAt k w' a xs := by
  rcases h with h | ⟨b, off, h1, h2, h3⟩
  · exact .inl h
  · refine .inr ⟨b, off, h1, Nat.lt_of_lt_of_le h2 hb.size, fun j hj => ?_⟩
    rw [hb.cell (p := ⟨b, off + j, none⟩) h2 (hx b off h1)]
    exact h3 j hj

/-- A row l of the call's own that grows; beside it the numbers p2, at place t of the block g. -/
structure IN (w : World) (g t : Nat) (v : Value) (l p2 : List Int) (u : World) : Prop where
  own : u.ownsRow w.heap.size 3 1 v l.length (l.map (Value.int .i64))
  src : NumsAt .i64 u (some ⟨g, t, none⟩) p2
  ne : v.ownBlock ≠ some g
  glt : g < u.heap.size
  bel : Below w.heap.size w u

theorem IN.kept {w u u' : World} {g t : Nat} {v : Value} {l p2 : List Int} (h : IN w g t v l p2 u) (hb : Below u.heap.size u u') : IN w g t v l p2 u' :=
  ⟨own_kept h.own hb, h.src.kept hb, h.ne, Nat.lt_of_lt_of_le h.glt hb.size, h.bel.trans (hb.mono h.bel.size)⟩

theorem IN.alloc {w u : World} {g t : Nat} {v : Value} {l p2 : List Int} (h : IN w g t v l p2 u) (o : Obj) : IN w g t v l p2 (u.alloc o) := h.kept ((Below.refl _ _).alloc (Nat.le_refl _) _)

theorem IN.app {w u u' : World} {g t : Nat} {v v' : Value} {l l' p2 : List Int} (h : IN w g t v l p2 u) (hown : u'.ownsRow w.heap.size 3 1 v' l'.length (l'.map (Value.int .i64))) (hg : u.grownBy u' v.ownBlock) (hat : v'.ownBlock = v.ownBlock ∨ v'.ownBlock = some u.heap.size) : IN w g t v' l' p2 u' := by
  have hk : Kp (fun k => v.ownBlock = some k) u u' := (Kp.refl _ u).grown hg (fun k hk _ => hk)
  have hgl := h.glt
  refine ⟨hown, h.src.kp hk (fun b o e ev => ?_), ?_, Nat.lt_of_lt_of_le h.glt hk.size, h.bel.trans (hk.toBelow h.bel.size (fun k hk e => by have := (h.own.lt k e).1; omega))⟩
  · simp only [Option.some.injEq, Addr.mk.injEq, and_true] at e
    exact h.ne (by rw [e.1]; exact ev)
  · intro e
    rcases hat with e2 | e2
    · exact h.ne (e2 ▸ e)
    · rw [e2] at e; simp at e; omega

theorem IN.start {w u : World} {g t : Nat} {p2 : List Int} (hs : NumsAt .i64 u (some ⟨g, t, none⟩) p2) (hg : g < u.heap.size) (hb : Below w.heap.size w u) : IN w g t (.slice none 0 0) [] p2 u :=
  ⟨World.ownsRow_nil _ _ _ _, hs, fun e => by simp [Value.ownBlock] at e, hg, hb⟩

theorem own_cases {w : World} {base : Nat} {v : Value} {n : Nat} {xs : List Value} (h : w.ownsRow base 3 1 v n xs) : (v = .slice none 0 0 ∧ n = 0) ∨ ∃ g cap, v = .slice (some ⟨g, 0, none⟩) n cap ∧ n ≤ cap ∧ cap ≤ maxLen := by
  obtain ⟨h1, h2⟩ := h
  rcases h2 with ⟨rfl, hn⟩ | ⟨g, cap, cur, rfl, hg, hh, hc1, hc2, hc3, hc4⟩
  · exact .inl ⟨rfl, hn⟩
  · exact .inr ⟨g, cap, rfl, hc1, hc2⟩

set_option maxRecDepth 100000 in
set_option maxHeartbeats 4000000 in
theorem find_walk (a1 : Option Addr) (n1 c1 : Nat) (xs : List Int) (x : Int) (w : World) (e1 : xs.length = n1) (hm1 : n1 ≤ 9223372036854775807) (h1 : NumsAt .i64 w a1 xs) :
    Calls Try.prog 6 #[.slice a1 n1 c1, .int .i64 x] w fun e w' => e = .returned (.bool true) ∧ Below w.heap.size w w' := by
  obtain ⟨i0, hi0, hz0, hz1, hz2⟩ := info_parts info3
  obtain ⟨M1, hA1, hA2, hA3⟩ : ∃ M, M ≤ n1 ∧ M ≤ 100 ∧ (M = n1 ∨ M = 100) := ⟨min n1 100, by omega⟩
  have HX := Lib.hid (And.intro h1 e1)
  clear h1 e1
  go_enter Try.func6, Try.ntmps6
  go_wp2_with fail
  refine (awake_any _).mono ?_
  rintro e w1 ⟨rfl, hb⟩
  have hS : OwnI w (.slice none 0 0) [] w1 := ⟨World.ownsRow_nil _ _ _ _, hb⟩
  have HS := Lib.hid hS
  clear hb hS
  go_wp2
  go_loopw [6, 7] (fun v6 v7 wr => ∃ (i : Nat) (p : List Int), i ≤ M1 ∧ v7 = .int .i64 (i : Int) ∧ p.length = i ∧ Rises p ∧ Sm20 p ∧ OwnI w v6 p wr) (fun _ v7 _ => n1 - (intOf v7).toNat)
  case atStart => exact ⟨0, [], Nat.zero_le _, rfl, rfl, fun i j _ h => absurd h (by simp), fun x h => absurd h (by simp), HS.out⟩
  case round =>
    obtain ⟨i, p, hi, rfl, hpl, hr, hsm, hs⟩ := hrel
    obtain ⟨h1, e1⟩ := HX.out
    have r6 := hs.1
    rw [hpl] at r6
    by_cases hlt : i < M1
    · rcases h1.kept hs.2 with hnil | ⟨b, off, rfl, hbs, hcs⟩
      · subst hnil; simp at e1; omega
      have hcb := hcs i (by omega)
      have q1 : (i : Int) < (n1 : Int) := by omega
      have q2 : (0 : Int) ≤ (i : Int) := by omega
      have hand : bits .and .i64 (xs.getD i 0) 1048575 = xs.getD i 0 % 1048576 := and_mask (xs.getD i 0) 20 (by omega)
      generalize xs.getD i 0 = z at *
      obtain ⟨y, hy, hy1, hy2⟩ : ∃ y, z % 1048576 = y ∧ 0 ≤ y ∧ y < 1048576 := ⟨_, rfl, by omega, by omega⟩
      rw [hy] at hand
      clear hy
      have hfl := findN_le p y
      rw [hpl] at hfl
      obtain ⟨t, ht⟩ : ∃ t, findN p y = t := ⟨_, rfl⟩
      rw [ht] at hfl
      rcases own_cases r6 with ⟨rfl, hi0'⟩ | ⟨g, d6, rfl, hd6, hd6m⟩
      · subst hi0'
        rw [Nat.add_zero] at hcb
        have q0 : (0 : Int) < (n1 : Int) := by omega
        clear q1 q2
        obtain rfl : t = 0 := by omega
        obtain rfl : p = [] := List.eq_nil_of_length_eq_zero hpl
        have hf := rfind_any none 0 0 [] y wr (.inl rfl) rfl (by omega)
        rw [ht] at hf
        have hput : putIn [] y = [y] := rfl
        have HB := Lib.hid (And.intro hs (And.intro hf hput))
        have hsz := hs.2.size
        clear hs hpl hr hsm ht hf hcs h1 e1 r6 HS hput
        go_wp2_with fail
        refine HB.out.2.1.mono ?_
        rintro e w3 ⟨rfl, rfl⟩
        go_wp2_with (first
          | (at_builtin
             refine wpList_append_nums rfl (.tmp 32) (.tmp 35) rfl w.heap.size (.slice none 0 0) 0 [] rfl (World.ownsRow_nil _ _ _ _) none _ _ [] rfl rfl (.inl rfl) (fun _ => ⟨rfl, rfl⟩) ?c2 ?c3 ?_))
        case c2 => omega
        case c3 => omega
        intro v4 w4 hown hgrow _
        have hI4 := HB.out.1.app (l' := []) (by simpa using hown) hgrow
        have HI4 := Lib.hid hI4
        have hsz4 := hI4.2.size
        clear hown hgrow hI4
        go_wp2_with (first
          | (at_builtin
             refine wpList_append_nums rfl (.tmp 37) (.tmp 39) rfl w.heap.size v4 _ _ rfl (HI4.out.alloc _).1 (some ⟨w4.heap.size, 0, none⟩) 1 1 [y] rfl rfl ?c1 (by simp) ?c2 ?c3 ?_))
        case c1 =>
          refine .inr ⟨w4.heap.size, 0, rfl, by simp, fun j hj => ?_⟩
          match j, hj with
          | 0, _ => simp
        case c2 => simp
        case c3 => simp; omega
        intro v5 w5 hown hgrow _
        have hI5 := (HI4.out.alloc _).app (l' := [y]) (by simpa using hown) hgrow
        have HI5 := Lib.hid hI5
        have hsz5 := hI5.2.size
        clear hown hgrow hI5 HI4 hsz4
        go_wp2_with (first
          | (at_builtin
             refine wpList_append_nums rfl (.tmp 41) (.tmp 44) rfl w.heap.size v5 _ _ rfl HI5.out.1 none _ _ [] rfl rfl (.inl rfl) (fun _ => ⟨rfl, rfl⟩) ?c2 ?c3 ?_))
        case c2 => simp
        case c3 => omega
        intro v6 w6 hown hgrow _
        have hI6 := HI5.out.app (l' := putIn [] y) (by rw [HB.out.2.2]; simpa using hown) hgrow
        have HI6 := Lib.hid hI6
        clear hown hgrow hI6 HI5
        go_wp2
        go_roundw
        case rel =>
          refine ⟨1, putIn [] y, by omega, by go_num, rfl, putIn_rises [] y (fun i j _ h => absurd h (by simp)), ?_, HI6.out⟩
          intro z hz
          rcases putIn_mem [] y z hz with e | e
          · simp at e
          · subst e; exact ⟨hy1, hy2⟩
        case measure => simp [intOf]; omega
      · obtain ⟨b6, d6', hv6, hn6, -⟩ := nums_of_own r6
        simp only [Value.slice.injEq] at hv6
        obtain ⟨rfl, -, rfl⟩ := hv6
        unfold maxLen at hd6m
        have hf := rfind_any (some ⟨g, 0, none⟩) i d6 p y wr hn6 hpl (by omega)
        rw [ht] at hf
        have HB := Lib.hid (And.intro hs (And.intro hpl (And.intro hr (And.intro hsm (And.intro ht (And.intro hn6 hf))))))
        have hsz := hs.2.size
        clear hs hpl hr hsm ht hn6 hf hcs h1 e1 r6 HS
        go_wp2_with fail
        refine HB.out.2.2.2.2.2.2.mono ?_
        rintro e w3 ⟨rfl, rfl⟩
        have q3 : (t : Int) ≤ (i : Int) := by omega
        have q4 : (t : Int) ≤ (d6 : Int) := by omega
        have q5 : (i : Int) ≤ (d6 : Int) := by omega
        obtain ⟨hs, hpl, hr, hsm, ht, hn6, -⟩ := HB.out
        obtain ⟨p1, hp1⟩ : ∃ p1, p.take t = p1 := ⟨_, rfl⟩
        obtain ⟨p2, hp2⟩ : ∃ p2, p.drop t = p2 := ⟨_, rfl⟩
        have hl1 : p1.length = t := by rw [← hp1, List.length_take]; omega
        have hl2 : p2.length = i - t := by rw [← hp2, List.length_drop]; omega
        have hput : putIn p y = p1 ++ [y] ++ p2 := by unfold putIn; rw [ht, hp1, hp2]
        have hs1 := hn6.take t
        have hs2 := hn6.drop t
        rw [hp1] at hs1
        rw [hp2, Nat.zero_add] at hs2
        have hglt : g < wr.heap.size := (hs.1.lt g rfl).2
        have HC := Lib.hid (And.intro hl1 (And.intro hs1 (And.intro (IN.start hs2 hglt hs.2) (And.intro hput (And.intro hl2 (And.intro hr (And.intro hsm hpl)))))))
        clear hs hpl hr hsm ht hn6 hp1 hp2 hl1 hl2 hput hs1 hs2 HB
        go_wp2_with (first
          | (at_builtin
             refine wpList_append_nums rfl (.tmp 32) (.tmp 35) rfl w.heap.size (.slice none 0 0) 0 [] rfl (World.ownsRow_nil _ _ _ _) (some ⟨g, 0, none⟩) t d6 p1 rfl HC.out.1 HC.out.2.1 (by simp) ?c2 ?c3 ?_))
        case c2 => omega
        case c3 => omega
        intro v4 w4 hown hgrow hat
        have hI4 := HC.out.2.2.1.app (l' := p1) (by rw [HC.out.1]; simpa using hown) hgrow hat
        have HI4 := Lib.hid hI4
        have hsz4 := hI4.bel.size
        clear hown hgrow hat hI4
        go_wp2_with (first
          | (at_builtin
             refine wpList_append_nums rfl (.tmp 37) (.tmp 39) rfl w.heap.size v4 p1.length (p1.map (Value.int .i64)) rfl (HI4.out.alloc _).own (some ⟨w4.heap.size, 0, none⟩) 1 1 [y] rfl rfl ?c1 (by simp) ?c2 ?c3 ?_))
        case c1 =>
          refine .inr ⟨w4.heap.size, 0, rfl, by simp, fun j hj => ?_⟩
          match j, hj with
          | 0, _ => simp
        case c2 => have := HC.out.1; omega
        case c3 => simp; omega
        intro v5 w5 hown hgrow hat
        have hI5 := (HI4.out.alloc _).app (l' := p1 ++ [y]) (by simpa using hown) hgrow (by simpa using hat)
        have HI5 := Lib.hid hI5
        have hsz5 := hI5.bel.size
        clear hown hgrow hat hI5 HI4 hsz4
        by_cases htd : t = d6
        · have hit : i = t := by omega
          have hnil : p2 = [] := List.eq_nil_of_length_eq_zero (by rw [HC.out.2.2.2.2.1]; omega)
          have HN := Lib.hid hnil
          clear hnil
          go_wp2_with (first
            | (at_builtin
               refine wpList_append_nums rfl (.tmp 41) (.tmp 44) rfl w.heap.size v5 _ _ rfl HI5.out.own (some ⟨g, 0, none⟩) _ _ p2 rfl ?c1 (.inl HN.out) (by simp) ?c2 ?c3 ?_))
          case c1 => rw [HN.out]; simp; try omega
          case c2 => rw [List.length_append, HC.out.1]; simp; omega
          case c3 => omega
          intro v6 w6 hown hgrow hat
          have hI6 := HI5.out.app (l' := putIn p y) (by rw [HC.out.2.2.2.1, HN.out]; simpa [HN.out] using hown) hgrow hat
          have HI6 := Lib.hid hI6
          clear hown hgrow hat hI6 HI5
          go_wp2
          go_roundw
          case rel =>
            obtain ⟨-, -, -, -, -, hr, hsm, hpl⟩ := HC.out
            refine ⟨i + 1, putIn p y, by omega, by go_num, by rw [putIn_length, hpl], putIn_rises p y hr, ?_, HI6.out.own, HI6.out.bel⟩
            intro z hz
            rcases putIn_mem p y z hz with e | e
            · exact hsm z e
            · subst e; exact ⟨hy1, hy2⟩
          case measure => simp [intOf]; omega
        · have hlt3 : t < d6 := by omega
          go_wp2_with (first
            | (at_builtin
               refine wpList_append_nums rfl (.tmp 41) (.tmp 44) rfl w.heap.size v5 (p1 ++ [y]).length ((p1 ++ [y]).map (Value.int .i64)) rfl HI5.out.own (some ⟨g, t, none⟩) (i - t) (d6 - t) p2 rfl HC.out.2.2.2.2.1 HI5.out.src (by simp) ?c2 ?c3 ?_))
          case c2 => rw [List.length_append, HC.out.1]; simp; omega
          case c3 => omega
          intro v6 w6 hown hgrow hat
          have hI6 := HI5.out.app (l' := putIn p y) (by rw [HC.out.2.2.2.1, List.length_append, List.map_append, HC.out.2.2.2.2.1]; simpa using hown) hgrow hat
          have HI6 := Lib.hid hI6
          clear hown hgrow hat hI6 HI5
          go_wp2
          go_roundw
          case rel =>
            obtain ⟨-, -, -, -, -, hr, hsm, hpl⟩ := HC.out
            refine ⟨i + 1, putIn p y, by omega, by go_num, by rw [putIn_length, hpl], putIn_rises p y hr, ?_, HI6.out.own, HI6.out.bel⟩
            intro z hz
            rcases putIn_mem p y z hz with e | e
            · exact hsm z e
            · subst e; exact ⟨hy1, hy2⟩
          case measure => simp [intOf]; omega
    · have hex : ¬ i < n1 ∨ (i < n1 ∧ ¬ i < 100) := by omega
      obtain rfl : i = M1 := by omega
      obtain ⟨b6, d6, rfl, hn6, -⟩ := nums_of_own r6
      have htg := tight_row b6 i d6 p wr 20 (by omega) hn6 hpl (by omega) hsm
      have hlow := find_low p (fun x hx => (hsm x hx).1)
      have HB := Lib.hid (And.intro htg (And.intro hs (And.intro hpl (And.intro hr (And.intro hlow hn6)))))
      clear htg hs hpl hr hsm hlow hn6 h1 e1 r6 HS
      obtain ⟨W, hW⟩ : ∃ W, wid (mostI p).toNat = W := ⟨_, rfl⟩
      rw [hW] at HB
      clear hW
      rcases hex with q1 | ⟨q1, q2⟩
      all_goals
        go_wp2_with fail
        refine HB.out.1.mono ?_
        rintro e w3 ⟨g3, L3, m3, rfl, hr3, hb3⟩
        obtain ⟨-, hs, hpl, hr, hlow, hn6⟩ := HB.out
        have hal3 := ((Below.refl w3.heap.size w3).alloc (Nat.le_refl _) (.cells #[.int .i64 (i : Int), .int .i64 (W : Int), .int .i64 (L3 : Int), .slice (some ⟨g3, 0, none⟩) m3 m3] 31))
        have hbx3 := IBx.new w3 i W L3 (.slice (some ⟨g3, 0, none⟩) m3 m3)
        have hs3 := (hs.kept hb3).kept hal3
        have HC := Lib.hid (And.intro hbx3 (And.intro (hr3.kept hal3) (And.intro ((hn6.kept hb3).kept hal3) (And.intro hs3.2 (And.intro hr (And.intro hlow hpl))))))
        clear hs hpl hr hlow hn6 hr3 hb3 hal3 hbx3 hs3 HB
        go_wp2_with fail
        generalize (w3.alloc (.cells #[.int .i64 (i : Int), .int .i64 (W : Int), .int .i64 (L3 : Int), .slice (some ⟨g3, 0, none⟩) m3 m3] 31)) = w4 at *
        generalize w3.heap.size = k3 at *
        obtain ⟨hbx, hr4, hn6, hbel, hr, hlow, hpl⟩ := HC.out
        have hf := ifind_any i W L3 (some ⟨g3, 0, none⟩) m3 m3 p x w4 hr4 hr
        unfold intsV at hf
        refine hf.mono ?_
        clear hf
        rintro e w5 ⟨rfl, hb5⟩
        have HD := Lib.hid (And.intro (hbx.kept hb5) (And.intro (hr4.kept hb5) (And.intro (hn6.kept hb5) (And.intro (hbel.trans (hb5.mono hbel.size)) (And.intro hr (And.intro hlow hpl))))))
        clear hbx hr4 hn6 hbel hr hlow hpl hb5 HC
        go_wp2_with fail
        refine (rfind_any b6 i d6 p x w5 HD.out.2.2.1 HD.out.2.2.2.2.2.2 (by omega)).mono ?_
        rintro e w6 ⟨rfl, rfl⟩
        obtain ⟨c0, c1, c2, c3⟩ := HD.out.1
        generalize findN p x = fx at *
        go_wp2_with fail
        have hf := ifind_any i W L3 (some ⟨g3, 0, none⟩) m3 m3 p (-1) w5 HD.out.2.1 HD.out.2.2.2.2.1
        unfold intsV at hf
        rw [HD.out.2.2.2.2.2.1] at hf
        refine hf.mono ?_
        clear hf c0 c1 c2 c3
        rintro e w7 ⟨rfl, hb7⟩
        have HF := Lib.hid (HD.out.2.2.2.1.trans (hb7.mono HD.out.2.2.2.1.size))
        clear hb7 HD
        go_wp2
        go_ret
        exact ⟨rfl, HF.out⟩

end Go.Proofs.Ytilfjdmgeflagaa
