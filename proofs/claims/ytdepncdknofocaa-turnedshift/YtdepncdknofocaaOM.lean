/- The document's Stable. -/
import Derived.Test.YtdepncdknofocaaOK
set_option maxRecDepth 100000
namespace Go.Proofs.Ytdepncdknofocaa
open Go.RowKit
open M
attribute [local go_sem ↓] Go.wp_at_zero Go.wp_at_succ

theorem NumsAt.drop {k : IntKind} {w : World} {b off : Nat} {xs : List Int} (h : NumsAt k w (some ⟨b, off, none⟩) xs) (n : Nat) : NumsAt k w (some ⟨b, off + n, none⟩) (xs.drop n) := by
  rcases h with h | ⟨b', off', h1, h2, h3⟩
  · subst h; exact .inl (by simp)
  · simp only [Option.some.injEq, Addr.mk.injEq, and_true] at h1
    obtain ⟨rfl, rfl⟩ := h1
    refine .inr ⟨b, off + n, rfl, h2, fun j hj => ?_⟩
    simp only [List.length_drop] at hj
    rw [Nat.add_assoc, h3 (n + j) (by omega)]
    simp [List.getD_eq_getElem?_getD]

theorem NumsAt.kp {k : IntKind} {X : Nat → Prop} {w w' : World} {a : Option Addr} {xs : List Int} (h : NumsAt k w a xs) (hb : Kp X w w') (hx : ∀ b o, a = some ⟨b, o, none⟩ → ¬ X b) : NumsAt k w' a xs := by
  rcases h with h | ⟨b, off, h1, h2, h3⟩
  · exact .inl h
  · refine .inr ⟨b, off, h1, Nat.lt_of_lt_of_le h2 hb.size, fun j hj => ?_⟩
    rw [hb.cell (p := ⟨b, off + j, none⟩) h2 (hx b off h1)]
    exact h3 j hj

/-- A row l of the call's own that grows; beside it the numbers p2, at place t of the block g. -/
structure IN (w : World) (g t : Nat) (v : Value) (l p2 : List Int) (u : World) : Prop where
  own : u.ownsRow w.heap.size 3 1 v l.length (l.map (Value.int .i64))
  src : NumsAt .i64 u (some ⟨g, t, none⟩) p2
  ne : v.ownBlock ≠ some g
  glt : g < u.heap.size
  bel : Below w.heap.size w u

theorem IN.kept {w u u' : World} {g t : Nat} {v : Value} {l p2 : List Int} (h : IN w g t v l p2 u) (hb : Below u.heap.size u u') : IN w g t v l p2 u' :=
  ⟨own_kept h.own hb, h.src.kept hb, h.ne, Nat.lt_of_lt_of_le h.glt hb.size, h.bel.trans (hb.mono h.bel.size)⟩

theorem IN.alloc {w u : World} {g t : Nat} {v : Value} {l p2 : List Int} (h : IN w g t v l p2 u) (o : Obj) : IN w g t v l p2 (u.alloc o) := h.kept ((Below.refl _ _).alloc (Nat.le_refl _) _)

theorem IN.app {w u u' : World} {g t : Nat} {v v' : Value} {l l' p2 : List Int} (h : IN w g t v l p2 u) (hown : u'.ownsRow w.heap.size 3 1 v' l'.length (l'.map (Value.int .i64))) (hg : u.grownBy u' v.ownBlock) (hat : v'.ownBlock = v.ownBlock ∨ v'.ownBlock = some u.heap.size) : IN w g t v' l' p2 u' := by
  have hk : Kp (fun k => v.ownBlock = some k) u u' := (Kp.refl _ u).grown hg (fun k hk _ => hk)
  have hgl := h.glt
  refine ⟨hown, h.src.kp hk (fun b o e ev => ?_), ?_, Nat.lt_of_lt_of_le h.glt hk.size, h.bel.trans (hk.toBelow h.bel.size (fun k hk e => by have := (h.own.lt k e).1; omega))⟩
  · simp only [Option.some.injEq, Addr.mk.injEq, and_true] at e
    exact h.ne (by rw [e.1]; exact ev)
  · intro e
    rcases hat with e2 | e2
    · exact h.ne (e2 ▸ e)
    · rw [e2] at e; simp at e; omega

theorem IN.start {w u : World} {g t : Nat} {p2 : List Int} (hs : NumsAt .i64 u (some ⟨g, t, none⟩) p2) (hg : g < u.heap.size) (hb : Below w.heap.size w u) : IN w g t (.slice none 0 0) [] p2 u :=
  ⟨World.ownsRow_nil _ _ _ _, hs, fun e => by simp [Value.ownBlock] at e, hg, hb⟩

theorem own_cases {w : World} {base : Nat} {v : Value} {n : Nat} {xs : List Value} (h : w.ownsRow base 3 1 v n xs) : (v = .slice none 0 0 ∧ n = 0) ∨ ∃ g cap, v = .slice (some ⟨g, 0, none⟩) n cap ∧ n ≤ cap ∧ cap ≤ maxLen := by
  obtain ⟨h1, h2⟩ := h
  rcases h2 with ⟨rfl, hn⟩ | ⟨g, cap, cur, rfl, hg, hh, hc1, hc2, hc3, hc4⟩
  · exact .inl ⟨rfl, hn⟩
  · exact .inr ⟨g, cap, rfl, hc1, hc2⟩


theorem plcs_succ (i : Nat) : plcs (i + 1) = plcs i ++ [(i : Int)] := by
  unfold plcs
  rw [List.range_succ, List.map_append]; rfl
/-- A place is put behind those whose keys are not greater. -/
theorem ordP_put (κ : Int → Int) (i k : Nat) (hk : k ≤ i) (h1 : ∀ j, k ≤ j → j < i → κ i < κ ((ordP κ i).getD j 0)) (h2 : 0 < k → κ ((ordP κ i).getD (k - 1) 0) ≤ κ i) :
    ordP κ (i + 1) = (ordP κ i).take k ++ [(i : Int)] ++ (ordP κ i).drop k := by
  have hl := ordP_length κ i
  have hd : ∀ x ∈ (ordP κ i).drop k, κ i < κ x := fun x hx => by
    obtain ⟨j, hj, e⟩ := List.getElem_of_mem hx
    rw [List.length_drop] at hj
    have := h1 (k + j) (by omega) (by omega)
    rw [List.getElem_drop] at e
    simp only [List.getD_eq_getElem?_getD, List.getElem?_eq_getElem (show k + j < (ordP κ i).length by omega), Option.getD_some, e] at this
    exact this
  have ht : ∀ x ∈ (ordP κ i).take k, κ x ≤ κ i := fun x hx => by
    obtain ⟨j, hj, e⟩ := List.getElem_of_mem hx
    rw [List.length_take] at hj
    have hp := pw_at (ordP_pw κ i) (show j ≤ k - 1 by omega) (by omega)
    have := h2 (by omega)
    rw [List.getElem_take] at e
    simp only [List.getD_eq_getElem?_getD, List.getElem?_eq_getElem (show j < (ordP κ i).length by omega), Option.getD_some, e] at hp
    simp only [List.getD_eq_getElem?_getD] at this
    omega
  symm
  refine isort_uniq ?_ ?_
  · rw [plcs_succ]
    have s1 : Same κ (plcs i ++ [(i : Int)]) (ordP κ i ++ [(i : Int)]) := (ordP_same κ i).app (Same.refl _ _)
    refine s1.trans ?_
    conv => lhs; rw [← List.take_append_drop k (ordP κ i)]
    rw [List.append_assoc, List.append_assoc]
    refine (Same.refl κ _).app (Same.swap ?_)
    intro x hx y hy
    have := hd x hx
    simp only [List.mem_singleton] at hy
    subst hy
    omega
  · unfold Pw
    rw [List.append_assoc, List.pairwise_append]
    have hp := ordP_pw κ i
    unfold Pw at hp
    refine ⟨hp.sublist (List.take_sublist _ _), ?_, ?_⟩
    · rw [List.singleton_append, List.pairwise_cons]
      exact ⟨fun x hx => Int.le_of_lt (hd x hx), hp.sublist (List.drop_sublist _ _)⟩
    · intro x hx y hy
      have hx' := ht x hx
      rcases List.mem_append.1 hy with h | h
      · simp only [List.mem_singleton] at h; subst h; exact hx'
      · have := hd y h; omega

set_option maxHeartbeats 8000000 in
theorem rstable_any (A : Option Addr) (n c : Nat) (l : List Int) (w : World) (hA : NumsAt .i64 w A l) (hl : l.length = n) (hn : n ≤ 1000000) :
    Calls Try.prog 25 #[.slice A n c] w fun e u => ∃ v, e = .returned v ∧ OwnI w v (ordP (kyI l) n) u := by
  obtain ⟨κ, hκ⟩ : ∃ κ, κ = kyI l := ⟨_, rfl⟩
  rw [← hκ]
  have hky : ∀ i : Nat, l.getD i 0 = κ i := fun i => by rw [hκ]; unfold kyI; rw [Int.toNat_natCast]
  have HX := Lib.hid (And.intro hA (And.intro hl hky))
  clear hA hl hky hκ
  go_enter Try.func25, Try.ntmps25
  go_wp2
  go_loopw [3, 4, 5, 6] (fun v3 v4 _ _ wr => ∃ i : Nat, i ≤ n ∧ v4 = .int .i64 (i : Int) ∧ (i = 0 → v3 = .slice none 0 0) ∧ OwnI w v3 (ordP κ i) wr) (fun _ v4 _ _ _ => n - (intOf v4).toNat)
  case atStart => exact ⟨0, Nat.zero_le _, rfl, fun _ => rfl, World.ownsRow_nil _ _ _ _, Below.refl _ _⟩
  case round =>
    obtain ⟨i, hin, rfl, hnil0, hI⟩ := hrel
    by_cases hlt : i < n
    · have q1 : (i : Int) < (n : Int) := by omega
      have q2 : (0 : Int) ≤ (i : Int) := by omega
      have r3 := hI.1
      rw [ordP_length] at r3
      obtain ⟨w5, rfl⟩ : ∃ w5, w5 = wr := ⟨_, rfl⟩
      rcases own_cases r3 with ⟨rfl, hi0⟩ | ⟨g, cap, rfl, hcap, hcm⟩
      · subst hi0
        clear hnil0
        have hput := ordP_put κ 0 0 (Nat.le_refl _) (fun j _ h => by omega) (fun h => by omega)
        have e0 : ordP κ 0 = [] := rfl
        rw [e0] at hput
        have HI := Lib.hid (And.intro hI (show ordP κ 1 = [0] from hput))
        have hsz := hI.2.size
        clear hI r3 hput e0
        go_wp2
        go_loopw [5] (fun v5 wq => v5 = .int .i64 0 ∧ wq = w5) (fun _ _ => 0)
        case atStart => exact ⟨rfl, rfl⟩
        case round =>
          obtain ⟨rfl, rfl⟩ := hrel
          go_wp2
          go_quiet (fail)
          have hI2 : OwnI w (.slice none 0 0) [] (wr.drewN nq) := ⟨World.ownsRow_nil _ _ _ _, HI.out.1.2.trans ((below_drewN wr nq).mono HI.out.1.2.size)⟩
          have HI2 := Lib.hid hI2
          have hsz2 := hI2.2.size
          clear hI2
          generalize wr.drewN nq = wz at *
          go_wp2_with (first
            | (at_builtin
               refine wpList_append_nums rfl (.tmp 34) (.tmp 37) rfl w.heap.size (.slice none 0 0) 0 [] rfl (World.ownsRow_nil _ _ _ _) none _ _ [] rfl rfl (.inl rfl) (fun _ => ⟨rfl, rfl⟩) ?c2 ?c3 ?_))
          case c2 => omega
          case c3 => omega
          intro v4 w4 hown hgrow _
          have hI4 := HI2.out.app (l' := []) (by simpa using hown) hgrow
          have HI4 := Lib.hid hI4
          have hsz4 := hI4.2.size
          clear hown hgrow hI4
          go_wp2_with (first
            | (at_builtin
               refine wpList_append_nums rfl (.tmp 39) (.tmp 41) rfl w.heap.size v4 _ _ rfl (HI4.out.alloc _).1 (some ⟨w4.heap.size, 0, none⟩) 1 1 [0] rfl rfl ?c1 (by simp) ?c2 ?c3 ?_))
          case c1 => exact nums_one _ _
          case c2 => simp
          case c3 => simp; omega
          intro v5 w6 hown hgrow _
          have hI5 := (HI4.out.alloc _).app (l' := [0]) (by simpa using hown) hgrow
          have HI5 := Lib.hid hI5
          have hsz5 := hI5.2.size
          clear hown hgrow hI5 HI4 hsz4
          go_wp2_with (first
            | (at_builtin
               refine wpList_append_nums rfl (.tmp 43) (.tmp 46) rfl w.heap.size v5 _ _ rfl HI5.out.1 none _ _ [] rfl rfl (.inl rfl) (fun _ => ⟨rfl, rfl⟩) ?c2 ?c3 ?_))
          case c2 => simp
          case c3 => omega
          intro v6 w7 hown hgrow _
          have hI6 := HI5.out.app (l' := [0]) (by simpa using hown) hgrow
          have HI6 := Lib.hid hI6
          clear hown hgrow hI6 HI5
          go_wp2
          go_roundw
          case rel => exact ⟨1, by omega, by go_num, fun h => by omega, by rw [HI.out.2]; exact HI6.out⟩
          case measure => simp [intOf]; omega
      · obtain ⟨b6, d6', hv6, hn6, -⟩ := nums_of_own r3
        simp only [Value.slice.injEq] at hv6
        obtain ⟨rfl, -, rfl⟩ := hv6
        unfold maxLen at hcm
        have hipos : 0 < i := by
          by_cases e : i = 0
          · have := hnil0 e; simp at this
          · omega
        clear hnil0
        have hglt : g < w5.heap.size := (hI.1.lt g rfl).2
        have HI := Lib.hid (And.intro hI (And.intro hn6 hglt))
        clear hI r3 hn6 hglt
        go_wp2
        go_loopw [5] (fun v5 wq => ∃ k : Nat, k ≤ i ∧ v5 = .int .i64 (k : Int) ∧ Below w5.heap.size w5 wq ∧ ∀ j, k ≤ j → j < i → κ i < κ ((ordP κ i).getD j 0)) (fun v5 _ => (intOf v5).toNat)
        case atStart => exact ⟨i, Nat.le_refl _, rfl, Below.refl _ _, fun j h1 h2 => by omega⟩
        case round =>
          obtain ⟨k, hki, rfl, hbk, hgt⟩ := hrel
          by_cases hmore : 0 < k ∧ κ i < κ ((ordP κ i).getD (k - 1) 0)
          · obtain ⟨kp, rfl⟩ : ∃ kp, k = kp + 1 := ⟨k - 1, by omega⟩
            rw [show kp + 1 - 1 = kp by omega] at hmore
            obtain ⟨p, hp, hpn⟩ := ordP_at κ i (i := kp) (by omega)
            have hnk := HX.out.1.kept (HI.out.1.2.trans (hbk.mono HI.out.1.2.size))
            obtain ⟨bb, off, hAe, -, ci⟩ := num_at hnk (i := i) (by rw [HX.out.2.1]; exact hlt)
            obtain ⟨bb2, off2, hAe2, -, cp⟩ := num_at hnk (i := p) (by rw [HX.out.2.1]; omega)
            rw [hAe] at hAe2
            simp only [Option.some.injEq, Addr.mk.injEq, and_true] at hAe2
            obtain ⟨rfl, rfl⟩ := hAe2
            obtain ⟨g2, o2, hge, -, co⟩ := num_at (HI.out.2.1.kept hbk) (i := kp) (by rw [ordP_length]; omega)
            simp only [Option.some.injEq, Addr.mk.injEq, and_true] at hge
            obtain ⟨rfl, rfl⟩ := hge
            rw [Nat.zero_add, hp] at co
            rw [hp] at hmore
            rw [HX.out.2.2] at ci cp
            have hfin : ∀ nq, Below w5.heap.size w5 (wr.drewN nq) := fun nq => hbk.trans ((below_drewN wr nq).mono hbk.size)
            have hgt2 : ∀ j, kp ≤ j → j < i → κ i < κ ((ordP κ i).getD j 0) := fun j h1 h2 => by
              by_cases e : j = kp
              · rw [e, hp]; exact hmore.2
              · exact hgt j (by omega) h2
            have HF := Lib.hid (And.intro hfin hgt2)
            have hm2 := hmore.2
            subst hAe
            clear hfin hgt2 hgt hbk hnk hp hmore
            generalize κ i = x at *
            generalize κ p = y at *
            have q3 : (0 : Int) < (kp : Int) + 1 := by omega
            have q4 : IntKind.i64.wrap ((kp : Int) + 1 - 1) = (kp : Int) := by rw [Int.add_sub_cancel]; exact IntWalk.i64_in _ (by omega)
            have q5 : (kp : Int) < (i : Int) := by omega
            have q6 : (0 : Int) ≤ (kp : Int) := by omega
            have q7 : (p : Int) < (n : Int) := by omega
            have q8 : (0 : Int) ≤ (p : Int) := by omega
            go_wp2
            go_quiet (fail)
            go_wp2
            go_roundw
            case rel => exact ⟨kp, by omega, by go_num, HF.out.1 _, HF.out.2⟩
            case measure => simp [intOf]
          · have hput := ordP_put κ i k hki hgt (fun h0 => Int.not_lt.1 (fun h => hmore ⟨h0, h⟩))
            obtain ⟨p1, hp1⟩ : ∃ p1, (ordP κ i).take k = p1 := ⟨_, rfl⟩
            obtain ⟨p2, hp2⟩ : ∃ p2, (ordP κ i).drop k = p2 := ⟨_, rfl⟩
            have hl1 : p1.length = k := by rw [← hp1, List.length_take, ordP_length]; omega
            have hl2 : p2.length = i - k := by rw [← hp2, List.length_drop, ordP_length]
            have hs1 := fun nq => ((HI.out.2.1.kept hbk).kept (below_drewN wr nq)).take k
            have hs2 := fun nq => ((HI.out.2.1.kept hbk).kept (below_drewN wr nq)).drop k
            have hst := fun nq => IN.start (w := w) (hs2 nq) (Nat.lt_of_lt_of_le HI.out.2.2 hbk.size) ((HI.out.1.2.trans (hbk.mono HI.out.1.2.size)).trans ((below_drewN wr nq).mono (HI.out.1.2.trans (hbk.mono HI.out.1.2.size)).size))
            rw [hp1, hp2] at hput
            rw [hp1] at hs1
            rw [hp2, Nat.zero_add] at hst
            have HC := Lib.hid (And.intro hl1 (And.intro hs1 (And.intro hst (And.intro hput hl2))))
            have hnk := HX.out.1.kept (HI.out.1.2.trans (hbk.mono HI.out.1.2.size))
            have hbsz := (HI.out.1.2.trans (hbk.mono HI.out.1.2.size)).size
            have hfact : (k = 0 ∧ True) ∨ ∃ (kp p bb off : Nat), k = kp + 1 ∧ κ p ≤ κ i ∧ p < n ∧ A = some ⟨bb, off, none⟩ ∧ wr.cell? ⟨g, kp, none⟩ = some (.int .i64 (p : Int)) ∧ wr.cell? ⟨bb, off + i, none⟩ = some (.int .i64 (κ i)) ∧ wr.cell? ⟨bb, off + p, none⟩ = some (.int .i64 (κ p)) := by
              by_cases h0 : k = 0
              · exact .inl ⟨h0, trivial⟩
              · obtain ⟨kp, rfl⟩ : ∃ kp, k = kp + 1 := ⟨k - 1, by omega⟩
                obtain ⟨p, hp, hpn⟩ := ordP_at κ i (i := kp) (by omega)
                obtain ⟨bb, off, hAe, -, ci⟩ := num_at hnk (i := i) (by rw [HX.out.2.1]; exact hlt)
                obtain ⟨bb2, off2, hAe2, -, cp⟩ := num_at hnk (i := p) (by rw [HX.out.2.1]; omega)
                rw [hAe] at hAe2
                simp only [Option.some.injEq, Addr.mk.injEq, and_true] at hAe2
                obtain ⟨rfl, rfl⟩ := hAe2
                obtain ⟨g2, o2, hge, -, co⟩ := num_at (HI.out.2.1.kept hbk) (i := kp) (by rw [ordP_length]; omega)
                simp only [Option.some.injEq, Addr.mk.injEq, and_true] at hge
                obtain ⟨rfl, rfl⟩ := hge
                rw [Nat.zero_add, hp] at co
                rw [HX.out.2.2] at ci cp
                refine .inr ⟨kp, p, bb, off, rfl, ?_, by omega, hAe, co, ci, cp⟩
                have h2 : ¬ κ i < κ ((ordP κ i).getD kp 0) := fun h => hmore ⟨by omega, by rw [show kp + 1 - 1 = kp by omega]; exact h⟩
                rw [hp] at h2
                omega
            clear hput hp1 hp2 hl1 hl2 hs1 hs2 hst hnk hbk hgt hmore
            generalize κ i = x at *
            rcases hfact with ⟨rfl, -⟩ | ⟨kp, p, bb, off, rfl, hle, hpn, hAe, co, ci, cp⟩
            · go_wp2
              go_quiet (fail)
              have hc1 := HC.out.2.1 nq
              have hc2 := HC.out.2.2.1 nq
              have HC2 := Lib.hid (And.intro hc1 hc2)
              have hszz : w.heap.size ≤ (wr.drewN nq).heap.size := hbsz
              clear hc1 hc2
              generalize wr.drewN nq = wz at *
              go_wp2_with (first
                | (at_builtin
                   refine wpList_append_nums rfl (.tmp 34) (.tmp 37) rfl w.heap.size (.slice none 0 0) 0 [] rfl (World.ownsRow_nil _ _ _ _) (some ⟨g, 0, none⟩) 0 cap p1 rfl HC.out.1 HC2.out.1 (by simp) ?c2 ?c3 ?_))
              case c2 => omega
              case c3 => omega
              intro v4 w4 hown hgrow hat
              have hI4 := HC2.out.2.app (l' := p1) (by rw [HC.out.1]; simpa using hown) hgrow hat
              have HI4 := Lib.hid hI4
              have hsz4 := hI4.bel.size
              clear hown hgrow hat hI4
              go_wp2_with (first
                | (at_builtin
                   refine wpList_append_nums rfl (.tmp 39) (.tmp 41) rfl w.heap.size v4 p1.length (p1.map (Value.int .i64)) rfl (HI4.out.alloc _).own (some ⟨w4.heap.size, 0, none⟩) 1 1 [(i : Int)] rfl rfl ?c1 (by simp) ?c2 ?c3 ?_))
              case c1 => exact nums_one _ _
              case c2 => have := HC.out.1; omega
              case c3 => simp; omega
              intro v5 w6 hown hgrow hat
              have hI5 := (HI4.out.alloc _).app (l' := p1 ++ [(i : Int)]) (by simpa using hown) hgrow (by simpa using hat)
              have HI5 := Lib.hid hI5
              have hsz5 := hI5.bel.size
              clear hown hgrow hat hI5 HI4 hsz4
              by_cases htd : 0 = cap
              · omega
              · have hlt3 : 0 < cap := by omega
                go_wp2_with (first
                  | (at_builtin
                     refine wpList_append_nums rfl (.tmp 43) (.tmp 46) rfl w.heap.size v5 (p1 ++ [(i : Int)]).length ((p1 ++ [(i : Int)]).map (Value.int .i64)) rfl HI5.out.own (some ⟨g, 0, none⟩) (i - 0) (cap - 0) p2 rfl HC.out.2.2.2.2 HI5.out.src (by simp) ?c2 ?c3 ?_))
                case c2 => rw [List.length_append, HC.out.1]; simp; omega
                case c3 => omega
                intro v6 w7 hown hgrow hat
                have hI6 := HI5.out.app (l' := ordP κ (i + 1)) (by rw [HC.out.2.2.2.1, List.length_append, List.map_append, HC.out.2.2.2.2]; simpa using hown) hgrow hat
                have HI6 := Lib.hid hI6
                clear hown hgrow hat hI6 HI5
                go_wp2
                go_roundw
                case rel => exact ⟨i + 1, by omega, by go_num, fun h => by omega, HI6.out.own, HI6.out.bel⟩
                case measure => simp [intOf]; omega
            · subst hAe
              generalize κ p = y at *
              have q3 : (0 : Int) < (kp : Int) + 1 := by omega
              have q4 : IntKind.i64.wrap ((kp : Int) + 1 - 1) = (kp : Int) := by rw [Int.add_sub_cancel]; exact IntWalk.i64_in _ (by omega)
              have q5 : (kp : Int) < (i : Int) := by omega
              have q6 : (0 : Int) ≤ (kp : Int) := by omega
              have q7 : (p : Int) < (n : Int) := by omega
              have q8 : (0 : Int) ≤ (p : Int) := by omega
              have d1 : decide (x < y) = false := decide_eq_false (by omega)
              go_wp2
              go_quiet (fail)
              have hc1 := HC.out.2.1 nq
              have hc2 := HC.out.2.2.1 nq
              have HC2 := Lib.hid (And.intro hc1 hc2)
              have hszz : w.heap.size ≤ (wr.drewN nq).heap.size := hbsz
              clear hc1 hc2
              generalize wr.drewN nq = wz at *
              have q9 : (kp : Int) + 1 ≤ (i : Int) := by omega
              have q10 : (kp : Int) + 1 ≤ (cap : Int) := by omega
              have q11 : ((kp : Int) + 1).toNat = kp + 1 := by omega
              go_wp2_with (first
                | (at_builtin
                   refine wpList_append_nums rfl (.tmp 34) (.tmp 37) rfl w.heap.size (.slice none 0 0) 0 [] rfl (World.ownsRow_nil _ _ _ _) (some ⟨g, 0, none⟩) (kp + 1) cap p1 rfl HC.out.1 HC2.out.1 (by simp) ?c2 ?c3 ?_))
              case c2 => omega
              case c3 => omega
              intro v4 w4 hown hgrow hat
              have hI4 := HC2.out.2.app (l' := p1) (by rw [HC.out.1]; simpa using hown) hgrow hat
              have HI4 := Lib.hid hI4
              have hsz4 := hI4.bel.size
              clear hown hgrow hat hI4
              go_wp2_with (first
                | (at_builtin
                   refine wpList_append_nums rfl (.tmp 39) (.tmp 41) rfl w.heap.size v4 p1.length (p1.map (Value.int .i64)) rfl (HI4.out.alloc _).own (some ⟨w4.heap.size, 0, none⟩) 1 1 [(i : Int)] rfl rfl ?c1 (by simp) ?c2 ?c3 ?_))
              case c1 => exact nums_one _ _
              case c2 => have := HC.out.1; omega
              case c3 => simp; omega
              intro v5 w6 hown hgrow hat
              have hI5 := (HI4.out.alloc _).app (l' := p1 ++ [(i : Int)]) (by simpa using hown) hgrow (by simpa using hat)
              have HI5 := Lib.hid hI5
              have hsz5 := hI5.bel.size
              clear hown hgrow hat hI5 HI4 hsz4
              by_cases htd : (kp + 1) = cap
              · obtain rfl : i = cap := by omega
                have hnil : p2 = [] := List.eq_nil_of_length_eq_zero (by rw [HC.out.2.2.2.2]; omega)
                have HN := Lib.hid hnil
                clear hnil
                go_wp2_with (first
                  | (at_builtin
                     refine wpList_append_nums rfl (.tmp 43) (.tmp 46) rfl w.heap.size v5 _ _ rfl HI5.out.own (some ⟨g, 0, none⟩) _ _ p2 rfl ?c1 (.inl HN.out) (by simp) ?c2 ?c3 ?_))
                case c1 => rw [HN.out]; simp; try omega
                case c2 => rw [List.length_append, HC.out.1]; simp; omega
                case c3 => omega
                intro v6 w7 hown hgrow hat
                have hI6 := HI5.out.app (l' := ordP κ (i + 1)) (by rw [HC.out.2.2.2.1, HN.out]; simpa [HN.out] using hown) hgrow hat
                have HI6 := Lib.hid hI6
                clear hown hgrow hat hI6 HI5
                go_wp2
                go_roundw
                case rel => exact ⟨i + 1, by omega, by go_num, fun h => by omega, HI6.out.own, HI6.out.bel⟩
                case measure => simp [intOf]; omega
              · have hlt3 : (kp + 1) < cap := by omega
                go_wp2_with (first
                  | (at_builtin
                     refine wpList_append_nums rfl (.tmp 43) (.tmp 46) rfl w.heap.size v5 (p1 ++ [(i : Int)]).length ((p1 ++ [(i : Int)]).map (Value.int .i64)) rfl HI5.out.own (some ⟨g, (kp + 1), none⟩) (i - (kp + 1)) (cap - (kp + 1)) p2 rfl HC.out.2.2.2.2 HI5.out.src (by simp) ?c2 ?c3 ?_))
                case c2 => rw [List.length_append, HC.out.1]; simp; omega
                case c3 => omega
                intro v6 w7 hown hgrow hat
                have hI6 := HI5.out.app (l' := ordP κ (i + 1)) (by rw [HC.out.2.2.2.1, List.length_append, List.map_append, HC.out.2.2.2.2]; simpa using hown) hgrow hat
                have HI6 := Lib.hid hI6
                clear hown hgrow hat hI6 HI5
                go_wp2
                go_roundw
                case rel => exact ⟨i + 1, by omega, by go_num, fun h => by omega, HI6.out.own, HI6.out.bel⟩
                case measure => simp [intOf]; omega
    · obtain rfl : i = n := by omega
      have HF := Lib.hid hI
      clear hI hnil0
      have q1 : ¬ (i : Int) < (i : Int) := by omega
      go_wp2
      go_ret
      exact ⟨_, rfl, HF.out⟩

end Go.Proofs.Ytdepncdknofocaa
