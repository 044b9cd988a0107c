/- The walk of TurnedShift. -/
import Derived.Test.YtdepncdknofocaaYJ
set_option maxRecDepth 100000
namespace Go.Proofs.Ytdepncdknofocaa
open Go.RowKit
open M
attribute [local go_sem ↓] Go.wp_at_zero Go.wp_at_succ

/-- Two rows of numbers of the call's own. -/
structure I2 (w : World) (v8 v10 : Value) (p q : List Int) (u : World) : Prop where
  r8 : u.ownsRow w.heap.size 3 1 v8 p.length (p.map (Value.int .i64))
  r10 : u.ownsRow w.heap.size 3 1 v10 q.length (q.map (Value.int .i64))
  dj : Dj v8 v10
  bel : Below w.heap.size w u
theorem I2.kept {w u u' : World} {v8 v10 : Value} {p q : List Int} (h : I2 w v8 v10 p q u) (hb : Below u.heap.size u u') : I2 w v8 v10 p q u' :=
  ⟨own_kept h.r8 hb, own_kept h.r10 hb, h.dj, h.bel.trans (hb.mono h.bel.size)⟩
theorem I2.alloc {w u : World} {v8 v10 : Value} {p q : List Int} (h : I2 w v8 v10 p q u) (o : Obj) : I2 w v8 v10 p q (u.alloc o) := h.kept (al _ _)
theorem I2.app8 {w u u' : World} {v8 v10 v' : Value} {p q p' : List Int} (h : I2 w v8 v10 p q u) (hown : u'.ownsRow w.heap.size 3 1 v' p'.length (p'.map (Value.int .i64))) (hg : u.grownBy u' v8.ownBlock) (hat : v'.ownBlock = v8.ownBlock ∨ v'.ownBlock = some u.heap.size) : I2 w v' v10 p' q u' := by
  have hk : Kp (fun k => v8.ownBlock = some k) u u' := (Kp.refl _ u).grown hg (fun k hk _ => hk)
  have hn : ∀ k, v8.ownBlock = some k → w.heap.size ≤ k := fun k e => (h.r8.lt k e).1
  have hf : ∀ k, v'.ownBlock = some k → v8.ownBlock = some k ∨ u.heap.size ≤ k := by
    intro k hk
    rcases hat with e | e
    · exact .inl (e ▸ hk)
    · rw [e] at hk; simp at hk; exact .inr (by omega)
  exact ⟨hown, own_kp h.r10 hk (fun k e e8 => h.dj k e8 e), h.dj.fresh hf (fun k e => (h.r10.lt k e).2), h.bel.trans (hk.toBelow h.bel.size (fun k hk e => by have := hn k e; omega))⟩
theorem I2.flip {w u : World} {v8 v10 : Value} {p q : List Int} (h : I2 w v8 v10 p q u) : I2 w v10 v8 q p u := ⟨h.r10, h.r8, h.dj.symm, h.bel⟩
theorem I2.app10 {w u u' : World} {v8 v10 v' : Value} {p q q' : List Int} (h : I2 w v8 v10 p q u) (hown : u'.ownsRow w.heap.size 3 1 v' q'.length (q'.map (Value.int .i64))) (hg : u.grownBy u' v10.ownBlock) (hat : v'.ownBlock = v10.ownBlock ∨ v'.ownBlock = some u.heap.size) : I2 w v8 v' p q' u' :=
  (h.flip.app8 hown hg hat).flip
theorem I2.nil {w u : World} (hb : Below w.heap.size w u) : I2 w (.slice none 0 0) (.slice none 0 0) [] [] u := ⟨World.ownsRow_nil _ _ _ _, World.ownsRow_nil _ _ _ _, fun k h => by simp [Value.ownBlock] at h, hb⟩

/-- All are greater by so much. -/
def addL (d : Int) (l : List Int) : List Int := l.map fun x => x + d
theorem addL_len (d : Int) (l : List Int) : (addL d l).length = l.length := by simp [addL]
theorem addL_at (d : Int) (l : List Int) (i : Nat) (h : i < l.length) : (addL d l).getD i 0 = l.getD i 0 + d := by simp [addL, List.getD_eq_getElem?_getD, h]
theorem sufA_add {d : Int} {l : List Int} (h : I64s l) (h' : I64s (addL d l)) : sufA (addL d l) = sufA l := by
  have h1 : SA b0 (addL d l) (sufA l) := (sufA_ok h).map (addL_len d l).symm (fun p q _ _ hs => (sl_map (addL_len d l).symm (i64_abv h) (i64_abv h') (fun i j hi hj => by rw [addL_at d l i hi, addL_at d l j hj]; omega) p q).1 hs)
  exact (sufA_ok h').uniq h1
theorem and1023 (x : Int) : bits .and .i64 x 1023 = x % 1024 := and_mask x 10 (by omega)


/-- Of numbers all greater by so much the row turned is greater by so much, but for -1. -/
theorem turn_add {d : Int} {l : List Int} (h : I64s l) (hn : Nn l) (h' : I64s (addL d l)) (hn' : Nn (addL d l)) {j : Nat} (hj : j ≤ l.length) (hle : ∀ x ∈ l, x ≤ 4) :
    ((turnL l).getD j 0 = -1 ∧ (turnL (addL d l)).getD j 0 = -1) ∨ (0 ≤ (turnL l).getD j 0 ∧ (turnL l).getD j 0 ≤ 4 ∧ (turnL (addL d l)).getD j 0 = (turnL l).getD j 0 + d) := by
  have hA : plA (addL d l) j = plA l j := by
    unfold plA allA
    rw [sufA_add h h', addL_len]
  rw [turn_at h hn hj, turn_at h' hn' (by rw [addL_len]; exact hj), hA]
  have ha := (allA_at h hn hj).2
  by_cases e : plA l j = 0
  · rw [if_pos e, if_pos e]; exact .inl ⟨rfl, rfl⟩
  · rw [if_neg e, if_neg e, addL_at d l _ (by omega)]
    have hm := getD_mem (b := 0) (show plA l j - 1 < l.length by omega)
    exact .inr ⟨hn _ hm, hle _ hm, rfl⟩

set_option maxHeartbeats 8000000 in
theorem tshift_walk (A : Option Addr) (n0 c0 : Nat) (xs : List Int) (q0 more : Int) (w : World) (hA : NumsAt .i64 w A xs) (hx : xs.length = n0) :
    Calls Try.prog 8 #[.slice A n0 c0, .int .i64 q0, .int .i64 more] w fun e w' => e = .returned (.bool true) ∧ Below w.heap.size w w' := by
  obtain ⟨h1, h2, h3⟩ := kindN_in q0
  have hand := and3 q0
  have hand2 := and1023 more
  obtain ⟨s, hs⟩ : ∃ s, kindN q0 = s := ⟨_, rfl⟩
  rw [hs] at h1 h2 h3
  obtain ⟨t, ht⟩ : ∃ t, q0 % 4 = t := ⟨_, rfl⟩
  rw [ht] at hand h3
  obtain ⟨d, hd⟩ : ∃ d, more % 1024 = d := ⟨_, rfl⟩
  have hd1 : 0 ≤ d ∧ d < 1024 := by omega
  rw [hd] at hand2
  obtain ⟨hd1, hd2⟩ := hd1
  have hw : IntKind.i64.wrap (1 + t) = (s : Int) := by rw [← h3]; exact IntWalk.i64_in _ (by omega)
  have HX := Lib.hid (And.intro hA hx)
  obtain ⟨m, hm⟩ : ∃ m, min n0 100 = m := ⟨_, rfl⟩
  have hm1 : m ≤ n0 := by omega
  have hm2 : m ≤ 100 := by omega
  have hm3 : m < n0 → m = 100 := by omega
  have h0 : ((s : Int) == 0) = false := by simp; omega
  have h0' : (s : Int) ≠ 0 := by omega
  clear hA hx hs ht hm h3 hd
  go_enter Try.func8, Try.ntmps8
  go_wp2_with fail
  (with_reducible refine (awake_any _).mono ?_)
  rintro e w1 ⟨rfl, hb1⟩
  have HB := Lib.hid hb1
  clear hb1
  go_wp2
  clear hw hand hand2
  go_loopw [10, 11, 12, 13] (fun v10 v11 v12 _ wr => ∃ i : Nat, i ≤ m ∧ v12 = .int .i64 (i : Int) ∧ I2 w1 v10 v11 (cutL s xs i) (addL d (cutL s xs i)) wr) (fun _ _ v12 _ _ => m - (intOf v12).toNat)
  case atStart => exact ⟨0, Nat.zero_le _, rfl, I2.nil (Below.refl _ _)⟩
  case round =>
    obtain ⟨i, hin, rfl, hI⟩ := hrel
    have hwb := HB.out.trans (hI.bel.mono HB.out.size)
    by_cases hlt : i < m
    · obtain ⟨bb, off, hAe, hbl, hcb⟩ := num_at (HX.out.1.kept hwb) (i := i) (by rw [HX.out.2]; omega)
      have hsu := cutL_succ s xs i (by rw [HX.out.2]; omega)
      have hml := cutL_len s xs i (by rw [HX.out.2]; omega)
      have hal := addL_len d (cutL s xs i)
      rw [hml] at hal
      have hci := cutI_in s (xs.getD i 0) (by omega)
      generalize xs.getD i 0 = x at *
      have hsz := hI.bel.size
      subst hAe
      obtain ⟨y, hy⟩ : ∃ y, x.tmod s = y := ⟨_, rfl⟩
      have t1 := Int.tmod_lt_of_pos x (b := (s : Int)) (by omega)
      have t2 := Int.lt_tmod_of_pos x (b := (s : Int)) (by omega)
      rw [hy] at t1 t2
      obtain ⟨z, hz⟩ : ∃ z, z = cutI s x := ⟨_, rfl⟩
      rw [← hz] at hsu hci
      have hsu2 : addL d (cutL s xs (i + 1)) = addL d (cutL s xs i) ++ [z + d] := by rw [hsu]; simp [addL]
      have HM := Lib.hid (And.intro hI (And.intro hsu (And.intro hml (And.intro hal hsu2))))
      have hyz : (y + (s : Int)).tmod s = z := by rw [hz]; unfold cutI; rw [hy]
      clear hz hI hsu hml hwb hal hsu2
      obtain ⟨z1, z2⟩ := hci
      have qw : IntKind.i64.wrap (y + (s : Int)) = y + (s : Int) := IntWalk.i64_in _ (by omega)
      have qd : IntKind.i64.wrap (z + d) = z + d := IntWalk.i64_in _ (by omega)
      have q1 : (i : Int) < (n0 : Int) := by omega
      have q2 : (0 : Int) ≤ (i : Int) := by omega
      have q3 : (i : Int) < 100 := by omega
      go_wp2_with (first
        | (at_builtin
           refine wpList_append_nums rfl (.tmp 45) (.tmp 47) rfl w1.heap.size _ _ _ rfl (HM.out.1.alloc _).r8 (some ⟨_, 0, none⟩) 1 1 [z] rfl rfl ?c1 (by simp) ?c2 ?c3 ?_))
      case c1 => exact nums_one _ _
      case c2 => rw [HM.out.2.2.1]; omega
      case c3 => first | omega | (simp; omega)
      intro v' w5 hown hgrow hat
      have hI5 := (HM.out.1.alloc _).app8 (p' := cutL s xs i ++ [z]) (by simpa using hown) hgrow (by simpa using hat)
      have HX5 := Lib.hid hI5
      have hsz5 := hI5.bel.size
      clear hown hgrow hI5 hat
      go_wp2_with (first
        | (at_builtin
           refine wpList_append_nums rfl (.tmp 49) (.tmp 53) rfl w1.heap.size _ _ _ rfl (HX5.out.alloc _).r10 (some ⟨_, 0, none⟩) 1 1 [z + d] rfl rfl ?c1 (by simp) ?c2 ?c3 ?_))
      case c1 => exact nums_one _ _
      case c2 => rw [HM.out.2.2.2.1]; omega
      case c3 => first | omega | (simp; omega)
      intro v'' w6 hown hgrow hat
      have hI6 := (HX5.out.alloc _).app10 (q' := addL d (cutL s xs i) ++ [z + d]) (by simpa using hown) hgrow (by simpa using hat)
      have HX6 := Lib.hid hI6
      clear hown hgrow hI6 hat
      go_wp2
      go_roundw
      case rel => exact ⟨i + 1, by omega, by go_num, by rw [HM.out.2.2.2.2, HM.out.2.1]; exact HX6.out⟩
      case measure => simp [intOf]; omega
    · obtain rfl : i = m := by omega
      obtain ⟨P, pc, rfl, hPn, -, hpc, -, -⟩ := nums_of_own hI.r8
      obtain ⟨R, rc, rfl, hRn, -, hrc, -, -⟩ := nums_of_own hI.r10
      have hMl := cutL_len s xs i (by rw [HX.out.2]; omega)
      have hMi := cutL_in s xs i (by omega)
      obtain ⟨M, hM⟩ : ∃ M, M = cutL s xs i := ⟨_, rfl⟩
      rw [← hM] at hMl hMi hPn hpc hRn hrc ⊢
      have hRl := addL_len d M
      rw [hMl] at hpc hRl ⊢
      rw [hRl] at hrc ⊢
      have h64 : I64s M := fun x hx => by have := hMi x hx; omega
      have h64' : I64s (addL d M) := fun x hx => by
        unfold addL at hx
        obtain ⟨y, hy, rfl⟩ := List.mem_map.1 hx
        have := hMi y hy; omega
      have hse := sufA_add h64 h64'
      have hTl : (turnL M).length = i + 1 := by rw [turnL_len, hMl]
      have hTl2 : (turnL (addL d M)).length = i + 1 := by rw [turnL_len, hRl]
      have hMn : Nn M := fun x hx => (hMi x hx).1
      have hRn2 : Nn (addL d M) := fun x hx => by
        unfold addL at hx
        obtain ⟨y, hy, rfl⟩ := List.mem_map.1 hx
        have := hMi y hy; omega
      have htn := turn_any P i pc M wr hPn hMl (by omega) h64 hMn
      have htn2 := fun u (hu : NumsAt .i64 u R (addL d M)) => turn_any R i rc (addL d M) u hu hRl (by omega) h64' hRn2
      have hmt : ∀ j, j ≤ i → ((turnL M).getD j 0 = -1 ∧ (turnL (addL d M)).getD j 0 = -1) ∨ (0 ≤ (turnL M).getD j 0 ∧ (turnL M).getD j 0 ≤ 4 ∧ (turnL (addL d M)).getD j 0 = (turnL M).getD j 0 + d) := fun j hj => turn_add h64 hMn h64' hRn2 (by rw [hMl]; exact hj) (fun x hx => by have := hMi x hx; omega)
      have HP := Lib.hid (And.intro htn (And.intro htn2 (And.intro hwb (And.intro hRn hmt))))
      obtain ⟨n, rfl⟩ : ∃ n, n = i := ⟨_, rfl⟩
      have hcase : ((n : Int) < (n0 : Int) ∧ n = 100) ∨ ¬ (n : Int) < (n0 : Int) := by omega
      obtain ⟨w3, rfl⟩ : ∃ w3, w3 = wr := ⟨_, rfl⟩
      clear hI hPn hMl hMi h64 hwb hM hlt hm3 hRn hRl h64' hpc hrc hMn hRn2 htn htn2 hmt
      rcases hcase with ⟨z1, z2⟩ | z1
      · have z3 : ¬ (n : Int) < 100 := by omega
        clear z2
        go_wp2_with fail
        (with_reducible refine HP.out.1.mono ?_)
        rintro e x1 ⟨v, rfl, hI⟩
        obtain ⟨S1, s1, rfl, hS1, -, -, -, -⟩ := nums_of_own hI.1
        rw [hTl]
        have hwx := HP.out.2.2.1.trans (hI.2.mono HP.out.2.2.1.size)
        have hk1 := HP.out.2.1 x1 (HP.out.2.2.2.1.kept hI.2)
        have HS := Lib.hid (And.intro hk1 (And.intro hwx hS1))
        clear hI hS1 hwx hk1
        go_wp2_with fail
        (with_reducible refine HS.out.1.mono ?_)
        rintro e x2 ⟨v, rfl, hI⟩
        obtain ⟨S2, s2, rfl, hS2, -, -, -, -⟩ := nums_of_own hI.1
        rw [hTl2]
        have hwx := HS.out.2.1.trans (hI.2.mono HS.out.2.1.size)
        have HT := Lib.hid (And.intro (HS.out.2.2.kept hI.2) (And.intro hS2 hwx))
        have HTL := Lib.hid (And.intro hTl hTl2)
        clear hI hS2 hwx HS hTl hTl2
        have q4 : IntKind.i64.wrap ((n : Int) + 1) = (n : Int) + 1 := IntWalk.i64_in _ (by omega)
        go_wp2
        clear q4
        go_loopw [18] (fun v18 wr => ∃ i : Nat, i ≤ n + 1 ∧ v18 = .int .i64 (i : Int) ∧ ∃ q, wr = x2.drewN q) (fun v18 _ => n + 1 - (intOf v18).toNat)
        case atStart => exact ⟨0, Nat.zero_le _, rfl, 0, rfl⟩
        case round =>
          obtain ⟨i, hin, rfl, q, hq⟩ := hrel
          have hbel : Below x2.heap.size x2 wr := by rw [hq]; exact below_drewN x2 q
          have HQ := Lib.hid hq
          by_cases hlt : i < n + 1
          · obtain ⟨b1, o1, hSe1, -, ck1⟩ := num_at (HT.out.1.kept hbel) (i := i) (by rw [HTL.out.1]; exact hlt)
            obtain ⟨b2, o2, hSe2, -, ck2⟩ := num_at (HT.out.2.1.kept hbel) (i := i) (by rw [HTL.out.2]; exact hlt)
            have hmt := HP.out.2.2.2.2 i (by omega)
            obtain ⟨x, hx⟩ : ∃ x, (turnL M).getD i 0 = x := ⟨_, rfl⟩
            obtain ⟨y, hy⟩ : ∃ y, (turnL (addL d M)).getD i 0 = y := ⟨_, rfl⟩
            rw [hx] at ck1 hmt
            rw [hy] at ck2 hmt
            have HE1 := Lib.hid hSe1
            have HE2 := Lib.hid hSe2
            have q1 : (i : Int) < (n : Int) + 1 := by omega
            have q2 : (0 : Int) ≤ (i : Int) := by omega
            clear hq hbel hx hy
            subst hSe1
            subst hSe2
            rcases hmt with ⟨rfl, rfl⟩ | ⟨hx0, hx1, rfl⟩
            · go_wp2
              go_quiet (fail)
              go_wp2
              go_roundw
              case rel => exact ⟨i + 1, by omega, by go_num, q + nq, by rw [HQ.out, World.drewN_drewN]⟩
              case measure => simp [intOf]; omega
            · have q3 : (x == -1) = false := by simp; omega
              have q4 : (x + d == -1) = false := by simp; omega
              have q5 : x ≥ 0 := by omega
              have q6 : 0 ≤ x := by omega
              have q7 : IntKind.i64.wrap (x + d) = x + d := IntWalk.i64_in _ (by omega)
              have q8 : (x + d == x + d) = true := by simp
              go_wp2
              go_quiet (fail)
              go_wp2
              go_roundw
              case rel => exact ⟨i + 1, by omega, by go_num, q + nq, by rw [HQ.out, World.drewN_drewN]⟩
              case measure => simp [intOf]; omega
          · obtain rfl : i = n + 1 := by omega
            have hw9 := HT.out.2.2.trans (hbel.mono HT.out.2.2.size)
            have HW9 := Lib.hid hw9
            have q1 : ¬ ((n + 1 : Nat) : Int) < (n : Int) + 1 := by omega
            have q1' : ¬ (n : Int) + 1 < (n : Int) + 1 := by omega
            clear hq hbel hw9
            go_wp2
            go_ret
            exact ⟨rfl, HW9.out⟩
      · skip
        go_wp2_with fail
        (with_reducible refine HP.out.1.mono ?_)
        rintro e x1 ⟨v, rfl, hI⟩
        obtain ⟨S1, s1, rfl, hS1, -, -, -, -⟩ := nums_of_own hI.1
        rw [hTl]
        have hwx := HP.out.2.2.1.trans (hI.2.mono HP.out.2.2.1.size)
        have hk1 := HP.out.2.1 x1 (HP.out.2.2.2.1.kept hI.2)
        have HS := Lib.hid (And.intro hk1 (And.intro hwx hS1))
        clear hI hS1 hwx hk1
        go_wp2_with fail
        (with_reducible refine HS.out.1.mono ?_)
        rintro e x2 ⟨v, rfl, hI⟩
        obtain ⟨S2, s2, rfl, hS2, -, -, -, -⟩ := nums_of_own hI.1
        rw [hTl2]
        have hwx := HS.out.2.1.trans (hI.2.mono HS.out.2.1.size)
        have HT := Lib.hid (And.intro (HS.out.2.2.kept hI.2) (And.intro hS2 hwx))
        have HTL := Lib.hid (And.intro hTl hTl2)
        clear hI hS2 hwx HS hTl hTl2
        have q4 : IntKind.i64.wrap ((n : Int) + 1) = (n : Int) + 1 := IntWalk.i64_in _ (by omega)
        go_wp2
        clear q4
        go_loopw [18] (fun v18 wr => ∃ i : Nat, i ≤ n + 1 ∧ v18 = .int .i64 (i : Int) ∧ ∃ q, wr = x2.drewN q) (fun v18 _ => n + 1 - (intOf v18).toNat)
        case atStart => exact ⟨0, Nat.zero_le _, rfl, 0, rfl⟩
        case round =>
          obtain ⟨i, hin, rfl, q, hq⟩ := hrel
          have hbel : Below x2.heap.size x2 wr := by rw [hq]; exact below_drewN x2 q
          have HQ := Lib.hid hq
          by_cases hlt : i < n + 1
          · obtain ⟨b1, o1, hSe1, -, ck1⟩ := num_at (HT.out.1.kept hbel) (i := i) (by rw [HTL.out.1]; exact hlt)
            obtain ⟨b2, o2, hSe2, -, ck2⟩ := num_at (HT.out.2.1.kept hbel) (i := i) (by rw [HTL.out.2]; exact hlt)
            have hmt := HP.out.2.2.2.2 i (by omega)
            obtain ⟨x, hx⟩ : ∃ x, (turnL M).getD i 0 = x := ⟨_, rfl⟩
            obtain ⟨y, hy⟩ : ∃ y, (turnL (addL d M)).getD i 0 = y := ⟨_, rfl⟩
            rw [hx] at ck1 hmt
            rw [hy] at ck2 hmt
            have HE1 := Lib.hid hSe1
            have HE2 := Lib.hid hSe2
            have q1 : (i : Int) < (n : Int) + 1 := by omega
            have q2 : (0 : Int) ≤ (i : Int) := by omega
            clear hq hbel hx hy
            subst hSe1
            subst hSe2
            rcases hmt with ⟨rfl, rfl⟩ | ⟨hx0, hx1, rfl⟩
            · go_wp2
              go_quiet (fail)
              go_wp2
              go_roundw
              case rel => exact ⟨i + 1, by omega, by go_num, q + nq, by rw [HQ.out, World.drewN_drewN]⟩
              case measure => simp [intOf]; omega
            · have q3 : (x == -1) = false := by simp; omega
              have q4 : (x + d == -1) = false := by simp; omega
              have q5 : x ≥ 0 := by omega
              have q6 : 0 ≤ x := by omega
              have q7 : IntKind.i64.wrap (x + d) = x + d := IntWalk.i64_in _ (by omega)
              have q8 : (x + d == x + d) = true := by simp
              go_wp2
              go_quiet (fail)
              go_wp2
              go_roundw
              case rel => exact ⟨i + 1, by omega, by go_num, q + nq, by rw [HQ.out, World.drewN_drewN]⟩
              case measure => simp [intOf]; omega
          · obtain rfl : i = n + 1 := by omega
            have hw9 := HT.out.2.2.trans (hbel.mono HT.out.2.2.size)
            have HW9 := Lib.hid hw9
            have q1 : ¬ ((n + 1 : Nat) : Int) < (n : Int) + 1 := by omega
            have q1' : ¬ (n : Int) + 1 < (n : Int) + 1 := by omega
            clear hq hbel hw9
            go_wp2
            go_ret
            exact ⟨rfl, HW9.out⟩

end Go.Proofs.Ytdepncdknofocaa
