/- As many as k are ahead of the place that is found for k: the walk of RankTurns. -/
import Derived.Test.YtfhlcclbjagdmaaKM
import Derived.Deep.CutRange
import Derived.Deep.CutBlock
namespace Go.Proofs.Ytfhlcclbjagdmaa
open Go.RowKit
open M
attribute [local go_sem ↓] Go.wp_at_zero Go.wp_at_succ

theorem selN_some (b : Bool) (l : List Bool) (k : Int) (h0 : 0 ≤ k) (h1 : k < (rkN b l l.length : Int)) : ∃ p : Nat, p < l.length ∧ selN b l k = (p : Int) ∧ l.getD p false = b ∧ (rkN b l p : Int) = k ∧ (rkN b l (p + 1) : Int) = k + 1 := by
  have key : ∀ n, n ≤ l.length → k < (rkN b l n : Int) → ∃ p, p < n ∧ l.getD p false = b ∧ (rkN b l p : Int) = k := by
    intro n
    induction n with
    | zero => intro _ h; simp [rkN] at h; omega
    | succ n ih =>
      intro hn h
      have hs := rkN_succ b l n (by omega)
      by_cases hk : k < (rkN b l n : Int)
      · obtain ⟨p, hp, h2, h3⟩ := ih (by omega) hk
        exact ⟨p, by omega, h2, h3⟩
      · by_cases hb : l.getD n false = b
        · rw [if_pos hb] at hs
          exact ⟨n, by omega, hb, by omega⟩
        · rw [if_neg hb] at hs
          omega
  obtain ⟨p, hp, h2, h3⟩ := key l.length (Nat.le_refl _) h1
  have hs := rkN_succ b l p hp
  rw [if_pos h2] at hs
  exact ⟨p, hp, selN_at b l k p hp h2 h3, h2, h3, by omega⟩

/-- A number's rest by another, taken without its sign. -/
theorem abs_rest (x : Int) (q : Nat) (hq : 0 < q) : ∃ y : Int, x.tmod (q : Int) = y ∧ y < (q : Int) ∧ -(q : Int) < y := by
  have t1 := Int.tmod_lt_of_pos x (b := (q : Int)) (by omega)
  have t2 := Int.lt_tmod_of_pos x (b := (q : Int)) (by omega)
  exact ⟨_, rfl, t1, t2⟩

set_option maxRecDepth 100000 in
set_option maxHeartbeats 4000000 in
theorem turns_walk (A : Option Addr) (n c : Nat) (B : Option Addr) (m d : Nat) (bs : List Bool) (ts : List Int) (k i : Int) (w : World) (hA : BoolsAt w A bs) (hbs : bs.length = n) (hB : NumsAt .i64 w B ts) (hts : ts.length = m) :
    Calls Try.prog 5 #[.agg #[.slice A n c, .slice B m d], .int .i64 k, .int .i64 i] w fun e w' => e = .returned (.bool true) ∧ Below w.heap.size w w' := by
  have hl := fun u (hb : Below w.heap.size w u) => list_ls A n c B m d bs ts hA hbs hB hts hb
  have HL := Lib.hid hl
  clear hl hA hbs hB hts
  have hund : undef = Value.tuple #[] := rfl
  go_enter Try.func5, Try.ntmps5
  go_wp2_with fail
  refine (awake_any _).mono ?_
  rintro e w1 ⟨rfl, hb1⟩
  have hb0 : Below w.heap.size w w1 := ((Below.refl _ _).alloc (Nat.le_refl _) _).trans (hb1.mono (by simp))
  have c0 := hb1.cell (p := ⟨w.heap.size, 0, none⟩) (by simp)
  have c1 := hb1.cell (p := ⟨w.heap.size, 1, none⟩) (by simp)
  rw [cell_new _ _ _ _ _ rfl] at c0 c1
  have c0 : w1.cell? ⟨w.heap.size, 0, none⟩ = some (.slice A n c) := c0
  have c1 : w1.cell? ⟨w.heap.size, 1, none⟩ = some (.slice B m d) := c1
  have HB := Lib.hid hb0
  clear hb0 hb1
  go_wp2_with fail
  clear c0 c1
  refine (HL.out _ HB.out).mono ?_
  rintro e w2 ⟨a, N, cap, l, rfl, hls⟩
  have HS := Lib.hid hls
  have hN := hls.le
  clear hls HL HB
  go_wp2_with fail
  refine (mk_ls HS.out).mono ?_
  rintro e w3 ⟨g3, m3, rfl, hrow, hls⟩
  have HN := Lib.hid (new_ls hls hrow)
  clear hls hrow HS
  go_wp2_with fail
  refine HN.out.mono ?_
  rintro e w4 ⟨R, rfl, hrk, hnn, -, -, -, hls⟩
  have HA := Lib.hid (LA.new hls hrk hnn)
  clear hls hrk hnn HN
  obtain ⟨y, hy, hy1, hy2⟩ := abs_rest i (N + 1) (by omega)
  rw [show ((N + 1 : Nat) : Int) = (N : Int) + 1 by omega] at hy hy1 hy2
  have hne : (N : Int) + 1 ≠ 0 := by omega
  have hne2 : ((N : Int) + 1 == 0) = false := by simp; omega
  go_upto_if 29 with fail
  generalize w4.alloc (.cells #[.int .i64 (R.n : Int), .slice R.a R.m R.c, .int .i64 (R.cn : Int), .int .i64 (R.cW : Int), .int .i64 (R.cL : Int), .slice R.a2 R.m2 R.c2] 35) = W2 at *
  generalize w4.heap.size = bx at *
  go_cut [11] from 30 to 31 (fun v11 wx => (∃ t : Nat, v11 = .int .i64 (t : Int) ∧ t ≤ N) ∧ wx = W2)
  case first =>
    by_cases hneg : y < 0
    · go_wp2
      go_meet
      exact ⟨⟨(-y).toNat, by simp only [Value.int.injEq, true_and]; omega, by omega⟩, rfl⟩
    · go_wp2
      go_meet
      exact ⟨⟨y.toNat, by simp only [Value.int.injEq, true_and]; omega, by omega⟩, rfl⟩
  case rest =>
    obtain ⟨⟨t, rfl, ht⟩, rfl⟩ := hcut
    clear hy hy1 hy2 hne hne2
    have hA := HA.out
    have hln := hA.ls.len
    have hb1 := rk_both l (t : Int)
    rw [show lo l.length (t : Int) = t by unfold lo; omega] at hb1
    have hle1 := rk1_le l (t : Int)
    have hle0 := rk0_le l (t : Int)
    have q1 : IntKind.i64.wrap ((rk0 l (t : Int) : Nat) + (rk1 l (t : Int) : Nat) : Int) = (t : Int) := by rw [IntWalk.i64_in _ (by omega)]; omega
    clear hb1 hle1 hle0 hln HA
    go_wp2
    obtain ⟨l0, l1, l2, l3, l4, l5⟩ := hA.box
    go_region_held3 (fun w' => w'.cell? ⟨bx, 0, none⟩ = some (.int .i64 (R.n : Int)) ∧ w'.cell? ⟨bx, 1, none⟩ = some (.slice R.a R.m R.c) ∧ w'.cell? ⟨bx, 2, none⟩ = some (.int .i64 (R.cn : Int)) ∧ w'.cell? ⟨bx, 3, none⟩ = some (.int .i64 (R.cW : Int)) ∧ w'.cell? ⟨bx, 4, none⟩ = some (.int .i64 (R.cL : Int)) ∧ w'.cell? ⟨bx, 5, none⟩ = some (.slice R.a2 R.m2 R.c2))
      (first
        | go_keep
        | exact ⟨hA.box.c0, hA.box.c1, hA.box.c2, hA.box.c3, hA.box.c4, hA.box.c5⟩)
      (first
        | (go_at_call 17; (with_reducible refine (rank0_la _ hA).mono ?_); rintro e u ⟨rfl, hA⟩)
        | (go_at_call 17; (with_reducible refine (rank0_la _ hA.drew).mono ?_); rintro e u ⟨rfl, hA⟩)
        | (go_at_call 16; (with_reducible refine (rank1_la _ hA).mono ?_); rintro e u ⟨rfl, hA⟩)
        | (go_at_call 16; (with_reducible refine (rank1_la _ hA.drew).mono ?_); rintro e u ⟨rfl, hA⟩))
    all_goals
      clear q1
      have HA := Lib.hid hA
      clear hA
      go_wp2_with fail
      clear l0 l1 l2 l3 l4 l5
      refine (ones_la HA.out).mono ?_
      clear HA
      rintro e u1 ⟨rfl, hA⟩
      obtain ⟨l0, l1, l2, l3, l4, l5⟩ := hA.box
      have HA := Lib.hid hA
      clear hA

      have hOle : rkN true l N ≤ N := rkN_le' true l N
      have hon := fun u (h : LA w bx R a N cap l u) => ones_la h
      generalize hOO : rkN true l N = O at *
      have HOO := Lib.hid hOO
      have HON := Lib.hid hon
      clear hon
      clear hOO
      go_upto_if 43 with fail
      go_cut [12, 13, 43] from 44 to 84 (fun v12 v13 v43 wx => LA w bx R a N cap l wx)
      case first =>
        by_cases hO : 0 < O
        · go_wp2_with fail
          clear l0 l1 l2 l3 l4 l5
          refine (HON.out _ HA.out).mono ?_
          clear HA
          rintro e u2 ⟨rfl, hA⟩
          obtain ⟨l0, l1, l2, l3, l4, l5⟩ := hA.box
          have HA := Lib.hid hA
          clear hA
          obtain ⟨y, hy, hy1, hy2⟩ := abs_rest k O hO
          have hne : (O : Int) ≠ 0 := by omega
          have hne2 : ((O : Int) == 0) = false := by simp; omega
          go_upto_if 49 with fail
          go_cut [12] from 50 to 51 (fun v12 wx => (∃ q : Nat, v12 = .int .i64 (q : Int) ∧ q < O) ∧ wx = u2)
          case first =>
            clear l0 l1 l2 l3 l4 l5
            by_cases hneg : y < 0
            · go_wp2
              go_meet
              exact ⟨⟨(-y).toNat, by simp only [Value.int.injEq, true_and]; omega, by omega⟩, rfl⟩
            · go_wp2
              go_meet
              exact ⟨⟨y.toNat, by simp only [Value.int.injEq, true_and]; omega, by omega⟩, rfl⟩
          case rest =>
            obtain ⟨⟨q, rfl, hq⟩, rfl⟩ := hcut
            clear hy hy1 hy2 hne hne2
            obtain ⟨p, hp, hsel, hgl, hr1, hr2⟩ := selN_some true l (q : Int) (by omega) (by rw [HA.out.ls.len, HOO.out]; omega)
            have e1 : (rk1 l (p : Int) : Int) = (q : Int) := by rw [rk1_at l p (by omega)]; exact hr1
            have e2 : (rk1 l ((p : Int) + 1) : Int) = (q : Int) + 1 := by rw [show (p : Int) + 1 = ((p + 1 : Nat) : Int) by omega, rk1_at l (p + 1) (by omega)]; exact hr2
            rw [HA.out.ls.len] at hp
            have HE := Lib.hid (And.intro hsel (And.intro hgl (And.intro e1 e2)))
            clear hsel hgl hr1 hr2 e1 e2
            go_wp2_with fail
            clear l0 l1 l2 l3 l4 l5
            refine (sel1_la (q : Int) HA.out).mono ?_
            clear HA
            rw [HE.out.1]
            rintro e u3 ⟨rfl, hA⟩
            obtain ⟨b2, o2, e2, hbl, hcb⟩ := bool_at hA.ls.bools (i := p) (by rw [hA.ls.len]; exact hp)
            rw [HE.out.2.1] at hcb
            subst e2
            have q1 : (p : Int) < (N : Int) := by omega
            have q2 : (0 : Int) ≤ (p : Int) := by omega
            obtain ⟨l0, l1, l2, l3, l4, l5⟩ := hA.box
            have HA := Lib.hid hA
            clear hA
            go_wp2_with fail
            clear l0 l1 l2 l3 l4 l5
            refine (rank1_la (p : Int) HA.out).mono ?_
            clear HA
            rw [HE.out.2.2.1]
            rintro e u4 ⟨rfl, hA⟩
            obtain ⟨l0, l1, l2, l3, l4, l5⟩ := hA.box
            have HA := Lib.hid hA
            clear hA
            go_wp2_with fail
            clear l0 l1 l2 l3 l4 l5
            refine (rank1_la ((p : Int) + 1) HA.out).mono ?_
            clear HA
            rw [HE.out.2.2.2]
            rintro e u5 ⟨rfl, hA⟩
            have HA := Lib.hid hA
            clear hA
            go_wp2
            go_meet
            exact HA.out
        · clear l0 l1 l2 l3 l4 l5
          go_wp2
          go_meet
          exact HA.out
      case rest =>
        clear l0 l1 l2 l3 l4 l5 HA
        have hA := hcut
        clear hcut
        obtain ⟨l0, l1, l2, l3, l4, l5⟩ := hA.box
        have HA := Lib.hid hA
        clear hA

        go_wp2_with fail
        clear l0 l1 l2 l3 l4 l5
        refine (HON.out _ HA.out).mono ?_
        clear HA
        rintro e u6 ⟨rfl, hA⟩
        obtain ⟨l0, l1, l2, l3, l4, l5⟩ := hA.box
        have HA := Lib.hid hA
        clear hA
        go_upto_if 88 with fail
        go_cut [14, 15, 88] from 89 to 130 (fun v14 v15 v88 wx => LA w bx R a N cap l wx)
        case first =>
          by_cases hO2 : O < N
          · obtain ⟨Z, hZe⟩ : ∃ Z : Nat, Z = N - O := ⟨_, rfl⟩
            have hZ : 0 < Z := by omega
            have hZN : Z ≤ N := by omega
            have hNO : (N : Int) - (O : Int) = (Z : Int) := by omega
            have HZZ : Hid (rkN false l N = Z) := Lib.hid (by have := rkN_both l N (by rw [HA.out.ls.len]; omega); rw [HOO.out] at this; omega)
            have q9 : (O : Int) < (N : Int) := by omega
            clear hZe
            go_wp2_with fail
            clear l0 l1 l2 l3 l4 l5
            refine (HON.out _ HA.out).mono ?_
            clear HA
            rintro e u2 ⟨rfl, hA⟩
            obtain ⟨l0, l1, l2, l3, l4, l5⟩ := hA.box
            have HA := Lib.hid hA
            clear hA
            obtain ⟨y, hy, hy1, hy2⟩ := abs_rest k Z hZ
            have hne : (Z : Int) ≠ 0 := by omega
            have hne2 : ((Z : Int) == 0) = false := by simp; omega
            go_upto_if 96 with fail
            go_cut [14] from 97 to 98 (fun v12 wx => (∃ q : Nat, v12 = .int .i64 (q : Int) ∧ q < Z) ∧ wx = u2)
            case first =>
              clear l0 l1 l2 l3 l4 l5
              by_cases hneg : y < 0
              · go_wp2
                go_meet
                exact ⟨⟨(-y).toNat, by simp only [Value.int.injEq, true_and]; omega, by omega⟩, rfl⟩
              · go_wp2
                go_meet
                exact ⟨⟨y.toNat, by simp only [Value.int.injEq, true_and]; omega, by omega⟩, rfl⟩
            case rest =>
              obtain ⟨⟨q, rfl, hq⟩, rfl⟩ := hcut
              clear hy hy1 hy2 hne hne2
              obtain ⟨p, hp, hsel, hgl, hr1, hr2⟩ := selN_some false l (q : Int) (by omega) (by rw [HA.out.ls.len, HZZ.out]; omega)
              have e1 : (rk0 l (p : Int) : Int) = (q : Int) := by rw [rk0_at l p (by omega)]; exact hr1
              have e2 : (rk0 l ((p : Int) + 1) : Int) = (q : Int) + 1 := by rw [show (p : Int) + 1 = ((p + 1 : Nat) : Int) by omega, rk0_at l (p + 1) (by omega)]; exact hr2
              rw [HA.out.ls.len] at hp
              have HE := Lib.hid (And.intro hsel (And.intro hgl (And.intro e1 e2)))
              clear hsel hgl hr1 hr2 e1 e2
              go_wp2_with fail
              clear l0 l1 l2 l3 l4 l5
              refine (sel0_la (q : Int) HA.out).mono ?_
              clear HA
              rw [HE.out.1]
              rintro e u3 ⟨rfl, hA⟩
              obtain ⟨b2, o2, e2, hbl, hcb⟩ := bool_at hA.ls.bools (i := p) (by rw [hA.ls.len]; exact hp)
              rw [HE.out.2.1] at hcb
              subst e2
              have q1 : (p : Int) < (N : Int) := by omega
              have q2 : (0 : Int) ≤ (p : Int) := by omega
              obtain ⟨l0, l1, l2, l3, l4, l5⟩ := hA.box
              have HA := Lib.hid hA
              clear hA
              go_wp2_with fail
              clear l0 l1 l2 l3 l4 l5
              refine (rank0_la (p : Int) HA.out).mono ?_
              clear HA
              rw [HE.out.2.2.1]
              rintro e u4 ⟨rfl, hA⟩
              obtain ⟨l0, l1, l2, l3, l4, l5⟩ := hA.box
              have HA := Lib.hid hA
              clear hA
              go_wp2_with fail
              clear l0 l1 l2 l3 l4 l5
              refine (rank0_la ((p : Int) + 1) HA.out).mono ?_
              clear HA
              rw [HE.out.2.2.2]
              rintro e u5 ⟨rfl, hA⟩
              have HA := Lib.hid hA
              clear hA
              go_wp2
              go_meet
              exact HA.out

          · clear l0 l1 l2 l3 l4 l5
            have q9 : ¬ (O : Int) < (N : Int) := by omega
            go_wp2
            go_meet
            exact HA.out
        case rest =>
          clear l0 l1 l2 l3 l4 l5 HA
          have HB := Lib.hid hcut.ls.bel
          clear hcut
          go_wp2
          go_ret
          exact ⟨rfl, HB.out⟩

end Go.Proofs.Ytfhlcclbjagdmaa
