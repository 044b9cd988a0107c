/- How many are ahead is as P3.1 says: the walk of RankCounts. -/
import Derived.Test.YtfhlcclbjagdmaaKM
import Derived.Deep.CutRange
import Derived.Deep.CutBlock
namespace Go.Proofs.Ytfhlcclbjagdmaa
open Go.RowKit
open M
attribute [local go_sem ↓] Go.wp_at_zero Go.wp_at_succ

/-- The list, its row of bits in a box at bb, and its rank in a box at b. -/
structure LC (w : World) (bb b : Nat) (R : RP) (a : Option Addr) (N cap : Nat) (a3 : Option Addr) (m3 c3 : Nat) (l : List Bool) (u : World) : Prop where
  la : LA w b R a N cap l u
  bx : Bx u bb N (.slice a3 m3 c3)
  row : RowAt u (.slice a3 m3 c3) l
variable {w u u' : World} {bb b : Nat} {R : RP} {a : Option Addr} {N cap : Nat} {a3 : Option Addr} {m3 c3 : Nat} {l : List Bool}
theorem LC.kept (h : LC w bb b R a N cap a3 m3 c3 l u) (hb : Below u.heap.size u u') : LC w bb b R a N cap a3 m3 c3 l u' := ⟨h.la.kept hb, h.bx.kept hb, h.row.kept hb⟩
theorem LC.drew (h : LC w bb b R a N cap a3 m3 c3 l u) : LC w bb b R a N cap a3 m3 c3 l u.drew := h.kept ((Below.refl _ _).drew)

theorem len_lc (h : LC w bb b R a N cap a3 m3 c3 l u) : Calls Try.prog 13 #[.agg #[.int .i64 (R.n : Int), .slice R.a R.m R.c, .int .i64 (R.cn : Int), .int .i64 (R.cW : Int), .int .i64 (R.cL : Int), .slice R.a2 R.m2 R.c2]] u fun e u' => e = .returned (.int .i64 (N : Int)) ∧ LC w bb b R a N cap a3 m3 c3 l u' :=
  (rlen_any R l u h.la.rk).mono fun _ _ hh => ⟨hh.1.trans (ret_int (by rw [h.la.nn])), h.kept hh.2⟩
theorem ones_lc (h : LC w bb b R a N cap a3 m3 c3 l u) : Calls Try.prog 14 #[.agg #[.int .i64 (R.n : Int), .slice R.a R.m R.c, .int .i64 (R.cn : Int), .int .i64 (R.cW : Int), .int .i64 (R.cL : Int), .slice R.a2 R.m2 R.c2]] u fun e u' => e = .returned (.int .i64 (rkN true l N : Nat)) ∧ LC w bb b R a N cap a3 m3 c3 l u' :=
  (rones_any R l u h.la.rk).mono fun _ _ hh => ⟨hh.1.trans (ret_int (by rw [h.la.ls.len])), h.kept hh.2⟩
theorem rank1_lc (i : Int) (h : LC w bb b R a N cap a3 m3 c3 l u) : Calls Try.prog 16 #[.agg #[.int .i64 (R.n : Int), .slice R.a R.m R.c, .int .i64 (R.cn : Int), .int .i64 (R.cW : Int), .int .i64 (R.cL : Int), .slice R.a2 R.m2 R.c2], .int .i64 i] u fun e u' => e = .returned (.int .i64 (rk1 l i : Nat)) ∧ LC w bb b R a N cap a3 m3 c3 l u' :=
  (rank1_any R l i u h.la.rk).mono fun _ _ hh => ⟨hh.1, h.kept hh.2⟩
theorem rank0_lc (i : Int) (h : LC w bb b R a N cap a3 m3 c3 l u) : Calls Try.prog 17 #[.agg #[.int .i64 (R.n : Int), .slice R.a R.m R.c, .int .i64 (R.cn : Int), .int .i64 (R.cW : Int), .int .i64 (R.cL : Int), .slice R.a2 R.m2 R.c2], .int .i64 i] u fun e u' => e = .returned (.int .i64 (rk0 l i : Nat)) ∧ LC w bb b R a N cap a3 m3 c3 l u' :=
  (rank0_any R l i u h.la.rk).mono fun _ _ hh => ⟨hh.1, h.kept hh.2⟩
theorem one_lc (i : Int) (h : LC w bb b R a N cap a3 m3 c3 l u) : Calls Try.prog 18 #[.agg #[.int .i64 (R.n : Int), .slice R.a R.m R.c, .int .i64 (R.cn : Int), .int .i64 (R.cW : Int), .int .i64 (R.cL : Int), .slice R.a2 R.m2 R.c2], .int .i64 i] u fun e u' => e = .returned (.int .i64 (oneI l i)) ∧ LC w bb b R a N cap a3 m3 c3 l u' :=
  (rone_any R l i u h.la.rk).mono fun _ _ hh => ⟨hh.1, h.kept hh.2⟩
theorem bits_lc (h : LC w bb b R a N cap a3 m3 c3 l u) : Calls Try.prog 19 #[.agg #[.int .i64 (R.n : Int), .slice R.a R.m R.c, .int .i64 (R.cn : Int), .int .i64 (R.cW : Int), .int .i64 (R.cL : Int), .slice R.a2 R.m2 R.c2]] u fun e u' => e = .returned (.agg #[.int .i64 (R.n : Int), .slice R.a R.m R.c]) ∧ LC w bb b R a N cap a3 m3 c3 l u' :=
  (rbits_any R u).mono fun _ _ hh => ⟨hh.1, h.kept hh.2⟩
theorem lr1_lc (i : Int) (h : LC w bb b R a N cap a3 m3 c3 l u) : Calls Try.prog 15 #[.slice a N cap, .bool true, .int .i64 i] u fun e u' => e = .returned (.int .i64 (rk1 l i : Nat)) ∧ LC w bb b R a N cap a3 m3 c3 l u' :=
  (rrank_any true a N cap l i u h.la.ls.bools h.la.ls.len (by have := h.la.ls.le; omega)).mono fun _ _ hh => ⟨hh.1.trans (ret_int (by unfold rk1; rw [h.la.ls.len])), hh.2 ▸ h⟩
theorem lr0_lc (i : Int) (h : LC w bb b R a N cap a3 m3 c3 l u) : Calls Try.prog 15 #[.slice a N cap, .bool false, .int .i64 i] u fun e u' => e = .returned (.int .i64 (rk0 l i : Nat)) ∧ LC w bb b R a N cap a3 m3 c3 l u' :=
  (rrank_any false a N cap l i u h.la.ls.bools h.la.ls.len (by have := h.la.ls.le; omega)).mono fun _ _ hh => ⟨hh.1.trans (ret_int (by unfold rk0; rw [h.la.ls.len])), hh.2 ▸ h⟩
theorem same_lc (h : LC w bb b R a N cap a3 m3 c3 l u) : Calls Try.prog 20 #[.agg #[.int .i64 (R.n : Int), .slice R.a R.m R.c], .agg #[.int .i64 (N : Int), .slice a3 m3 c3]] u fun e u' => e = .returned (.bool true) ∧ LC w bb b R a N cap a3 m3 c3 l u' := by
  have hs := same_any R.a a3 R.m R.c m3 c3 l l u h.la.rk.row h.row (by rw [h.la.rk.len]; exact h.la.rk.small)
  rw [h.la.ls.len, ← h.la.nn] at hs
  rw [← h.la.nn]
  refine hs.mono ?_
  rintro e u' ⟨rfl, hb⟩
  rw [h.la.nn]
  exact ⟨by simp, h.kept hb⟩

theorem new_c {w u : World} {a : Option Addr} {N cap : Nat} {l : List Bool} {a2 : Option Addr} {m2 c2 : Nat} (h : LS w a N cap l u) (hr : RowAt u (.slice a2 m2 c2) l) :
    Calls Try.prog 12 #[.agg #[.int .i64 (N : Int), .slice a2 m2 c2]] u fun e u' => ∃ R : RP, e = .returned (.agg #[.int .i64 (R.n : Int), .slice R.a R.m R.c, .int .i64 (R.cn : Int), .int .i64 (R.cW : Int), .int .i64 (R.cL : Int), .slice R.a2 R.m2 R.c2]) ∧ RK u' R l ∧ R.n = N ∧ Below u.heap.size u u' := by
  have hm := rnew_any a2 m2 c2 l u hr (by rw [h.len]; have := h.le; omega)
  rw [h.len] at hm
  refine hm.mono ?_
  rintro e u' ⟨R, rfl, hk, -, hb⟩
  exact ⟨R, rfl, hk, by rw [← hk.len]; exact h.len, hb⟩

set_option maxRecDepth 100000 in
set_option maxHeartbeats 4000000 in
theorem counts_walk (A : Option Addr) (n c : Nat) (B : Option Addr) (m d : Nat) (bs : List Bool) (ts : List Int) (i : Int) (w : World) (hA : BoolsAt w A bs) (hbs : bs.length = n) (hB : NumsAt .i64 w B ts) (hts : ts.length = m) :
    Calls Try.prog 3 #[.agg #[.slice A n c, .slice B m d], .int .i64 i] w fun e w' => e = .returned (.bool true) ∧ Below w.heap.size w w' := by
  have hl := fun u (hb : Below w.heap.size w u) => list_ls A n c B m d bs ts hA hbs hB hts hb
  have HL := Lib.hid hl
  clear hl hA hbs hB hts
  have hund : undef = Value.tuple #[] := rfl
  go_enter Try.func3, Try.ntmps3
  go_wp2_with fail
  refine (awake_any _).mono ?_
  rintro e w1 ⟨rfl, hb1⟩
  have hb0 : Below w.heap.size w w1 := ((Below.refl _ _).alloc (Nat.le_refl _) _).trans (hb1.mono (by simp))
  have c0 := hb1.cell (p := ⟨w.heap.size, 0, none⟩) (by simp)
  have c1 := hb1.cell (p := ⟨w.heap.size, 1, none⟩) (by simp)
  rw [cell_new _ _ _ _ _ rfl] at c0 c1
  have c0 : w1.cell? ⟨w.heap.size, 0, none⟩ = some (.slice A n c) := c0
  have c1 : w1.cell? ⟨w.heap.size, 1, none⟩ = some (.slice B m d) := c1
  have HB := Lib.hid hb0
  clear hb0 hb1
  go_wp2_with fail
  clear c0 c1
  refine (HL.out _ HB.out).mono ?_
  rintro e w2 ⟨a, N, cap, l, rfl, hls⟩
  have HS := Lib.hid hls
  have hN := hls.le
  clear hls HL HB
  go_wp2_with fail
  refine (mk_ls HS.out).mono ?_
  rintro e w3 ⟨g3, m3, rfl, hrow, hls⟩
  have hbx := (Below.refl w3.heap.size w3).alloc (Nat.le_refl _) (.cells #[.int .i64 (N : Int), .slice (some ⟨g3, 0, none⟩) m3 m3] 30)
  have HN := Lib.hid (And.intro (new_c (hls.kept hbx) (hrow.kept hbx)) (And.intro (hrow.kept hbx) (And.intro (Bx.new w3 N (.slice (some ⟨g3, 0, none⟩) m3 m3)) (hls.kept hbx))))
  clear hls hrow HS hbx
  go_wp2_with fail
  refine HN.out.1.mono ?_
  rintro e w4 ⟨R, rfl, hrk, hnn, hb4⟩
  have hal := rbel w4 R
  have hA : LC w w3.heap.size w4.heap.size R a N cap (some ⟨g3, 0, none⟩) m3 m3 l (w4.alloc (.cells #[.int .i64 (R.n : Int), .slice R.a R.m R.c, .int .i64 (R.cn : Int), .int .i64 (R.cW : Int), .int .i64 (R.cL : Int), .slice R.a2 R.m2 R.c2] 35)) :=
    ⟨LA.new (HN.out.2.2.2.kept hb4) hrk hnn, (HN.out.2.2.1.kept hb4).kept hal, (HN.out.2.1.kept hb4).kept hal⟩
  clear hrk hnn hb4 hal HN
  have hln := hA.la.ls.len
  have hbo := hA.la.ls.bools
  have HA := Lib.hid hA
  have HLB := Lib.hid (And.intro hln hbo)
  clear hA hln hbo
  go_upto_region 6 with fail
  generalize hW : w4.alloc (.cells #[.int .i64 (R.n : Int), .slice R.a R.m R.c, .int .i64 (R.cn : Int), .int .i64 (R.cW : Int), .int .i64 (R.cL : Int), .slice R.a2 R.m2 R.c2] 35) = W at *
  have HW := Lib.hid hW
  clear hW
  go_cut [30] from 17 to 30 (fun v30 wx => v30 = .bool (getB l i) ∧ wx = W)
  case first =>
    by_cases h0 : 0 ≤ i
    · obtain ⟨j, rfl⟩ := Int.eq_ofNat_of_zero_le h0
      by_cases h1 : j < N
      · obtain ⟨b2, o2, e2, hbl, hcb⟩ := bool_at HLB.out.2 (i := j) (by rw [HLB.out.1]; exact h1)
        have hg : getB l (j : Int) = l.getD j false := by simp [getB]
        subst e2
        have HG := Lib.hid hg
        generalize l.getD j false = y at *
        clear hg
        have q1 : (j : Int) < (N : Int) := by omega
        go_wp2
        go_meet
        exact ⟨by rw [HG.out], rfl⟩
      · have hg : getB l (j : Int) = false := by
          unfold getB
          rw [List.getD_eq_getElem?_getD, List.getElem?_eq_none (by rw [HLB.out.1]; simp; omega)]; simp
        have HG := Lib.hid hg
        clear hg
        go_wp2
        go_meet
        exact ⟨by rw [HG.out], rfl⟩
    · have hg : getB l i = false := by simp [getB]; intro h; omega
      have HG := Lib.hid hg
      clear hg
      go_wp2
      go_meet
      exact ⟨by rw [HG.out], rfl⟩
  case rest =>
    obtain ⟨rfl, rfl⟩ := hcut
    go_upto_if 30 with fail
    go_cut [9] from 31 to 31 (fun v9 wx => v9 = .int .i64 (oneI l i) ∧ wx = wc)
    case first =>
      have ho : oneI l i = if getB l i then 1 else 0 := rfl
      have HO := Lib.hid ho
      clear ho
      generalize getB l i = y at *
      cases y
      · go_wp2
        go_meet
        exact ⟨by rw [HO.out]; rfl, rfl⟩
      · go_wp2
        go_meet
        exact ⟨by rw [HO.out]; rfl, rfl⟩
    case rest =>
      obtain ⟨rfl, rfl⟩ := hcut
      have hA := HA.out
      have e2 : rk1 l (N : Int) = rkN true l N := rk1_all l N hA.la.ls.len
      clear HLB HA HW
      go_wp2
      generalize w3.heap.size = bb at *
      generalize w4.heap.size = bx at *
      obtain ⟨l0, l1, l2, l3, l4, l5⟩ := hA.la.box
      obtain ⟨k0, k1⟩ := hA.bx
      go_region_held3 (fun w' => w'.cell? ⟨bx, 0, none⟩ = some (.int .i64 (R.n : Int)) ∧ w'.cell? ⟨bx, 1, none⟩ = some (.slice R.a R.m R.c) ∧ w'.cell? ⟨bx, 2, none⟩ = some (.int .i64 (R.cn : Int)) ∧ w'.cell? ⟨bx, 3, none⟩ = some (.int .i64 (R.cW : Int)) ∧ w'.cell? ⟨bx, 4, none⟩ = some (.int .i64 (R.cL : Int)) ∧ w'.cell? ⟨bx, 5, none⟩ = some (.slice R.a2 R.m2 R.c2) ∧ w'.cell? ⟨bb, 0, none⟩ = some (.int .i64 (N : Int)) ∧ w'.cell? ⟨bb, 1, none⟩ = some (.slice (some ⟨g3, 0, none⟩) m3 m3))
        (first
          | go_keep
          | exact ⟨hA.la.box.c0, hA.la.box.c1, hA.la.box.c2, hA.la.box.c3, hA.la.box.c4, hA.la.box.c5, hA.bx.1, hA.bx.2⟩)
        (first
          | (go_at_call 13; (with_reducible refine (len_lc hA).mono ?_); rintro e u ⟨rfl, hA⟩)
          | (go_at_call 13; (with_reducible refine (len_lc hA.drew).mono ?_); rintro e u ⟨rfl, hA⟩)
          | (go_at_call 14; (with_reducible refine (ones_lc hA).mono ?_); rintro e u ⟨rfl, hA⟩)
          | (go_at_call 15; (with_reducible refine (lr1_lc _ hA).mono ?_); rintro e u ⟨rfl, hA⟩)
          | (go_at_call 15; (with_reducible refine (lr0_lc _ hA).mono ?_); rintro e u ⟨rfl, hA⟩)
          | (go_at_call 16; (with_reducible refine (rank1_lc _ hA).mono ?_); rintro e u ⟨rfl, hA⟩)
          | (go_at_call 17; (with_reducible refine (rank0_lc _ hA).mono ?_); rintro e u ⟨rfl, hA⟩)
          | (go_at_call 18; (with_reducible refine (one_lc _ hA).mono ?_); rintro e u ⟨rfl, hA⟩)
          | (go_at_call 19; (with_reducible refine (bits_lc hA).mono ?_); rintro e u ⟨rfl, hA⟩)
          | (go_at_call 20; (with_reducible refine (same_lc hA).mono ?_); rintro e u ⟨rfl, hA⟩))
      all_goals
        have HB := Lib.hid hA.la.ls.bel
        clear hA
        go_wp2
        go_ret
        exact ⟨rfl, HB.out⟩

end Go.Proofs.Ytfhlcclbjagdmaa
