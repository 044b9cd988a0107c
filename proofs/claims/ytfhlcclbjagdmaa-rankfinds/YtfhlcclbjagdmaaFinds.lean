/- Where one is, is as P3.2 says: the walk of RankFinds. -/
import Derived.Test.YtfhlcclbjagdmaaKM
namespace Go.Proofs.Ytfhlcclbjagdmaa
open Go.RowKit
open M
attribute [local go_sem ↓] Go.wp_at_zero Go.wp_at_succ

set_option maxRecDepth 100000 in
set_option maxHeartbeats 4000000 in
theorem finds_walk (A : Option Addr) (n c : Nat) (B : Option Addr) (m d : Nat) (bs : List Bool) (ts : List Int) (k i : Int) (w : World) (hA : BoolsAt w A bs) (hbs : bs.length = n) (hB : NumsAt .i64 w B ts) (hts : ts.length = m) (hk2 : k ≤ 9223372036854775807) (hi1 : -9223372036854775808 ≤ i) (hi2 : i ≤ 9223372036854775807) :
    Calls Try.prog 4 #[.agg #[.slice A n c, .slice B m d], .int .i64 k, .int .i64 i] w fun e w' => e = .returned (.bool true) ∧ Below w.heap.size w w' := by
  have hl := fun u (hb : Below w.heap.size w u) => list_ls A n c B m d bs ts hA hbs hB hts hb
  have HL := Lib.hid hl
  clear hl hA hbs hB hts
  have hund : undef = Value.tuple #[] := rfl
  go_enter Try.func4, Try.ntmps4
  go_wp2_with fail
  refine (awake_any _).mono ?_
  rintro e w1 ⟨rfl, hb1⟩
  have hb0 : Below w.heap.size w w1 := ((Below.refl _ _).alloc (Nat.le_refl _) _).trans (hb1.mono (by simp))
  have c0 := hb1.cell (p := ⟨w.heap.size, 0, none⟩) (by simp)
  have c1 := hb1.cell (p := ⟨w.heap.size, 1, none⟩) (by simp)
  rw [cell_new _ _ _ _ _ rfl] at c0 c1
  have c0 : w1.cell? ⟨w.heap.size, 0, none⟩ = some (.slice A n c) := c0
  have c1 : w1.cell? ⟨w.heap.size, 1, none⟩ = some (.slice B m d) := c1
  have HB := Lib.hid hb0
  clear hb0 hb1
  go_wp2_with fail
  clear c0 c1
  refine (HL.out _ HB.out).mono ?_
  rintro e w2 ⟨a, N, cap, l, rfl, hls⟩
  have HS := Lib.hid hls
  have hN := hls.le
  clear hls HL HB
  go_wp2_with fail
  refine (mk_ls HS.out).mono ?_
  rintro e w3 ⟨g3, m3, rfl, hrow, hls⟩
  have HN := Lib.hid (new_ls hls hrow)
  clear hls hrow HS
  go_wp2_with fail
  refine HN.out.mono ?_
  rintro e w4 ⟨R, rfl, hrk, hnn, -, -, -, hls⟩
  have HA := Lib.hid (LA.new hls hrk hnn)
  clear hls hrk hnn HN
  by_cases hk : 0 ≤ k
  · go_wp2_with fail
    refine (lsel_la true k hk hk2 HA.out).mono ?_
    rintro e u0 ⟨rfl, hA⟩
    obtain ⟨l0, l1, l2, l3, l4, l5⟩ := hA.box
    have HA0 := Lib.hid hA
    clear hA HA
    have HA := HA0
    clear HA0
    go_wp2_with fail
    clear l0 l1 l2 l3 l4 l5
    refine (lsel_la false k hk hk2 HA.out).mono ?_
    rintro e u1 ⟨rfl, hA⟩
    obtain ⟨l0, l1, l2, l3, l4, l5⟩ := hA.box
    have HA1 := Lib.hid hA
    clear hA HA
    have HA := HA1
    clear HA1
    go_wp2_with fail
    clear l0 l1 l2 l3 l4 l5
    refine (sel1_la k HA.out).mono ?_
    rintro e u2 ⟨rfl, hA⟩
    obtain ⟨l0, l1, l2, l3, l4, l5⟩ := hA.box
    have HA2 := Lib.hid hA
    clear hA HA
    have HA := HA2
    clear HA2
    go_wp2_with fail
    clear l0 l1 l2 l3 l4 l5
    refine (sel0_la k HA.out).mono ?_
    rintro e u3 ⟨rfl, hA⟩
    obtain ⟨l0, l1, l2, l3, l4, l5⟩ := hA.box
    have HA3 := Lib.hid hA
    clear hA HA
    have HA := HA3
    clear HA3
    go_wp2_with fail
    clear l0 l1 l2 l3 l4 l5
    refine (next_la i HA.out).mono ?_
    rintro e u4 ⟨rfl, hA⟩
    obtain ⟨l0, l1, l2, l3, l4, l5⟩ := hA.box
    have HA4 := Lib.hid hA
    clear hA HA
    have HA := HA4
    clear HA4
    go_wp2_with fail
    clear l0 l1 l2 l3 l4 l5
    refine (lnext_la i hi2 HA.out).mono ?_
    rintro e u5 ⟨rfl, hA⟩
    obtain ⟨l0, l1, l2, l3, l4, l5⟩ := hA.box
    have HA5 := Lib.hid hA
    clear hA HA
    have HA := HA5
    clear HA5
    go_wp2_with fail
    clear l0 l1 l2 l3 l4 l5
    refine (prev_la i hi1 HA.out).mono ?_
    rintro e u6 ⟨rfl, hA⟩
    obtain ⟨l0, l1, l2, l3, l4, l5⟩ := hA.box
    have HA6 := Lib.hid hA
    clear hA HA
    have HA := HA6
    clear HA6
    go_wp2_with fail
    clear l0 l1 l2 l3 l4 l5
    refine (lprev_la i hi1 HA.out).mono ?_
    rintro e u7 ⟨rfl, hA⟩
    have HB := Lib.hid hA.ls.bel
    clear hA HA
    go_wp2
    go_ret
    exact ⟨rfl, HB.out⟩
  · have e1 : selN true l k = -1 := selN_none true l k (.inl (by omega))
    have e2 : selN false l k = -1 := selN_none false l k (.inl (by omega))
    go_wp2_with fail
    refine (sel1_la k HA.out).mono ?_
    rintro e u0 ⟨rfl, hA⟩
    obtain ⟨l0, l1, l2, l3, l4, l5⟩ := hA.box
    have HA0 := Lib.hid hA
    clear hA HA
    have HA := HA0
    clear HA0
    go_wp2_with fail
    clear l0 l1 l2 l3 l4 l5
    refine (sel0_la k HA.out).mono ?_
    rintro e u1 ⟨rfl, hA⟩
    obtain ⟨l0, l1, l2, l3, l4, l5⟩ := hA.box
    have HA1 := Lib.hid hA
    clear hA HA
    have HA := HA1
    clear HA1
    go_wp2_with fail
    clear l0 l1 l2 l3 l4 l5
    refine (next_la i HA.out).mono ?_
    rintro e u2 ⟨rfl, hA⟩
    obtain ⟨l0, l1, l2, l3, l4, l5⟩ := hA.box
    have HA2 := Lib.hid hA
    clear hA HA
    have HA := HA2
    clear HA2
    go_wp2_with fail
    clear l0 l1 l2 l3 l4 l5
    refine (lnext_la i hi2 HA.out).mono ?_
    rintro e u3 ⟨rfl, hA⟩
    obtain ⟨l0, l1, l2, l3, l4, l5⟩ := hA.box
    have HA3 := Lib.hid hA
    clear hA HA
    have HA := HA3
    clear HA3
    go_wp2_with fail
    clear l0 l1 l2 l3 l4 l5
    refine (prev_la i hi1 HA.out).mono ?_
    rintro e u4 ⟨rfl, hA⟩
    obtain ⟨l0, l1, l2, l3, l4, l5⟩ := hA.box
    have HA4 := Lib.hid hA
    clear hA HA
    have HA := HA4
    clear HA4
    go_wp2_with fail
    clear l0 l1 l2 l3 l4 l5
    refine (lprev_la i hi1 HA.out).mono ?_
    rintro e u5 ⟨rfl, hA⟩
    have HB := Lib.hid hA.ls.bel
    clear hA HA
    go_wp2
    go_ret
    exact ⟨rfl, HB.out⟩

end Go.Proofs.Ytfhlcclbjagdmaa
