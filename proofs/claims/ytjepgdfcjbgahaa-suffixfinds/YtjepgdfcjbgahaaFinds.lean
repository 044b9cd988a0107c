/- The walk of SuffixFinds. -/
import Derived.Test.YtjepgdfcjbgahaaOrders
import Derived.Test.YtjepgdfcjbgahaaXV
set_option maxRecDepth 100000
namespace Go.Proofs.Ytjepgdfcjbgahaa
open Go.RowKit
open M
attribute [local go_sem ↓] Go.wp_at_zero Go.wp_at_succ

set_option maxHeartbeats 8000000 in
theorem finds_walk (A B C : Option Addr) (n0 c0 m0 d0 k0 e0 : Nat) (xs ys zs : List Int) (q0 : Int) (raw : Bool) (w : World) (hA : NumsAt .i64 w A xs) (hx : xs.length = n0) (hB : NumsAt .i64 w B ys) (hy : ys.length = m0) (hd : m0 ≤ d0) (hy64 : I64s ys) (hC : NumsAt .i64 w C zs) (hz : zs.length = k0) (he : k0 ≤ e0) :
    Calls Try.prog 5 #[.slice A n0 c0, .slice B m0 d0, .agg #[.int .i64 q0, .bool raw, .slice C k0 e0]] w fun e w' => e = .returned (.bool true) ∧ Below w.heap.size w w' := by
  have hfB := fun u => few_any B m0 d0 u hd
  have hfC := fun u => few_any C k0 e0 u he
  have hal := fun u (hu : NumsAt .i64 u A xs) => alike_any A n0 c0 xs q0 u hu hx
  have hal2 := fun u (hu : NumsAt .i64 u B ys) => alike_any B m0 d0 ys q0 u hu hy
  have hcl := cutL_len (kindN q0) xs (min n0 40) (by rw [hx]; omega)
  have hci := cutL_in (kindN q0) xs (min n0 40) (by have := kindN_in q0; omega)
  have hcl2 := cutL_len (kindN q0) ys (min m0 40) (by rw [hy]; omega)
  have hci2 := cutL_in (kindN q0) ys (min m0 40) (by have := kindN_in q0; omega)
  obtain ⟨n, hn⟩ : ∃ n, n = min n0 40 := ⟨_, rfl⟩
  rw [← hn] at hcl hci
  simp only [← hn] at hal
  have hn40 : n ≤ 40 := by omega
  obtain ⟨M, hM⟩ : ∃ M, M = cutL (kindN q0) xs n := ⟨_, rfl⟩
  rw [← hM] at hcl hci
  simp only [← hM] at hal
  have h64 : I64s M := fun x hx => by
    have := hci x hx
    have := kindN_in q0
    omega
  have hC' := hC.take (min k0 40)
  have hCl : (zs.take (min k0 40)).length = min k0 40 := by rw [List.length_take]; omega
  obtain ⟨k, hk⟩ : ∃ k, k = min k0 40 := ⟨_, rfl⟩
  rw [← hk] at hC' hCl
  simp only [← hk] at hfC
  have hk40 : k ≤ 40 := by omega
  obtain ⟨Z, hZ⟩ : ∃ Z, Z = zs.take k := ⟨_, rfl⟩
  rw [← hZ] at hC' hCl
  have hb0 : Below w.heap.size w (w.alloc (.cells #[.int .i64 q0, .bool raw, .slice C k0 e0] 34)) := al _ _
  obtain ⟨b, hb⟩ : ∃ b, b = w.heap.size := ⟨_, rfl⟩
  obtain ⟨w0, hw0⟩ : ∃ w0, w0 = w.alloc (.cells #[.int .i64 q0, .bool raw, .slice C k0 e0] 34) := ⟨_, rfl⟩
  have a0 : w0.cell? ⟨b, 0, none⟩ = some (.int .i64 q0) := by rw [hw0, cell_new _ _ _ _ _ hb]; rfl
  have a1 : w0.cell? ⟨b, 1, none⟩ = some (.bool raw) := by rw [hw0, cell_new _ _ _ _ _ hb]; rfl
  have a2 : w0.cell? ⟨b, 2, none⟩ = some (.slice C k0 e0) := by rw [hw0, cell_new _ _ _ _ _ hb]; rfl
  rw [← hw0] at hb0
  have hblt := World.block_lt_of_cell? w0 _ a0
  have HX := Lib.hid (And.intro hA (And.intro hal (And.intro hcl (And.intro h64 (And.intro hC' (And.intro hCl hfC))))))
  have HY := Lib.hid (And.intro hB (And.intro hal2 (And.intro hcl2 (And.intro hci2 (And.intro hfB (And.intro hy (And.intro hd hy64)))))))
  have HC := Lib.hid (And.intro a0 (And.intro a1 (And.intro a2 (And.intro hblt hb0))))
  clear hA hx hB hy hd hy64 hC hz he hfB hfC hal hal2 hcl hci hcl2 hci2 hn hM h64 hC' hCl hk hZ hb0 a0 a1 a2 hblt
  go_enter Try.func5, Try.ntmps5
  go_upto_region 1 with fail
  rw [← hw0, ← hb]
  clear hw0 hb
  go_wp2_with fail
  (with_reducible refine (awake_any _).mono ?_)
  rintro e w1 ⟨rfl, hb1⟩
  have c0 : w1.cell? ⟨b, 0, none⟩ = some (.int .i64 q0) := by rw [hb1.cell (p := ⟨b, 0, none⟩) HC.out.2.2.2.1]; exact HC.out.1
  have hbw := HC.out.2.2.2.2.trans (hb1.mono HC.out.2.2.2.2.size)
  have H1 := Lib.hid (And.intro hb1 hbw)
  clear hb1 hbw
  go_wp2_with fail
  (with_reducible refine (HX.out.2.1 _ (HX.out.1.kept H1.out.2)).mono ?_)
  rintro e u ⟨v, rfl, hI⟩
  obtain ⟨P, pc, rfl, hPn, -, hpc, -, hPN⟩ := nums_of_own hI.1
  rw [HX.out.2.2.1] at hpc ⊢
  have hb0 := H1.out.1.trans (hI.2.mono H1.out.1.size)
  have hbw := H1.out.2.trans (hI.2.mono H1.out.2.size)
  have c0 : u.cell? ⟨b, 0, none⟩ = some (.int .i64 q0) := by rw [hb0.cell (p := ⟨b, 0, none⟩) HC.out.2.2.2.1]; exact HC.out.1
  have H2 := Lib.hid (And.intro hPn (And.intro hpc (And.intro hPN (And.intro hb0 hbw))))
  clear hI hPn hpc hPN hb0 hbw
  go_wp2_with fail
  (with_reducible refine (HY.out.2.1 _ (HY.out.1.kept H2.out.2.2.2.2)).mono ?_)
  rintro e u2 ⟨v, rfl, hI⟩
  obtain ⟨R, rc, rfl, hRn, -, hrc, -, -⟩ := nums_of_own hI.1
  rw [HY.out.2.2.1] at hrc ⊢
  have hb0 := H2.out.2.2.2.1.trans (hI.2.mono H2.out.2.2.2.1.size)
  have hbw := H2.out.2.2.2.2.trans (hI.2.mono H2.out.2.2.2.2.size)
  have c1 : u2.cell? ⟨b, 1, none⟩ = some (.bool raw) := by rw [hb0.cell (p := ⟨b, 1, none⟩) HC.out.2.2.2.1]; exact HC.out.2.1
  have c2 : u2.cell? ⟨b, 2, none⟩ = some (.slice C k0 e0) := by rw [hb0.cell (p := ⟨b, 2, none⟩) HC.out.2.2.2.1]; exact HC.out.2.2.1
  have H3 := Lib.hid (And.intro (H2.out.1.kept hI.2) (And.intro hRn (And.intro hrc (And.intro hb0 hbw))))
  clear hI hRn hrc hb0 hbw c0
  obtain ⟨m, hm⟩ : ∃ m, m = min m0 40 := ⟨_, rfl⟩
  have hm1 : m ≤ m0 := by omega
  rw [← hm] at H3 HY ⊢
  clear hm
  have hBw := (HY.out.1.kept H3.out.2.2.2.2).take m
  have hBl : (ys.take m).length = m := by rw [List.length_take, HY.out.2.2.2.2.2.1]; omega
  have hBa : Abv b0 (ys.take m) := i64_abv (fun x hx => HY.out.2.2.2.2.2.2.2 x (List.mem_of_mem_take hx))
  have hCa : Abv b0 (cutL (kindN q0) ys m) := fun x hx => by have := HY.out.2.2.2.1 x hx; unfold b0; omega
  have HL := Lib.hid (And.intro hBw (And.intro hBl (And.intro hBa hCa)))
  have hmd : m ≤ d0 := by have := HY.out.2.2.2.2.2.2.1; omega
  clear hBw hBl hBa hCa
  rcases raw with _ | _
  · by_cases h10 : 10 < m
    · have q1 : (10 : Int) < (m : Int) := by omega
      have q2 : (10 : Int) ≤ (m : Int) := by omega
      have q3 : (10 : Int) ≤ (rc : Int) := by have := H3.out.2.2.1; omega
      have hQ : NumsAt .i64 u2 R ((cutL (kindN q0) ys m).take 10) := H3.out.2.1.take 10
      have hLl : ((cutL (kindN q0) ys m).take 10).length = 10 := by rw [List.length_take, HY.out.2.2.1]; omega
      have hr10 : 10 ≤ 10 := Nat.le_refl _
      have hLa : Abv b0 ((cutL (kindN q0) ys m).take 10) := fun x hx => HL.out.2.2.2 x (List.mem_of_mem_take hx)
      have hda := darray_any P n pc M u2 H3.out.1 HX.out.2.2.1 H2.out.2.1 (by omega) HX.out.2.2.2.1
      have H4 := Lib.hid (And.intro hQ (And.intro hLl (And.intro hLa hda)))
      clear hQ hLl hLa hda
      go_wp2_with fail
      (with_reducible refine H4.out.2.2.2.mono ?_)
      rintro e u4 ⟨v, rfl, hI⟩
      obtain ⟨O, oc, rfl, hOn, -, -, -, -⟩ := nums_of_own hI.1
      have hsl : (sufA M).length = n := by rw [sufA_len, HX.out.2.2.1]
      rw [hsl]
      have hM4 := H3.out.1.kept hI.2
      have hQ4 := H4.out.1.kept hI.2
      have hb04 := H3.out.2.2.2.1.trans (hI.2.mono H3.out.2.2.2.1.size)
      have hbw4 := H3.out.2.2.2.2.trans (hI.2.mono H3.out.2.2.2.2.size)
      have hfi := find_any P O R n pc n oc 10 rc M (sufA M) ((cutL (kindN q0) ys m).take 10) u4 hM4 hOn hQ4 HX.out.2.2.1 hsl H4.out.2.1 H2.out.2.1 (by omega) (by omega) (by omega) H2.out.2.2.1
      have H5 := Lib.hid (And.intro hM4 (And.intro hQ4 (And.intro hb04 (And.intro hbw4 hfi))))
      clear hI hOn hM4 hQ4 hb04 hbw4 hfi hsl
      go_wp2_with fail
      (with_reducible refine H5.out.2.2.2.2.mono ?_)
      rintro e u5 ⟨f, t, rfl, f1, f2, f3, f4, f5, f6, hb5⟩
      rw [sufA_len] at f2 f4 f6
      have hfo := fnd_own HX.out.2.2.2.1 H4.out.2.2.1 f1 f2 f3 f4 f5 f6
      have hM5 := H5.out.1.kept hb5
      have hQ5 := H5.out.2.1.kept hb5
      have hb05 := H5.out.2.2.1.trans (hb5.mono H5.out.2.2.1.size)
      have hbw5 := H5.out.2.2.2.1.trans (hb5.mono H5.out.2.2.2.1.size)
      have hdf := dfind_any P R n pc 10 rc M ((cutL (kindN q0) ys m).take 10) u5 hM5 hQ5 HX.out.2.2.1 H4.out.2.1 H2.out.2.1 (by omega) (by omega)
      have e1 := hfo.from
      have e2 := hfo.many
      rw [HX.out.2.2.1] at e1 e2
      rw [e2, e1] at hdf
      have H6 := Lib.hid (And.intro hM5 (And.intro hQ5 (And.intro hb05 (And.intro hbw5 hdf))))
      clear f1 f2 f3 f4 f5 f6 hb5 hfo hM5 hQ5 hb05 hbw5 hdf e1 e2
      go_wp2_with fail
      (with_reducible refine H6.out.2.2.2.2.mono ?_)
      rintro e u6 ⟨rfl, hb6⟩
      have hb06 := H6.out.2.2.1.trans (hb6.mono H6.out.2.2.1.size)
      have c2 : u6.cell? ⟨b, 2, none⟩ = some (.slice C k0 e0) := by rw [hb06.cell (p := ⟨b, 2, none⟩) HC.out.2.2.2.1]; exact HC.out.2.2.1
      have H7 := Lib.hid (And.intro (H6.out.1.kept hb6) (And.intro (H6.out.2.1.kept hb6) (H6.out.2.2.2.1.trans (hb6.mono H6.out.2.2.2.1.size))))
      clear hb6 hb06
      go_wp2_with fail
      (with_reducible refine (HX.out.2.2.2.2.2.2 _).mono ?_)
      rintro e u7 ⟨rfl, rfl⟩
      have hfi := find_any P C R n pc k e0 10 rc M Z ((cutL (kindN q0) ys m).take 10) u7 H7.out.1 (HX.out.2.2.2.2.1.kept H7.out.2.2) H7.out.2.1 HX.out.2.2.1 HX.out.2.2.2.2.2.1 H4.out.2.1 H2.out.2.1 (by omega) (by omega) (by omega) H2.out.2.2.1
      have H8 := Lib.hid hfi
      clear hfi
      go_wp2_with fail
      (with_reducible refine H8.out.mono ?_)
      rintro e u8 ⟨x, y, rfl, f1, f2, -, -, -, -, hb8⟩
      rw [HX.out.2.2.2.2.2.1] at f2
      have H9 := Lib.hid (H7.out.2.2.trans (hb8.mono H7.out.2.2.size))
      clear hb8
      have g1 : ((f : Int) == (f : Int)) = true := by simp
      have g2 : ((t : Int) == (t : Int)) = true := by simp
      have g3 : (0 : Int) ≤ (x : Int) := by omega
      have g4 : (x : Int) ≤ (y : Int) := by omega
      have g5 : (y : Int) ≤ (k : Int) := by omega
      go_wp2
      go_ret
      exact ⟨rfl, H9.out⟩
    · have q1 : ¬ (10 : Int) < (m : Int) := by omega
      have hQ : NumsAt .i64 u2 R (cutL (kindN q0) ys m) := H3.out.2.1
      have hLl : (cutL (kindN q0) ys m).length = m := HY.out.2.2.1
      have hr10 : m ≤ 10 := by omega
      have hLa : Abv b0 (cutL (kindN q0) ys m) := HL.out.2.2.2
      have hda := darray_any P n pc M u2 H3.out.1 HX.out.2.2.1 H2.out.2.1 (by omega) HX.out.2.2.2.1
      have H4 := Lib.hid (And.intro hQ (And.intro hLl (And.intro hLa hda)))
      clear hQ hLl hLa hda
      go_wp2_with fail
      (with_reducible refine H4.out.2.2.2.mono ?_)
      rintro e u4 ⟨v, rfl, hI⟩
      obtain ⟨O, oc, rfl, hOn, -, -, -, -⟩ := nums_of_own hI.1
      have hsl : (sufA M).length = n := by rw [sufA_len, HX.out.2.2.1]
      rw [hsl]
      have hM4 := H3.out.1.kept hI.2
      have hQ4 := H4.out.1.kept hI.2
      have hb04 := H3.out.2.2.2.1.trans (hI.2.mono H3.out.2.2.2.1.size)
      have hbw4 := H3.out.2.2.2.2.trans (hI.2.mono H3.out.2.2.2.2.size)
      have hfi := find_any P O R n pc n oc m rc M (sufA M) (cutL (kindN q0) ys m) u4 hM4 hOn hQ4 HX.out.2.2.1 hsl H4.out.2.1 H2.out.2.1 (by omega) (by omega) (by omega) H2.out.2.2.1
      have H5 := Lib.hid (And.intro hM4 (And.intro hQ4 (And.intro hb04 (And.intro hbw4 hfi))))
      clear hI hOn hM4 hQ4 hb04 hbw4 hfi hsl
      go_wp2_with fail
      (with_reducible refine H5.out.2.2.2.2.mono ?_)
      rintro e u5 ⟨f, t, rfl, f1, f2, f3, f4, f5, f6, hb5⟩
      rw [sufA_len] at f2 f4 f6
      have hfo := fnd_own HX.out.2.2.2.1 H4.out.2.2.1 f1 f2 f3 f4 f5 f6
      have hM5 := H5.out.1.kept hb5
      have hQ5 := H5.out.2.1.kept hb5
      have hb05 := H5.out.2.2.1.trans (hb5.mono H5.out.2.2.1.size)
      have hbw5 := H5.out.2.2.2.1.trans (hb5.mono H5.out.2.2.2.1.size)
      have hdf := dfind_any P R n pc m rc M (cutL (kindN q0) ys m) u5 hM5 hQ5 HX.out.2.2.1 H4.out.2.1 H2.out.2.1 (by omega) (by omega)
      have e1 := hfo.from
      have e2 := hfo.many
      rw [HX.out.2.2.1] at e1 e2
      rw [e2, e1] at hdf
      have H6 := Lib.hid (And.intro hM5 (And.intro hQ5 (And.intro hb05 (And.intro hbw5 hdf))))
      clear f1 f2 f3 f4 f5 f6 hb5 hfo hM5 hQ5 hb05 hbw5 hdf e1 e2
      go_wp2_with fail
      (with_reducible refine H6.out.2.2.2.2.mono ?_)
      rintro e u6 ⟨rfl, hb6⟩
      have hb06 := H6.out.2.2.1.trans (hb6.mono H6.out.2.2.1.size)
      have c2 : u6.cell? ⟨b, 2, none⟩ = some (.slice C k0 e0) := by rw [hb06.cell (p := ⟨b, 2, none⟩) HC.out.2.2.2.1]; exact HC.out.2.2.1
      have H7 := Lib.hid (And.intro (H6.out.1.kept hb6) (And.intro (H6.out.2.1.kept hb6) (H6.out.2.2.2.1.trans (hb6.mono H6.out.2.2.2.1.size))))
      clear hb6 hb06
      go_wp2_with fail
      (with_reducible refine (HX.out.2.2.2.2.2.2 _).mono ?_)
      rintro e u7 ⟨rfl, rfl⟩
      have hfi := find_any P C R n pc k e0 m rc M Z (cutL (kindN q0) ys m) u7 H7.out.1 (HX.out.2.2.2.2.1.kept H7.out.2.2) H7.out.2.1 HX.out.2.2.1 HX.out.2.2.2.2.2.1 H4.out.2.1 H2.out.2.1 (by omega) (by omega) (by omega) H2.out.2.2.1
      have H8 := Lib.hid hfi
      clear hfi
      go_wp2_with fail
      (with_reducible refine H8.out.mono ?_)
      rintro e u8 ⟨x, y, rfl, f1, f2, -, -, -, -, hb8⟩
      rw [HX.out.2.2.2.2.2.1] at f2
      have H9 := Lib.hid (H7.out.2.2.trans (hb8.mono H7.out.2.2.size))
      clear hb8
      have g1 : ((f : Int) == (f : Int)) = true := by simp
      have g2 : ((t : Int) == (t : Int)) = true := by simp
      have g3 : (0 : Int) ≤ (x : Int) := by omega
      have g4 : (x : Int) ≤ (y : Int) := by omega
      have g5 : (y : Int) ≤ (k : Int) := by omega
      go_wp2
      go_ret
      exact ⟨rfl, H9.out⟩
  · by_cases h10 : 10 < m
    · have q1 : (10 : Int) < (m : Int) := by omega
      have q2 : (10 : Int) ≤ (m : Int) := by omega
      have q3 : (10 : Int) ≤ (d0 : Int) := by omega
      go_wp2_with fail
      (with_reducible refine (HY.out.2.2.2.2.1 _).mono ?_)
      rintro e u3 ⟨rfl, hu⟩
      obtain rfl := hu.symm
      have hQ : NumsAt .i64 u2 B ((ys.take m).take 10) := HL.out.1.take 10
      have hLl : ((ys.take m).take 10).length = 10 := by rw [List.length_take, HL.out.2.1]; omega
      have hr10 : 10 ≤ 10 := Nat.le_refl _
      have hLa : Abv b0 ((ys.take m).take 10) := fun x hx => HL.out.2.2.1 x (List.mem_of_mem_take hx)
      have hda := darray_any P n pc M u2 H3.out.1 HX.out.2.2.1 H2.out.2.1 (by omega) HX.out.2.2.2.1
      have H4 := Lib.hid (And.intro hQ (And.intro hLl (And.intro hLa hda)))
      clear hQ hLl hLa hda
      go_wp2_with fail
      (with_reducible refine H4.out.2.2.2.mono ?_)
      rintro e u4 ⟨v, rfl, hI⟩
      obtain ⟨O, oc, rfl, hOn, -, -, -, -⟩ := nums_of_own hI.1
      have hsl : (sufA M).length = n := by rw [sufA_len, HX.out.2.2.1]
      rw [hsl]
      have hM4 := H3.out.1.kept hI.2
      have hQ4 := H4.out.1.kept hI.2
      have hb04 := H3.out.2.2.2.1.trans (hI.2.mono H3.out.2.2.2.1.size)
      have hbw4 := H3.out.2.2.2.2.trans (hI.2.mono H3.out.2.2.2.2.size)
      have hfi := find_any P O B n pc n oc 10 d0 M (sufA M) ((ys.take m).take 10) u4 hM4 hOn hQ4 HX.out.2.2.1 hsl H4.out.2.1 H2.out.2.1 (by omega) (by omega) (by omega) H2.out.2.2.1
      have H5 := Lib.hid (And.intro hM4 (And.intro hQ4 (And.intro hb04 (And.intro hbw4 hfi))))
      clear hI hOn hM4 hQ4 hb04 hbw4 hfi hsl
      go_wp2_with fail
      (with_reducible refine H5.out.2.2.2.2.mono ?_)
      rintro e u5 ⟨f, t, rfl, f1, f2, f3, f4, f5, f6, hb5⟩
      rw [sufA_len] at f2 f4 f6
      have hfo := fnd_own HX.out.2.2.2.1 H4.out.2.2.1 f1 f2 f3 f4 f5 f6
      have hM5 := H5.out.1.kept hb5
      have hQ5 := H5.out.2.1.kept hb5
      have hb05 := H5.out.2.2.1.trans (hb5.mono H5.out.2.2.1.size)
      have hbw5 := H5.out.2.2.2.1.trans (hb5.mono H5.out.2.2.2.1.size)
      have hdf := dfind_any P B n pc 10 d0 M ((ys.take m).take 10) u5 hM5 hQ5 HX.out.2.2.1 H4.out.2.1 H2.out.2.1 (by omega) (by omega)
      have e1 := hfo.from
      have e2 := hfo.many
      rw [HX.out.2.2.1] at e1 e2
      rw [e2, e1] at hdf
      have H6 := Lib.hid (And.intro hM5 (And.intro hQ5 (And.intro hb05 (And.intro hbw5 hdf))))
      clear f1 f2 f3 f4 f5 f6 hb5 hfo hM5 hQ5 hb05 hbw5 hdf e1 e2
      go_wp2_with fail
      (with_reducible refine H6.out.2.2.2.2.mono ?_)
      rintro e u6 ⟨rfl, hb6⟩
      have hb06 := H6.out.2.2.1.trans (hb6.mono H6.out.2.2.1.size)
      have c2 : u6.cell? ⟨b, 2, none⟩ = some (.slice C k0 e0) := by rw [hb06.cell (p := ⟨b, 2, none⟩) HC.out.2.2.2.1]; exact HC.out.2.2.1
      have H7 := Lib.hid (And.intro (H6.out.1.kept hb6) (And.intro (H6.out.2.1.kept hb6) (H6.out.2.2.2.1.trans (hb6.mono H6.out.2.2.2.1.size))))
      clear hb6 hb06
      go_wp2_with fail
      (with_reducible refine (HX.out.2.2.2.2.2.2 _).mono ?_)
      rintro e u7 ⟨rfl, rfl⟩
      have hfi := find_any P C B n pc k e0 10 d0 M Z ((ys.take m).take 10) u7 H7.out.1 (HX.out.2.2.2.2.1.kept H7.out.2.2) H7.out.2.1 HX.out.2.2.1 HX.out.2.2.2.2.2.1 H4.out.2.1 H2.out.2.1 (by omega) (by omega) (by omega) H2.out.2.2.1
      have H8 := Lib.hid hfi
      clear hfi
      go_wp2_with fail
      (with_reducible refine H8.out.mono ?_)
      rintro e u8 ⟨x, y, rfl, f1, f2, -, -, -, -, hb8⟩
      rw [HX.out.2.2.2.2.2.1] at f2
      have H9 := Lib.hid (H7.out.2.2.trans (hb8.mono H7.out.2.2.size))
      clear hb8
      have g1 : ((f : Int) == (f : Int)) = true := by simp
      have g2 : ((t : Int) == (t : Int)) = true := by simp
      have g3 : (0 : Int) ≤ (x : Int) := by omega
      have g4 : (x : Int) ≤ (y : Int) := by omega
      have g5 : (y : Int) ≤ (k : Int) := by omega
      go_wp2
      go_ret
      exact ⟨rfl, H9.out⟩
    · have q1 : ¬ (10 : Int) < (m : Int) := by omega
      go_wp2_with fail
      (with_reducible refine (HY.out.2.2.2.2.1 _).mono ?_)
      rintro e u3 ⟨rfl, hu⟩
      obtain rfl := hu.symm
      have hQ : NumsAt .i64 u2 B (ys.take m) := HL.out.1
      have hLl : (ys.take m).length = m := HL.out.2.1
      have hr10 : m ≤ 10 := by omega
      have hLa : Abv b0 (ys.take m) := HL.out.2.2.1
      have hda := darray_any P n pc M u2 H3.out.1 HX.out.2.2.1 H2.out.2.1 (by omega) HX.out.2.2.2.1
      have H4 := Lib.hid (And.intro hQ (And.intro hLl (And.intro hLa hda)))
      clear hQ hLl hLa hda
      go_wp2_with fail
      (with_reducible refine H4.out.2.2.2.mono ?_)
      rintro e u4 ⟨v, rfl, hI⟩
      obtain ⟨O, oc, rfl, hOn, -, -, -, -⟩ := nums_of_own hI.1
      have hsl : (sufA M).length = n := by rw [sufA_len, HX.out.2.2.1]
      rw [hsl]
      have hM4 := H3.out.1.kept hI.2
      have hQ4 := H4.out.1.kept hI.2
      have hb04 := H3.out.2.2.2.1.trans (hI.2.mono H3.out.2.2.2.1.size)
      have hbw4 := H3.out.2.2.2.2.trans (hI.2.mono H3.out.2.2.2.2.size)
      have hfi := find_any P O B n pc n oc m d0 M (sufA M) (ys.take m) u4 hM4 hOn hQ4 HX.out.2.2.1 hsl H4.out.2.1 H2.out.2.1 (by omega) (by omega) (by omega) H2.out.2.2.1
      have H5 := Lib.hid (And.intro hM4 (And.intro hQ4 (And.intro hb04 (And.intro hbw4 hfi))))
      clear hI hOn hM4 hQ4 hb04 hbw4 hfi hsl
      go_wp2_with fail
      (with_reducible refine H5.out.2.2.2.2.mono ?_)
      rintro e u5 ⟨f, t, rfl, f1, f2, f3, f4, f5, f6, hb5⟩
      rw [sufA_len] at f2 f4 f6
      have hfo := fnd_own HX.out.2.2.2.1 H4.out.2.2.1 f1 f2 f3 f4 f5 f6
      have hM5 := H5.out.1.kept hb5
      have hQ5 := H5.out.2.1.kept hb5
      have hb05 := H5.out.2.2.1.trans (hb5.mono H5.out.2.2.1.size)
      have hbw5 := H5.out.2.2.2.1.trans (hb5.mono H5.out.2.2.2.1.size)
      have hdf := dfind_any P B n pc m d0 M (ys.take m) u5 hM5 hQ5 HX.out.2.2.1 H4.out.2.1 H2.out.2.1 (by omega) (by omega)
      have e1 := hfo.from
      have e2 := hfo.many
      rw [HX.out.2.2.1] at e1 e2
      rw [e2, e1] at hdf
      have H6 := Lib.hid (And.intro hM5 (And.intro hQ5 (And.intro hb05 (And.intro hbw5 hdf))))
      clear f1 f2 f3 f4 f5 f6 hb5 hfo hM5 hQ5 hb05 hbw5 hdf e1 e2
      go_wp2_with fail
      (with_reducible refine H6.out.2.2.2.2.mono ?_)
      rintro e u6 ⟨rfl, hb6⟩
      have hb06 := H6.out.2.2.1.trans (hb6.mono H6.out.2.2.1.size)
      have c2 : u6.cell? ⟨b, 2, none⟩ = some (.slice C k0 e0) := by rw [hb06.cell (p := ⟨b, 2, none⟩) HC.out.2.2.2.1]; exact HC.out.2.2.1
      have H7 := Lib.hid (And.intro (H6.out.1.kept hb6) (And.intro (H6.out.2.1.kept hb6) (H6.out.2.2.2.1.trans (hb6.mono H6.out.2.2.2.1.size))))
      clear hb6 hb06
      go_wp2_with fail
      (with_reducible refine (HX.out.2.2.2.2.2.2 _).mono ?_)
      rintro e u7 ⟨rfl, rfl⟩
      have hfi := find_any P C B n pc k e0 m d0 M Z (ys.take m) u7 H7.out.1 (HX.out.2.2.2.2.1.kept H7.out.2.2) H7.out.2.1 HX.out.2.2.1 HX.out.2.2.2.2.2.1 H4.out.2.1 H2.out.2.1 (by omega) (by omega) (by omega) H2.out.2.2.1
      have H8 := Lib.hid hfi
      clear hfi
      go_wp2_with fail
      (with_reducible refine H8.out.mono ?_)
      rintro e u8 ⟨x, y, rfl, f1, f2, -, -, -, -, hb8⟩
      rw [HX.out.2.2.2.2.2.1] at f2
      have H9 := Lib.hid (H7.out.2.2.trans (hb8.mono H7.out.2.2.size))
      clear hb8
      have g1 : ((f : Int) == (f : Int)) = true := by simp
      have g2 : ((t : Int) == (t : Int)) = true := by simp
      have g3 : (0 : Int) ≤ (x : Int) := by omega
      have g4 : (x : Int) ≤ (y : Int) := by omega
      have g5 : (y : Int) ≤ (k : Int) := by omega
      go_wp2
      go_ret
      exact ⟨rfl, H9.out⟩

end Go.Proofs.Ytjepgdfcjbgahaa
