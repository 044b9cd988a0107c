/- The walk of SuffixCommon. -/
import Derived.Test.YtjepgdfcjbgahaaOrders
set_option maxRecDepth 100000
namespace Go.Proofs.Ytjepgdfcjbgahaa
open Go.RowKit
open M
attribute [local go_sem ↓] Go.wp_at_zero Go.wp_at_succ

set_option maxHeartbeats 8000000 in
theorem common_walk (A B : Option Addr) (n0 c0 m0 d0 : Nat) (xs ys : List Int) (q0 : Int) (w : World) (hA : NumsAt .i64 w A xs) (hx : xs.length = n0) (hB : NumsAt .i64 w B ys) (hy : ys.length = m0) (hd : m0 ≤ d0) :
    Calls Try.prog 4 #[.slice A n0 c0, .int .i64 q0, .slice B m0 d0] w fun e w' => e = .returned (.bool true) ∧ Below w.heap.size w w' := by
  have hfw := fun u => few_any B m0 d0 u hd
  have hal := fun u (hu : NumsAt .i64 u A xs) => alike_any A n0 c0 xs q0 u hu hx
  have hcl := cutL_len (kindN q0) xs (min n0 40) (by rw [hx]; omega)
  have hci := cutL_in (kindN q0) xs (min n0 40) (by have := kindN_in q0; omega)
  obtain ⟨n, hn⟩ : ∃ n, n = min n0 40 := ⟨_, rfl⟩
  rw [← hn] at hcl hci
  simp only [← hn] at hal
  have hn40 : n ≤ 40 := by omega
  have hyl : (ys.take (min m0 40)).length = min m0 40 := by rw [List.length_take]; omega
  have hBt := hB.take (min m0 40)
  obtain ⟨m, hm⟩ : ∃ m, m = min m0 40 := ⟨_, rfl⟩
  rw [← hm] at hyl hBt
  simp only [← hm] at hfw
  have hm40 : m ≤ 40 := by omega
  obtain ⟨Y, hY⟩ : ∃ Y, Y = ys.take m := ⟨_, rfl⟩
  obtain ⟨M, hM⟩ : ∃ M, M = cutL (kindN q0) xs n := ⟨_, rfl⟩
  rw [← hY] at hyl hBt
  rw [← hM] at hcl hci
  simp only [← hM] at hal
  have h64 : I64s M := fun x hx => by
    have := hci x hx
    have := kindN_in q0
    omega
  have HX := Lib.hid (And.intro hA (And.intro hfw (And.intro hal (And.intro hcl (And.intro h64 (And.intro hyl hBt))))))
  clear hA hx hB hy hd hfw hal hcl hci hn hm hY hM h64 hyl hBt
  go_enter Try.func4, Try.ntmps4
  go_wp2_with fail
  (with_reducible refine (awake_any _).mono ?_)
  rintro e w1 ⟨rfl, hb1⟩
  have HB := Lib.hid hb1
  clear hb1
  go_wp2_with fail
  (with_reducible refine (HX.out.2.2.1 _ (HX.out.1.kept HB.out)).mono ?_)
  rintro e u ⟨v, rfl, hI⟩
  obtain ⟨P, pc, rfl, hPn, -, hpc, -, -⟩ := nums_of_own hI.1
  rw [HX.out.2.2.2.1] at hpc ⊢
  have hbw := HB.out.trans (hI.2.mono HB.out.size)
  have hda := darray_any P n pc M u hPn HX.out.2.2.2.1 hpc (by omega) HX.out.2.2.2.2.1
  have HP := Lib.hid (And.intro hPn (And.intro hpc (And.intro hbw hda)))
  clear hI hPn hpc hbw hda
  go_wp2_with fail
  (with_reducible refine HP.out.2.2.2.mono ?_)
  rintro e u2 ⟨v, rfl, hI⟩
  obtain ⟨O, oc, rfl, hOn, -, hoc, -, -⟩ := nums_of_own hI.1
  have hsl : (sufA M).length = n := by rw [sufA_len, HX.out.2.2.2.1]
  rw [hsl] at hoc ⊢
  have hbw := HP.out.2.2.1.trans (hI.2.mono HP.out.2.2.1.size)
  have hM2 := HP.out.1.kept hI.2
  have hco := common_any P O n pc n oc M (sufA M) u2 hM2 hOn HX.out.2.2.2.1 hsl (by omega) (by omega) HX.out.2.2.2.2.1
  have H2 := Lib.hid (And.intro hM2 (And.intro hOn (And.intro hbw (And.intro hco hsl))))
  clear hI hOn hoc hbw hM2 hco hsl
  go_wp2_with fail
  (with_reducible refine H2.out.2.2.2.1.mono ?_)
  rintro e u3 ⟨hb3, ⟨-, D, rfl, hDn⟩ | ⟨hno, -⟩⟩
  rotate_left
  · exact absurd rfl hno
  have hM3 := H2.out.1.kept hb3
  have hO3 := H2.out.2.1.kept hb3
  have hbw := H2.out.2.2.1.trans (hb3.mono H2.out.2.2.1.size)
  have hdc := dcommon_any P O n pc n oc M (sufA M) u3 hM3 hO3 HX.out.2.2.2.1 H2.out.2.2.2.2 HP.out.2.1 (by omega) (Nat.le_refl _) (fun i hi => by
    have := (sufA_ok HX.out.2.2.2.2.1).pl (i := i) (by rw [HX.out.2.2.2.1]; exact hi)
    rwa [HX.out.2.2.2.1] at this)
  have H3 := Lib.hid (And.intro hM3 (And.intro hO3 (And.intro hDn (And.intro hbw hdc))))
  clear hM3 hO3 hDn hbw hdc hb3
  go_wp2_with fail
  (with_reducible refine H3.out.2.2.2.2.mono ?_)
  rintro e u4 ⟨v, rfl, hI⟩
  obtain ⟨C, cc, rfl, hCn, -, -, -, -⟩ := nums_of_own hI.1
  have hcl : (comL M (sufA M)).length = n := by rw [comL_len, H2.out.2.2.2.2]
  rw [hcl]
  have hbw := H3.out.2.2.2.1.trans (hI.2.mono H3.out.2.2.2.1.size)
  have hsa := rsame_any (some ⟨D, 0, none⟩) C n n n cc (comL M (sufA M)) (comL M (sufA M)) u4 (H3.out.2.2.1.kept hI.2) hCn hcl hcl (by omega)
  rw [decide_eq_true rfl] at hsa
  have H4 := Lib.hid (And.intro (H3.out.1.kept hI.2) (And.intro (H3.out.2.1.kept hI.2) (And.intro hbw hsa)))
  clear hI hCn hcl hbw hsa
  go_wp2_with fail
  (with_reducible refine H4.out.2.2.2.mono ?_)
  rintro e u5 ⟨rfl, hb5⟩
  have hM5 := H4.out.1.kept hb5
  have hO5 := H4.out.2.1.kept hb5
  have hbw := H4.out.2.2.1.trans (hb5.mono H4.out.2.2.1.size)
  have hY5 := HX.out.2.2.2.2.2.2.kept hbw
  have hs2 := rsame_any B O m n d0 oc Y (sufA M) u5 hY5 hO5 HX.out.2.2.2.2.2.1 H2.out.2.2.2.2 (by omega)
  have H5 := Lib.hid (And.intro hM5 (And.intro hY5 (And.intro hbw hs2)))
  clear hM5 hO5 hbw hY5 hs2 hb5
  go_wp2_with fail
  (with_reducible refine (HX.out.2.1 _).mono ?_)
  rintro e u6 ⟨rfl, rfl⟩
  go_wp2_with fail
  (with_reducible refine H5.out.2.2.2.mono ?_)
  rintro e u7 ⟨rfl, hb7⟩
  have hM7 := H5.out.1.kept hb7
  have hY7 := H5.out.2.1.kept hb7
  have hbw := H5.out.2.2.1.trans (hb7.mono H5.out.2.2.1.size)
  have hco := common_any P B n pc m d0 M Y u7 hM7 hY7 HX.out.2.2.2.1 HX.out.2.2.2.2.2.1 (by omega) (by omega) HX.out.2.2.2.2.1
  have H7 := Lib.hid (And.intro hbw hco)
  clear hM7 hY7 hbw hco hb7
  go_wp2_with fail
  (with_reducible refine H7.out.2.mono ?_)
  rintro e u8 ⟨hb8, ⟨hyes, D2, rfl, hDn⟩ | ⟨hno, rfl⟩⟩
  · rw [decide_eq_true hyes]
    have H8 := Lib.hid (H7.out.1.trans (hb8.mono H7.out.1.size))
    clear hb8 hDn hyes
    go_wp2
    go_ret
    exact ⟨rfl, H8.out⟩
  · rw [decide_eq_false hno]
    have H8 := Lib.hid (H7.out.1.trans (hb8.mono H7.out.1.size))
    clear hb8 hno
    go_wp2
    go_ret
    exact ⟨rfl, H8.out⟩

end Go.Proofs.Ytjepgdfcjbgahaa
