/- The walk of TurnedTurns. -/
import Derived.Test.YtdepncdknofocaaYJ
set_option maxRecDepth 100000
namespace Go.Proofs.Ytdepncdknofocaa
open Go.RowKit
open M
attribute [local go_sem ↓] Go.wp_at_zero Go.wp_at_succ

theorem I64s.take {l : List Int} (h : I64s l) (n : Nat) : I64s (l.take n) := fun x hx => h x (List.mem_of_mem_take hx)
set_option maxHeartbeats 8000000 in
theorem turns_walk (A : Option Addr) (n0 c0 : Nat) (xs : List Int) (q0 : Int) (w : World) (hA : NumsAt .i64 w A xs) (hx : xs.length = n0) (hc : n0 ≤ c0) (h64 : I64s xs) :
    Calls Try.prog 3 #[.slice A n0 c0, .int .i64 q0] w fun e w' => e = .returned (.bool true) ∧ Below w.heap.size w w' := by
  have hfw := fun u => few_any A n0 c0 u hc
  have hal := fun u (hu : NumsAt .i64 u A xs) => alike_any A n0 c0 xs q0 u hu hx
  have hml : (xs.take (min n0 30)).length = min n0 30 := by rw [List.length_take]; omega
  have hm64 := h64.take (min n0 30)
  have hcl := cutL_len (kindN q0) xs (min n0 30) (by rw [hx]; omega)
  have hci : ∀ x ∈ cutL (kindN q0) xs (min n0 30), 0 ≤ x ∧ x < 5 := fun x hx => by
    have h1 := kindN_in q0
    have h2 := cutL_in (kindN q0) xs (min n0 30) (by omega) x hx
    omega
  obtain ⟨n, hn⟩ : ∃ n, n = min n0 30 := ⟨_, rfl⟩
  rw [← hn] at hml hm64 hcl hci
  simp only [← hn] at hfw hal
  have hn30 : n ≤ 30 := by omega
  have hnc : n ≤ c0 := by omega
  have HX := Lib.hid (And.intro hA (And.intro hfw (And.intro hal (And.intro hml (And.intro hm64 (And.intro hnc (And.intro hcl hci)))))))
  clear hA hx hc h64 hfw hal hml hm64 hcl hci hn hnc
  go_enter Try.func3, Try.ntmps3
  go_wp2_with fail
  (with_reducible refine (awake_any _).mono ?_)
  rintro e w1 ⟨rfl, hb1⟩
  have HB := Lib.hid hb1
  clear hb1
  go_wp2_with fail
  (with_reducible refine (HX.out.2.1 _).mono ?_)
  rintro e u0 ⟨rfl, rfl⟩
  obtain ⟨L, hL⟩ : ∃ L, L = xs.take n := ⟨_, rfl⟩
  have hLn := (HX.out.1.kept HB.out).take n
  have hLl := HX.out.2.2.2.1
  have hL64 := HX.out.2.2.2.2.1
  rw [← hL] at hLn hLl hL64
  have hbl := fun u (hu : NumsAt .i64 u A L) => below_neg A n c0 L u hu hLl (by omega)
  cases hneg : negB L with
  | true =>
    have htn := turn_no A n c0 L u0 hLn hLl (by omega) hneg
    have hb := hbl u0 hLn
    rw [hneg] at hb
    have HN := Lib.hid (And.intro htn (And.intro hb HB.out))
    clear htn hb hbl hLn hLl hL64 hL hneg HB
    go_wp2_with fail
    (with_reducible refine HN.out.1.mono ?_)
    rintro e u1 ⟨rfl, rfl⟩
    go_wp2_with fail
    (with_reducible refine HN.out.2.1.mono ?_)
    rintro e u2 ⟨rfl, rfl⟩
    have HW := Lib.hid HN.out.2.2
    clear HN
    have hk1 := HX.out.2.2.1 _ (HX.out.1.kept HW.out)
    have HK := Lib.hid hk1
    clear hk1
    go_wp2_with fail
    (with_reducible refine HK.out.mono ?_)
    rintro e x1 ⟨v, rfl, hI⟩
    obtain ⟨P, pc, rfl, hP, -, -, -, -⟩ := nums_of_own hI.1
    obtain ⟨M, hM⟩ : ∃ M, M = cutL (kindN q0) xs n := ⟨_, rfl⟩
    have hMl := HX.out.2.2.2.2.2.2.1
    have hMi := HX.out.2.2.2.2.2.2.2
    rw [← hM] at hP hMl hMi ⊢
    rw [hMl]
    have hM64 : I64s M := fun x hx => by have := hMi x hx; omega
    have hMn : Nn M := fun x hx => (hMi x hx).1
    have hwx := HW.out.trans (hI.2.mono HW.out.size)
    have htn := turn_any P n pc M x1 hP hMl (by omega) hM64 hMn
    have HP := Lib.hid (And.intro htn (And.intro hwx (And.intro hM64 (And.intro hMl hM))))
    clear hI hP hMl hMi hM64 hMn hwx htn
    go_wp2_with fail
    (with_reducible refine HP.out.1.mono ?_)
    rintro e x2 ⟨v, rfl, hI⟩
    obtain ⟨R, rc, rfl, hR, -, -, -, -⟩ := nums_of_own hI.1
    have hwx := HP.out.2.1.trans (hI.2.mono HP.out.2.1.size)
    have hk1 := HX.out.2.2.1 _ (HX.out.1.kept hwx)
    have HR := Lib.hid (And.intro hR (And.intro hwx hk1))
    have hTl : (turnL M).length = n + 1 := by rw [turnL_len, HP.out.2.2.2.1]
    rw [hTl]
    clear hI hR hwx hk1
    go_wp2_with fail
    (with_reducible refine HR.out.2.2.mono ?_)
    rintro e x3 ⟨v, rfl, hI⟩
    rw [← HP.out.2.2.2.2] at hI
    obtain ⟨P2, pc2, rfl, hP2, -, hpc2, -, -⟩ := nums_of_own hI.1
    rw [HP.out.2.2.2.1] at hpc2 ⊢
    have hwx := HR.out.2.1.trans (hI.2.mono HR.out.2.1.size)
    have hdt := dturn_any P2 n pc2 M x3 hP2 HP.out.2.2.2.1 hpc2 (by omega) HP.out.2.2.1
    have HD := Lib.hid (And.intro hdt (And.intro hwx (HR.out.1.kept hI.2)))
    clear hI hP2 hpc2 hwx hdt
    go_wp2_with fail
    (with_reducible refine HD.out.1.mono ?_)
    rintro e x4 ⟨v, rfl, hI⟩
    obtain ⟨R2, rc2, rfl, hR2, -, -, -, -⟩ := nums_of_own hI.1
    rw [hTl]
    have hsm := rsame_any R R2 (n + 1) (n + 1) rc rc2 (turnL M) (turnL M) x4 (HD.out.2.2.kept hI.2) hR2 hTl hTl (by omega)
    rw [decide_eq_true rfl] at hsm
    have hwx := HD.out.2.1.trans (hI.2.mono HD.out.2.1.size)
    have HS := Lib.hid (And.intro hsm hwx)
    clear hI hR2 hsm hwx hTl
    go_wp2_with fail
    (with_reducible refine HS.out.1.mono ?_)
    rintro e x5 ⟨rfl, hb9⟩
    have HF := Lib.hid (HS.out.2.trans (hb9.mono HS.out.2.size))
    clear hb9
    go_wp2
    go_ret
    exact ⟨rfl, HF.out⟩
  | false =>
    have hnn := (negB_iff L).1 hneg
    have htn := turn_any A n c0 L u0 hLn hLl (by omega) hL64 hnn
    rw [hneg] at hbl
    have HN := Lib.hid (And.intro htn (And.intro hbl (And.intro HB.out (And.intro hLn (And.intro hLl hL64)))))
    clear htn hbl hLn hLl hL64 hL hneg HB hnn
    go_wp2_with fail
    (with_reducible refine HN.out.1.mono ?_)
    rintro e u1 ⟨v, rfl, hI⟩
    obtain ⟨R0, rc0, rfl, hR0, -, -, -, -⟩ := nums_of_own hI.1
    have hTl0 : (turnL L).length = n + 1 := by rw [turnL_len, HN.out.2.2.2.2.1]
    rw [hTl0]
    have hb := HN.out.2.1 u1 (HN.out.2.2.2.1.kept hI.2)
    have hdt := dturn_any A n c0 L u1 (HN.out.2.2.2.1.kept hI.2) HN.out.2.2.2.2.1 HX.out.2.2.2.2.2.1 (by omega) HN.out.2.2.2.2.2
    have hwx := HN.out.2.2.1.trans (hI.2.mono HN.out.2.2.1.size)
    have HM := Lib.hid (And.intro hb (And.intro hdt (And.intro hwx hR0)))
    clear hI hR0 hb hdt hwx
    go_wp2_with fail
    (with_reducible refine HM.out.1.mono ?_)
    rintro e u2 ⟨rfl, rfl⟩
    go_wp2_with fail
    (with_reducible refine HM.out.2.1.mono ?_)
    rintro e u3 ⟨v, rfl, hI⟩
    obtain ⟨R1, rc1, rfl, hR1, -, -, -, -⟩ := nums_of_own hI.1
    rw [hTl0]
    have hsm := rsame_any R0 R1 (n + 1) (n + 1) rc0 rc1 (turnL L) (turnL L) u3 (HM.out.2.2.2.kept hI.2) hR1 hTl0 hTl0 (by omega)
    rw [decide_eq_true rfl] at hsm
    have hwx := HM.out.2.2.1.trans (hI.2.mono HM.out.2.2.1.size)
    have HS0 := Lib.hid (And.intro hsm hwx)
    clear hI hR1 hsm hwx hTl0 HM HN
    go_wp2_with fail
    (with_reducible refine HS0.out.1.mono ?_)
    rintro e u4 ⟨rfl, hb9⟩
    have HW := Lib.hid (HS0.out.2.trans (hb9.mono HS0.out.2.size))
    clear hb9 HS0
    have hk1 := HX.out.2.2.1 _ (HX.out.1.kept HW.out)
    have HK := Lib.hid hk1
    clear hk1
    go_wp2_with fail
    (with_reducible refine HK.out.mono ?_)
    rintro e x1 ⟨v, rfl, hI⟩
    obtain ⟨P, pc, rfl, hP, -, -, -, -⟩ := nums_of_own hI.1
    obtain ⟨M, hM⟩ : ∃ M, M = cutL (kindN q0) xs n := ⟨_, rfl⟩
    have hMl := HX.out.2.2.2.2.2.2.1
    have hMi := HX.out.2.2.2.2.2.2.2
    rw [← hM] at hP hMl hMi ⊢
    rw [hMl]
    have hM64 : I64s M := fun x hx => by have := hMi x hx; omega
    have hMn : Nn M := fun x hx => (hMi x hx).1
    have hwx := HW.out.trans (hI.2.mono HW.out.size)
    have htn := turn_any P n pc M x1 hP hMl (by omega) hM64 hMn
    have HP := Lib.hid (And.intro htn (And.intro hwx (And.intro hM64 (And.intro hMl hM))))
    clear hI hP hMl hMi hM64 hMn hwx htn
    go_wp2_with fail
    (with_reducible refine HP.out.1.mono ?_)
    rintro e x2 ⟨v, rfl, hI⟩
    obtain ⟨R, rc, rfl, hR, -, -, -, -⟩ := nums_of_own hI.1
    have hwx := HP.out.2.1.trans (hI.2.mono HP.out.2.1.size)
    have hk1 := HX.out.2.2.1 _ (HX.out.1.kept hwx)
    have HR := Lib.hid (And.intro hR (And.intro hwx hk1))
    have hTl : (turnL M).length = n + 1 := by rw [turnL_len, HP.out.2.2.2.1]
    rw [hTl]
    clear hI hR hwx hk1
    go_wp2_with fail
    (with_reducible refine HR.out.2.2.mono ?_)
    rintro e x3 ⟨v, rfl, hI⟩
    rw [← HP.out.2.2.2.2] at hI
    obtain ⟨P2, pc2, rfl, hP2, -, hpc2, -, -⟩ := nums_of_own hI.1
    rw [HP.out.2.2.2.1] at hpc2 ⊢
    have hwx := HR.out.2.1.trans (hI.2.mono HR.out.2.1.size)
    have hdt := dturn_any P2 n pc2 M x3 hP2 HP.out.2.2.2.1 hpc2 (by omega) HP.out.2.2.1
    have HD := Lib.hid (And.intro hdt (And.intro hwx (HR.out.1.kept hI.2)))
    clear hI hP2 hpc2 hwx hdt
    go_wp2_with fail
    (with_reducible refine HD.out.1.mono ?_)
    rintro e x4 ⟨v, rfl, hI⟩
    obtain ⟨R2, rc2, rfl, hR2, -, -, -, -⟩ := nums_of_own hI.1
    rw [hTl]
    have hsm := rsame_any R R2 (n + 1) (n + 1) rc rc2 (turnL M) (turnL M) x4 (HD.out.2.2.kept hI.2) hR2 hTl hTl (by omega)
    rw [decide_eq_true rfl] at hsm
    have hwx := HD.out.2.1.trans (hI.2.mono HD.out.2.1.size)
    have HS := Lib.hid (And.intro hsm hwx)
    clear hI hR2 hsm hwx hTl
    go_wp2_with fail
    (with_reducible refine HS.out.1.mono ?_)
    rintro e x5 ⟨rfl, hb9⟩
    have HF := Lib.hid (HS.out.2.trans (hb9.mono HS.out.2.size))
    clear hb9
    go_wp2
    go_ret
    exact ⟨rfl, HF.out⟩

end Go.Proofs.Ytdepncdknofocaa
