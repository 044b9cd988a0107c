/- The walk of TurnedBack. -/
import Derived.Test.YtdepncdknofocaaTurns
set_option maxRecDepth 100000
namespace Go.Proofs.Ytdepncdknofocaa
open Go.RowKit
open M
attribute [local go_sem ↓] Go.wp_at_zero Go.wp_at_succ

theorem cells32 : Try.prog.cellsOf 32 = 2 := by kernel_rfl
theorem turn_nil_no : ¬ Tb [] := by
  rintro ⟨l, -, -, h⟩
  have := congrArg List.length h
  rw [turnL_len] at this
  simp at this
theorem dback_ok (A : Option Addr) (n c : Nat) (l : List Int) (w : World) (hA : NumsAt .i64 w A (turnL l)) (hl : l.length + 1 = n) (hn : n ≤ 10000) (h64 : I64s l) (hnn : Nn l) (hb64 : I64s (turnL l)) :
    Calls Try.prog 17 #[.slice A n c] w fun e u => ∃ v, e = .returned (.tuple #[v, .bool true]) ∧ OwnI w v l u := by
  refine (dback_pos A n c (turnL l) l true w hA (by rw [turnL_len]; exact hl) (by omega) hn hb64 (fun _ => ⟨hnn, h64, rfl⟩) (fun h => by cases h)).mono ?_
  rintro e u (⟨v, -, h1, h2⟩ | ⟨h, -⟩)
  · exact ⟨v, h1, h2⟩
  · cases h
theorem dback_no (A : Option Addr) (n c : Nat) (b : List Int) (w : World) (hA : NumsAt .i64 w A b) (hl : b.length = n) (hn : n ≤ 10000) (h64 : I64s b) (hno : ¬ Tb b) :
    Calls Try.prog 17 #[.slice A n c] w fun e u => e = .returned (.tuple #[.slice none 0 0, .bool false]) ∧ Below w.heap.size w u := by
  by_cases h0 : n = 0
  · subst h0
    exact dback_nil A c w
  · refine (dback_pos A n c b [] false w hA hl (by omega) hn h64 (fun h => by cases h) (fun _ => hno)).mono ?_
    rintro e u (⟨v, h, -⟩ | ⟨-, h1, h2⟩)
    · cases h
    · exact ⟨h1, h2⟩

set_option maxHeartbeats 16000000 in
theorem tback_walk (A : Option Addr) (n0 c0 : Nat) (xs : List Int) (x0 y0 : Int) (some' : Bool) (w : World) (hA : NumsAt .i64 w A xs) (hx : xs.length = n0) (hc : n0 ≤ c0) (h64 : I64s xs) :
    Calls Try.prog 4 #[.slice A n0 c0, .agg #[.int .i64 x0, .int .i64 y0], .bool some'] w fun e w' => e = .returned (.bool true) ∧ Below w.heap.size w w' := by
  have hfw := fun u => few_any A n0 c0 u hc
  have hal := fun u (hu : NumsAt .i64 u A xs) => alike_any A n0 c0 xs x0 u hu hx
  have hml : (xs.take (min n0 30)).length = min n0 30 := by rw [List.length_take]; omega
  have hm64 := h64.take (min n0 30)
  have hcl := cutL_len (kindN x0) xs (min n0 30) (by rw [hx]; omega)
  have hci : ∀ x ∈ cutL (kindN x0) xs (min n0 30), 0 ≤ x ∧ x < 5 := fun x hx => by
    have h1 := kindN_in x0
    have h2 := cutL_in (kindN x0) xs (min n0 30) (by omega) x hx
    omega
  obtain ⟨n, hn⟩ : ∃ n, n = min n0 30 := ⟨_, rfl⟩
  rw [← hn] at hml hm64 hcl hci
  simp only [← hn] at hfw hal
  have hn30 : n ≤ 30 := by omega
  obtain ⟨bx, hb⟩ : ∃ bx, bx = w.heap.size := ⟨_, rfl⟩
  obtain ⟨w0, hw0⟩ : ∃ w0, w0 = w.alloc (.cells #[.int .i64 x0, .int .i64 y0] 32) := ⟨_, rfl⟩
  have hb0 : Below w.heap.size w w0 := by rw [hw0]; exact al _ _
  have a0 : w0.cell? ⟨bx, 0, none⟩ = some (.int .i64 x0) := by rw [hw0, cell_new _ _ _ _ _ hb]; rfl
  have a1 : w0.cell? ⟨bx, 1, none⟩ = some (.int .i64 y0) := by rw [hw0, cell_new _ _ _ _ _ hb]; rfl
  have hblt := World.block_lt_of_cell? w0 _ a0
  have HC := Lib.hid (And.intro a0 (And.intro a1 (And.intro hblt hb0)))
  have HX := Lib.hid (And.intro hA (And.intro hfw (And.intro hal (And.intro hml (And.intro hm64 (And.intro hcl hci))))))
  clear hA hx hc h64 hfw hal hml hm64 hcl hci hn hb0 a0 a1 hblt
  go_enter Try.func4, Try.ntmps4
  go_upto_region 1 with fail
  rw [← hw0, ← hb]
  clear hw0 hb
  go_wp2_with fail
  (with_reducible refine (awake_any _).mono ?_)
  rintro e w1 ⟨rfl, hb1⟩
  have hbw := HC.out.2.2.2.trans (hb1.mono HC.out.2.2.2.size)
  have a0 : w1.cell? ⟨bx, 0, none⟩ = some (.int .i64 x0) := by rw [hb1.cell (p := ⟨bx, 0, none⟩) HC.out.2.2.1]; exact HC.out.1
  have a1 : w1.cell? ⟨bx, 1, none⟩ = some (.int .i64 y0) := by rw [hb1.cell (p := ⟨bx, 1, none⟩) HC.out.2.2.1]; exact HC.out.2.1
  have H1 := Lib.hid (And.intro hbw (And.intro a1 (Nat.lt_of_lt_of_le HC.out.2.2.1 hb1.size)))
  clear hb1 hbw HC a1
  go_wp2_with fail
  (with_reducible refine (HX.out.2.1 _).mono ?_)
  rintro e u0 ⟨rfl, rfl⟩
  cases some' with
  | false =>
    clear a0
    obtain ⟨B, hB⟩ : ∃ B, B = xs.take n := ⟨_, rfl⟩
    have hPB := (HX.out.1.kept H1.out.1).take n
    have hBl := HX.out.2.2.2.1
    have hB64 := HX.out.2.2.2.2.1
    rw [← hB] at hPB hBl hB64
    have HBB := Lib.hid (And.intro hPB (And.intro hBl (And.intro hB64 H1.out.1)))
    clear hPB hBl hB64 hB
    by_cases hTb : Tb B
    · obtain ⟨l, hln, hl64, hlB⟩ := hTb
      have hll : l.length + 1 = n := by have := HBB.out.2.1; rw [hlB, turnL_len] at this; exact this
      have hBN := HBB.out.1
      have hB64 := HBB.out.2.2.1
      rw [hlB] at hBN hB64
      have hbk := back_ok A n c0 l _ hBN hll (by omega) hl64 hln hB64
      have hdb := fun u (hu : NumsAt .i64 u A (turnL l)) => dback_ok A n c0 l u hu hll (by omega) hl64 hln hB64
      have hnx := fun u (hu : NumsAt .i64 u A (turnL l)) => next_ok A n c0 l u hu hll (by omega) hl64 hln hB64
      obtain ⟨nl, hnl⟩ : ∃ nl, l.length = nl := ⟨_, rfl⟩
      have hNl : (nextL l).length = n := by rw [nextL_len]; exact hll
      have HL := Lib.hid (And.intro hbk (And.intro hdb (And.intro hnx (And.intro hBN (And.intro hl64 (And.intro hln (And.intro hnl hNl)))))))
      have hnl31 : nl ≤ 40 := by omega
      clear hbk hdb hnx hBN hB64 hlB hll hnl hl64 hln hNl
      go_wp2_with fail
      (with_reducible refine HL.out.1.mono ?_)
      rintro e x1 ⟨v, rfl, hI⟩
      obtain ⟨X, xc, rfl, hX, -, -, -, -⟩ := nums_of_own hI.1
      rw [HL.out.2.2.2.2.2.2.1]
      have hwx := HBB.out.2.2.2.trans (hI.2.mono HBB.out.2.2.2.size)
      have hkB := HL.out.2.2.2.1.kept hI.2
      have hk1 := HL.out.2.1 x1 hkB
      have HX1 := Lib.hid (And.intro hk1 (And.intro hwx (And.intro hkB hX)))
      clear hI hX hwx hk1 hkB
      go_wp2_with fail
      (with_reducible refine HX1.out.1.mono ?_)
      rintro e x2 ⟨v, rfl, hI⟩
      obtain ⟨Y, yc, rfl, hY, -, hyc, -, -⟩ := nums_of_own hI.1
      rw [HL.out.2.2.2.2.2.2.1] at hyc ⊢
      have hwx := HX1.out.2.1.trans (hI.2.mono HX1.out.2.1.size)
      have hkB := HX1.out.2.2.1.kept hI.2
      have hk1 := HL.out.2.2.1 x2 hkB
      have HX2 := Lib.hid (And.intro hk1 (And.intro hwx (And.intro (HX1.out.2.2.2.kept hI.2) (And.intro hY hyc))))
      clear hI hY hyc hwx hk1 hkB HX1
      go_wp2_with fail
      (with_reducible refine HX2.out.1.mono ?_)
      rintro e x3 ⟨D, rfl, hD, hb3⟩
      have hwx := HX2.out.2.1.trans (hb3.mono HX2.out.2.1.size)
      have hY3 := HX2.out.2.2.2.1.kept hb3
      have hsm := rsame_any X Y nl nl xc yc l l x3 (HX2.out.2.2.1.kept hb3) hY3 HL.out.2.2.2.2.2.2.1 HL.out.2.2.2.2.2.2.1 (by omega)
      rw [decide_eq_true rfl] at hsm
      have HX3 := Lib.hid (And.intro hsm (And.intro hwx (And.intro hY3 (And.intro hD HX2.out.2.2.2.2))))
      clear hD hb3 hwx hY3 hsm HX2
      go_wp2_with fail
      (with_reducible refine HX3.out.1.mono ?_)
      rintro e x4 ⟨rfl, hb4⟩
      have hwx := HX3.out.2.1.trans (hb4.mono HX3.out.2.1.size)
      have hdn := dnext_any Y nl yc l x4 (HX3.out.2.2.1.kept hb4) HL.out.2.2.2.2.2.2.1 HX3.out.2.2.2.2 (by omega) HL.out.2.2.2.2.1 HL.out.2.2.2.2.2.1
      have HX4 := Lib.hid (And.intro hdn (And.intro hwx (HX3.out.2.2.2.1.kept hb4)))
      clear hb4 hwx hdn HX3
      go_wp2_with fail
      (with_reducible refine HX4.out.1.mono ?_)
      rintro e x5 ⟨v, rfl, hI⟩
      obtain ⟨Z, zc, rfl, hZ, -, -, -, -⟩ := nums_of_own hI.1
      rw [HL.out.2.2.2.2.2.2.2]
      have hsm := rsame_any (some ⟨D, 0, none⟩) Z n n n zc (nextL l) (nextL l) x5 (HX4.out.2.2.kept hI.2) hZ HL.out.2.2.2.2.2.2.2 HL.out.2.2.2.2.2.2.2 (by omega)
      rw [decide_eq_true rfl] at hsm
      have HX5 := Lib.hid (And.intro hsm (HX4.out.2.1.trans (hI.2.mono HX4.out.2.1.size)))
      clear hI hZ hsm HX4
      go_wp2_with fail
      (with_reducible refine HX5.out.1.mono ?_)
      rintro e x6 ⟨rfl, hb6⟩
      have HX6 := Lib.hid (HX5.out.2.trans (hb6.mono HX5.out.2.size))
      clear hb6 HX5
      go_wp2
      go_ret
      exact ⟨rfl, HX6.out⟩
    · have hbk := back_no A n c0 B _ HBB.out.1 HBB.out.2.1 (by omega) HBB.out.2.2.1 hTb
      have hdb := fun u (hu : NumsAt .i64 u A B) => dback_no A n c0 B u hu HBB.out.2.1 (by omega) HBB.out.2.2.1 hTb
      have hnx := fun u (hu : NumsAt .i64 u A B) => next_no A n c0 B u hu HBB.out.2.1 (by omega) HBB.out.2.2.1 hTb
      have HL := Lib.hid (And.intro hbk (And.intro hdb hnx))
      clear hbk hdb hnx hTb
      go_wp2_with fail
      (with_reducible refine HL.out.1.mono ?_)
      rintro e x1 ⟨rfl, hb1⟩
      have hkB := HBB.out.1.kept hb1
      have hk1 := HL.out.2.1 x1 hkB
      have HX1 := Lib.hid (And.intro hk1 (And.intro (HBB.out.2.2.2.trans (hb1.mono HBB.out.2.2.2.size)) hkB))
      clear hb1 hkB hk1
      go_wp2_with fail
      (with_reducible refine HX1.out.1.mono ?_)
      rintro e x2 ⟨rfl, hb2⟩
      have hkB := HX1.out.2.2.kept hb2
      have hk1 := HL.out.2.2 x2 hkB
      have HX2 := Lib.hid (And.intro hk1 (HX1.out.2.1.trans (hb2.mono HX1.out.2.1.size)))
      clear hb2 hkB hk1 HX1
      go_wp2_with fail
      (with_reducible refine HX2.out.1.mono ?_)
      rintro e x3 ⟨rfl, hb3⟩
      have HX3 := Lib.hid (HX2.out.2.trans (hb3.mono HX2.out.2.size))
      clear hb3 HX2
      go_wp2
      go_ret
      exact ⟨rfl, HX3.out⟩
  | true =>
    have hk1 := HX.out.2.2.1 _ (HX.out.1.kept H1.out.1)
    have HK := Lib.hid hk1
    clear hk1
    go_wp2_with fail
    (with_reducible refine HK.out.mono ?_)
    rintro e u ⟨v, rfl, hI⟩
    obtain ⟨M, hM⟩ : ∃ M, M = cutL (kindN x0) xs n := ⟨_, rfl⟩
    have hMl := HX.out.2.2.2.2.2.1
    have hMi := HX.out.2.2.2.2.2.2
    rw [← hM] at hI hMl hMi
    have a1 : u.cell? ⟨bx, 1, none⟩ = some (.int .i64 y0) := by rw [hI.2.cell (p := ⟨bx, 1, none⟩) H1.out.2.2]; exact H1.out.2.1
    have hwu := H1.out.1.trans (hI.2.mono H1.out.1.size)
    obtain ⟨N, hN⟩ : ∃ N, n + 1 = N := ⟨_, rfl⟩
    have n1 : IntKind.i64.wrap ((n : Int) + 1) = (N : Int) := by rw [← hN, Int.natCast_add]; exact IntWalk.i64_in _ (by omega)
    obtain ⟨r1, hr1⟩ : ∃ r1, y0.tmod N = r1 := ⟨_, rfl⟩
    have t1 := Int.tmod_lt_of_pos y0 (b := (N : Int)) (by omega)
    have t2 := Int.lt_tmod_of_pos y0 (b := (N : Int)) (by omega)
    rw [hr1] at t1 t2
    have n2 : IntKind.i64.wrap (r1 + (n : Int)) = r1 + (n : Int) := IntWalk.i64_in _ (by omega)
    have n3 : IntKind.i64.wrap (r1 + (n : Int) + 1) = r1 + (n : Int) + 1 := IntWalk.i64_in _ (by omega)
    obtain ⟨k, hk⟩ : ∃ k : Nat, (r1 + (n : Int) + 1).tmod N = (k : Int) := ⟨((r1 + (n : Int) + 1).tmod N).toNat, by
      rw [Int.tmod_eq_emod_of_nonneg (by omega)]
      have := Int.emod_nonneg (r1 + (n : Int) + 1) (b := (N : Int)) (by omega)
      omega⟩
    have hkn : k ≤ n := by
      have := Int.tmod_lt_of_pos (r1 + (n : Int) + 1) (b := (N : Int)) (by omega)
      omega
    have z0 : ((N : Int) == 0) = false := by simp; omega
    have z0' : ¬ (N : Int) = 0 := by omega
    obtain ⟨L1, hL1⟩ : ∃ L1, L1 = M.take k := ⟨_, rfl⟩
    obtain ⟨L2, hL2⟩ : ∃ L2, L2 = M.drop k := ⟨_, rfl⟩
    have hl1 : L1.length = k := by rw [hL1, List.length_take]; omega
    have hl2 : L2.length = n - k := by rw [hL2, List.length_drop]; omega
    have hLB : I64s (L1 ++ [-1] ++ L2) := by
      intro x hx
      rcases List.mem_append.1 hx with h | h
      · rcases List.mem_append.1 h with h | h
        · rw [hL1] at h; have := hMi x (List.mem_of_mem_take h); omega
        · simp only [List.mem_singleton] at h; omega
      · rw [hL2] at h; have := hMi x (List.mem_of_mem_drop h); omega
    have HM := Lib.hid (And.intro hl1 (And.intro hl2 (And.intro hLB hwu)))
    have k1 : (k : Int) ≤ (n : Int) := by omega
    have k2 : (0 : Int) ≤ (k : Int) := by omega
    have hown := hI.1
    rw [hMl] at hown
    rcases own_cases hown with ⟨rfl, hn0⟩ | ⟨g, cap, rfl, hcap, hcm⟩
    · have hk0 : k = 0 := by omega
      have e1 : L1 = [] := by rw [hL1, hk0]; rfl
      have e2 : L2 = [] := List.eq_nil_of_length_eq_zero (by omega)
      have HE := Lib.hid (And.intro e1 e2)
      subst hk0
      subst hn0
      clear hI hMl hMi hM hL1 hL2 hl1 hl2 hLB hwu hown e1 e2 a0 hN
      go_wp2_with (first
        | (at_builtin
           refine wpList_append_nums rfl (.tmp 42) (.tmp 45) rfl u.heap.size (.slice none 0 0) 0 [] rfl (World.ownsRow_nil _ _ _ _) none 0 0 L1 rfl (by rw [HE.out.1]; rfl) (.inl HE.out.1) (fun _ => ⟨rfl, rfl⟩) ?c2 ?c3 ?_))
      case c2 => first | omega | (simp; omega)
      case c3 => first | omega | exact Nat.le_refl _
      intro v1 y1 hown hgrow _
      have hI1 : OwnI u v1 L1 y1 := OwnI.app (v := .slice none 0 0) (l := []) ⟨World.ownsRow_nil _ _ _ _, Below.refl _ _⟩ (by rw [HM.out.1]; simpa using hown) hgrow
      have HI1 := Lib.hid hI1
      have hz1 := hI1.2.size
      clear hown hgrow hI1
      go_wp2_with (first
        | (at_builtin
           refine wpList_append_nums rfl (.tmp 47) (.tmp 48) rfl u.heap.size _ _ _ rfl (HI1.out.alloc _).1 (some ⟨_, 0, none⟩) 1 1 [-1] rfl rfl ?c1 (by simp) ?c2 ?c3 ?_))
      case c1 => exact nums_one _ _
      case c2 => rw [HM.out.1]; omega
      case c3 => first | omega | (simp; omega)
      intro v2 y2 hown hgrow _
      have hI2 := (HI1.out.alloc _).app (l' := L1 ++ [-1]) (by simpa using hown) hgrow
      have HI2 := Lib.hid hI2
      have hz2 := hI2.2.size
      clear hown hgrow hI2
      go_wp2_with (first
        | (at_builtin
           refine wpList_append_nums rfl (.tmp 50) (.tmp 53) rfl u.heap.size _ _ _ rfl HI2.out.1 none _ _ L2 rfl ?d1 (.inl HE.out.2) (fun _ => ⟨rfl, rfl⟩) ?c2 ?c3 ?_))
      case d1 => simp [HE.out.2]
      case c2 => have h1 := HM.out.1; simp only [List.length_append, List.length_singleton]; omega
      case c3 => first | omega | exact Nat.le_refl _
      intro v3 y3 hown hgrow _
      have hI3 := HI2.out.app (l' := L1 ++ [-1] ++ L2) (by rw [show (L1 ++ [(-1 : Int)] ++ L2).length = L1.length + 1 by have := HM.out.2.1; simp only [List.length_append, List.length_singleton]; omega]; simpa using hown) hgrow
      have hBl : (L1 ++ [-1] ++ L2).length = 0 + 1 := by have h1 := HM.out.1; have h2 := HM.out.2.1; simp only [List.length_append, List.length_singleton]; omega
      have hB64 : I64s (L1 ++ [-1] ++ L2) := HM.out.2.2.1
      obtain ⟨B, hB⟩ : ∃ B, B = L1 ++ [-1] ++ L2 := ⟨_, rfl⟩
      rw [← hB] at hI3 hBl hB64
      obtain ⟨PB, cb, rfl, hPB, -, -, -, -⟩ := nums_of_own hI3.1
      rw [hBl]
      have hwb := HM.out.2.2.2.trans (hI3.2.mono HM.out.2.2.2.size)
      obtain ⟨nb, hnb⟩ : ∃ nb, 0 + 1 = nb := ⟨_, rfl⟩
      have hnb31 : nb ≤ 31 := by omega
      rw [hnb] at hBl
      rw [hnb]
      have HBB := Lib.hid (And.intro hPB (And.intro hBl (And.intro hB64 hwb)))
      clear hown hgrow hI3 hPB hBl hB64 hwb hB HI1 HI2 hz1 hz2 hnb
      by_cases hTb : Tb B
      · obtain ⟨l, hln, hl64, hlB⟩ := hTb
        have hll : l.length + 1 = nb := by have := HBB.out.2.1; rw [hlB, turnL_len] at this; exact this
        have hBN := HBB.out.1
        have hB64 := HBB.out.2.2.1
        rw [hlB] at hBN hB64
        have hbk := back_ok PB nb cb l y3 hBN hll (by omega) hl64 hln hB64
        have hdb := fun u (hu : NumsAt .i64 u PB (turnL l)) => dback_ok PB nb cb l u hu hll (by omega) hl64 hln hB64
        have hnx := fun u (hu : NumsAt .i64 u PB (turnL l)) => next_ok PB nb cb l u hu hll (by omega) hl64 hln hB64
        obtain ⟨nl, hnl⟩ : ∃ nl, l.length = nl := ⟨_, rfl⟩
        have hNl : (nextL l).length = nb := by rw [nextL_len]; exact hll
        have HL := Lib.hid (And.intro hbk (And.intro hdb (And.intro hnx (And.intro hBN (And.intro hl64 (And.intro hln (And.intro hnl hNl)))))))
        have hnl31 : nl ≤ 40 := by omega
        clear hbk hdb hnx hBN hB64 hlB hll hnl hl64 hln hNl
        go_wp2_with fail
        (with_reducible refine HL.out.1.mono ?_)
        rintro e x1 ⟨v, rfl, hI⟩
        obtain ⟨X, xc, rfl, hX, -, -, -, -⟩ := nums_of_own hI.1
        rw [HL.out.2.2.2.2.2.2.1]
        have hwx := HBB.out.2.2.2.trans (hI.2.mono HBB.out.2.2.2.size)
        have hkB := HL.out.2.2.2.1.kept hI.2
        have hk1 := HL.out.2.1 x1 hkB
        have HX1 := Lib.hid (And.intro hk1 (And.intro hwx (And.intro hkB hX)))
        clear hI hX hwx hk1 hkB
        go_wp2_with fail
        (with_reducible refine HX1.out.1.mono ?_)
        rintro e x2 ⟨v, rfl, hI⟩
        obtain ⟨Y, yc, rfl, hY, -, hyc, -, -⟩ := nums_of_own hI.1
        rw [HL.out.2.2.2.2.2.2.1] at hyc ⊢
        have hwx := HX1.out.2.1.trans (hI.2.mono HX1.out.2.1.size)
        have hkB := HX1.out.2.2.1.kept hI.2
        have hk1 := HL.out.2.2.1 x2 hkB
        have HX2 := Lib.hid (And.intro hk1 (And.intro hwx (And.intro (HX1.out.2.2.2.kept hI.2) (And.intro hY hyc))))
        clear hI hY hyc hwx hk1 hkB HX1
        go_wp2_with fail
        (with_reducible refine HX2.out.1.mono ?_)
        rintro e x3 ⟨D, rfl, hD, hb3⟩
        have hwx := HX2.out.2.1.trans (hb3.mono HX2.out.2.1.size)
        have hY3 := HX2.out.2.2.2.1.kept hb3
        have hsm := rsame_any X Y nl nl xc yc l l x3 (HX2.out.2.2.1.kept hb3) hY3 HL.out.2.2.2.2.2.2.1 HL.out.2.2.2.2.2.2.1 (by omega)
        rw [decide_eq_true rfl] at hsm
        have HX3 := Lib.hid (And.intro hsm (And.intro hwx (And.intro hY3 (And.intro hD HX2.out.2.2.2.2))))
        clear hD hb3 hwx hY3 hsm HX2
        go_wp2_with fail
        (with_reducible refine HX3.out.1.mono ?_)
        rintro e x4 ⟨rfl, hb4⟩
        have hwx := HX3.out.2.1.trans (hb4.mono HX3.out.2.1.size)
        have hdn := dnext_any Y nl yc l x4 (HX3.out.2.2.1.kept hb4) HL.out.2.2.2.2.2.2.1 HX3.out.2.2.2.2 (by omega) HL.out.2.2.2.2.1 HL.out.2.2.2.2.2.1
        have HX4 := Lib.hid (And.intro hdn (And.intro hwx (HX3.out.2.2.2.1.kept hb4)))
        clear hb4 hwx hdn HX3
        go_wp2_with fail
        (with_reducible refine HX4.out.1.mono ?_)
        rintro e x5 ⟨v, rfl, hI⟩
        obtain ⟨Z, zc, rfl, hZ, -, -, -, -⟩ := nums_of_own hI.1
        rw [HL.out.2.2.2.2.2.2.2]
        have hsm := rsame_any (some ⟨D, 0, none⟩) Z nb nb nb zc (nextL l) (nextL l) x5 (HX4.out.2.2.kept hI.2) hZ HL.out.2.2.2.2.2.2.2 HL.out.2.2.2.2.2.2.2 (by omega)
        rw [decide_eq_true rfl] at hsm
        have HX5 := Lib.hid (And.intro hsm (HX4.out.2.1.trans (hI.2.mono HX4.out.2.1.size)))
        clear hI hZ hsm HX4
        go_wp2_with fail
        (with_reducible refine HX5.out.1.mono ?_)
        rintro e x6 ⟨rfl, hb6⟩
        have HX6 := Lib.hid (HX5.out.2.trans (hb6.mono HX5.out.2.size))
        clear hb6 HX5
        go_wp2
        go_ret
        exact ⟨rfl, HX6.out⟩
      · have hbk := back_no PB nb cb B y3 HBB.out.1 HBB.out.2.1 (by omega) HBB.out.2.2.1 hTb
        have hdb := fun u (hu : NumsAt .i64 u PB B) => dback_no PB nb cb B u hu HBB.out.2.1 (by omega) HBB.out.2.2.1 hTb
        have hnx := fun u (hu : NumsAt .i64 u PB B) => next_no PB nb cb B u hu HBB.out.2.1 (by omega) HBB.out.2.2.1 hTb
        have HL := Lib.hid (And.intro hbk (And.intro hdb hnx))
        clear hbk hdb hnx hTb
        go_wp2_with fail
        (with_reducible refine HL.out.1.mono ?_)
        rintro e x1 ⟨rfl, hb1⟩
        have hkB := HBB.out.1.kept hb1
        have hk1 := HL.out.2.1 x1 hkB
        have HX1 := Lib.hid (And.intro hk1 (And.intro (HBB.out.2.2.2.trans (hb1.mono HBB.out.2.2.2.size)) hkB))
        clear hb1 hkB hk1
        go_wp2_with fail
        (with_reducible refine HX1.out.1.mono ?_)
        rintro e x2 ⟨rfl, hb2⟩
        have hkB := HX1.out.2.2.kept hb2
        have hk1 := HL.out.2.2 x2 hkB
        have HX2 := Lib.hid (And.intro hk1 (HX1.out.2.1.trans (hb2.mono HX1.out.2.1.size)))
        clear hb2 hkB hk1 HX1
        go_wp2_with fail
        (with_reducible refine HX2.out.1.mono ?_)
        rintro e x3 ⟨rfl, hb3⟩
        have HX3 := Lib.hid (HX2.out.2.trans (hb3.mono HX2.out.2.size))
        clear hb3 HX2
        go_wp2
        go_ret
        exact ⟨rfl, HX3.out⟩
    · obtain ⟨b6, d6, hv6, hn6, -⟩ := nums_of_own hown
      simp only [Value.slice.injEq] at hv6
      obtain ⟨rfl, -, rfl⟩ := hv6
      have hs1 : NumsAt .i64 u (some ⟨g, 0, none⟩) L1 := by rw [hL1]; exact hn6.take k
      have hs2 : NumsAt .i64 u (some ⟨g, k, none⟩) L2 := by rw [hL2]; have := hn6.drop k; rwa [Nat.zero_add] at this
      have HS := Lib.hid (And.intro hs1 hs2)
      unfold maxLen at hcm
      have k3 : (k : Int) ≤ (cap : Int) := by omega
      clear hI hMl hMi hM hL1 hL2 hl1 hl2 hLB hwu hown hn6 hs1 hs2 a0 hN
      by_cases hkc : k = cap
      · have e2 : L2 = [] := List.eq_nil_of_length_eq_zero (by have := HM.out.2.1; omega)
        have HE := Lib.hid e2
        obtain rfl : n = cap := by omega
        obtain rfl : k = n := by omega
        clear e2 hkc
        go_wp2_with (first
          | (at_builtin
             refine wpList_append_nums rfl (.tmp 42) (.tmp 45) rfl u.heap.size (.slice none 0 0) 0 [] rfl (World.ownsRow_nil _ _ _ _) (some ⟨g, 0, none⟩) k _ L1 rfl HM.out.1 HS.out.1 (by simp) ?c2 ?c3 ?_))
        case c2 => first | omega | (simp; omega)
        case c3 => first | omega | exact Nat.le_refl _
        intro v1 y1 hown hgrow _
        have hI1 : OwnI u v1 L1 y1 := OwnI.app (v := .slice none 0 0) (l := []) ⟨World.ownsRow_nil _ _ _ _, Below.refl _ _⟩ (by rw [HM.out.1]; simpa using hown) hgrow
        have HI1 := Lib.hid hI1
        have hz1 := hI1.2.size
        clear hown hgrow hI1
        go_wp2_with (first
          | (at_builtin
             refine wpList_append_nums rfl (.tmp 47) (.tmp 48) rfl u.heap.size _ _ _ rfl (HI1.out.alloc _).1 (some ⟨_, 0, none⟩) 1 1 [-1] rfl rfl ?c1 (by simp) ?c2 ?c3 ?_))
        case c1 => exact nums_one _ _
        case c2 => rw [HM.out.1]; omega
        case c3 => first | omega | (simp; omega)
        intro v2 y2 hown hgrow _
        have hI2 := (HI1.out.alloc _).app (l' := L1 ++ [-1]) (by simpa using hown) hgrow
        have HI2 := Lib.hid hI2
        have hz2 := hI2.2.size
        clear hown hgrow hI2
        go_wp2_with (first
          | (at_builtin
             refine wpList_append_nums rfl (.tmp 50) (.tmp 53) rfl u.heap.size _ _ _ rfl HI2.out.1 (some ⟨g, 0, none⟩) _ _ L2 rfl ?d1 (.inl HE.out) (by simp) ?c2 ?c3 ?_))
        case d1 => simp [HE.out]
        case c2 => have h1 := HM.out.1; simp only [List.length_append, List.length_singleton]; omega
        case c3 => first | omega | exact Nat.le_refl _
        intro v3 y3 hown hgrow _
        have hI3 := HI2.out.app (l' := L1 ++ [-1] ++ L2) (by rw [show (L1 ++ [(-1 : Int)] ++ L2).length = L1.length + 1 by have := HM.out.2.1; simp only [List.length_append, List.length_singleton]; omega]; simpa using hown) hgrow
        have hBl : (L1 ++ [-1] ++ L2).length = k + 1 := by have h1 := HM.out.1; have h2 := HM.out.2.1; simp only [List.length_append, List.length_singleton]; omega
        have hB64 : I64s (L1 ++ [-1] ++ L2) := HM.out.2.2.1
        obtain ⟨B, hB⟩ : ∃ B, B = L1 ++ [-1] ++ L2 := ⟨_, rfl⟩
        rw [← hB] at hI3 hBl hB64
        obtain ⟨PB, cb, rfl, hPB, -, -, -, -⟩ := nums_of_own hI3.1
        rw [hBl]
        have hwb := HM.out.2.2.2.trans (hI3.2.mono HM.out.2.2.2.size)
        obtain ⟨nb, hnb⟩ : ∃ nb, k + 1 = nb := ⟨_, rfl⟩
        have hnb31 : nb ≤ 31 := by omega
        rw [hnb] at hBl
        rw [hnb]
        have HBB := Lib.hid (And.intro hPB (And.intro hBl (And.intro hB64 hwb)))
        clear hown hgrow hI3 hPB hBl hB64 hwb hB HI1 HI2 hz1 hz2 hnb
        by_cases hTb : Tb B
        · obtain ⟨l, hln, hl64, hlB⟩ := hTb
          have hll : l.length + 1 = nb := by have := HBB.out.2.1; rw [hlB, turnL_len] at this; exact this
          have hBN := HBB.out.1
          have hB64 := HBB.out.2.2.1
          rw [hlB] at hBN hB64
          have hbk := back_ok PB nb cb l y3 hBN hll (by omega) hl64 hln hB64
          have hdb := fun u (hu : NumsAt .i64 u PB (turnL l)) => dback_ok PB nb cb l u hu hll (by omega) hl64 hln hB64
          have hnx := fun u (hu : NumsAt .i64 u PB (turnL l)) => next_ok PB nb cb l u hu hll (by omega) hl64 hln hB64
          obtain ⟨nl, hnl⟩ : ∃ nl, l.length = nl := ⟨_, rfl⟩
          have hNl : (nextL l).length = nb := by rw [nextL_len]; exact hll
          have HL := Lib.hid (And.intro hbk (And.intro hdb (And.intro hnx (And.intro hBN (And.intro hl64 (And.intro hln (And.intro hnl hNl)))))))
          have hnl31 : nl ≤ 40 := by omega
          clear hbk hdb hnx hBN hB64 hlB hll hnl hl64 hln hNl
          go_wp2_with fail
          (with_reducible refine HL.out.1.mono ?_)
          rintro e x1 ⟨v, rfl, hI⟩
          obtain ⟨X, xc, rfl, hX, -, -, -, -⟩ := nums_of_own hI.1
          rw [HL.out.2.2.2.2.2.2.1]
          have hwx := HBB.out.2.2.2.trans (hI.2.mono HBB.out.2.2.2.size)
          have hkB := HL.out.2.2.2.1.kept hI.2
          have hk1 := HL.out.2.1 x1 hkB
          have HX1 := Lib.hid (And.intro hk1 (And.intro hwx (And.intro hkB hX)))
          clear hI hX hwx hk1 hkB
          go_wp2_with fail
          (with_reducible refine HX1.out.1.mono ?_)
          rintro e x2 ⟨v, rfl, hI⟩
          obtain ⟨Y, yc, rfl, hY, -, hyc, -, -⟩ := nums_of_own hI.1
          rw [HL.out.2.2.2.2.2.2.1] at hyc ⊢
          have hwx := HX1.out.2.1.trans (hI.2.mono HX1.out.2.1.size)
          have hkB := HX1.out.2.2.1.kept hI.2
          have hk1 := HL.out.2.2.1 x2 hkB
          have HX2 := Lib.hid (And.intro hk1 (And.intro hwx (And.intro (HX1.out.2.2.2.kept hI.2) (And.intro hY hyc))))
          clear hI hY hyc hwx hk1 hkB HX1
          go_wp2_with fail
          (with_reducible refine HX2.out.1.mono ?_)
          rintro e x3 ⟨D, rfl, hD, hb3⟩
          have hwx := HX2.out.2.1.trans (hb3.mono HX2.out.2.1.size)
          have hY3 := HX2.out.2.2.2.1.kept hb3
          have hsm := rsame_any X Y nl nl xc yc l l x3 (HX2.out.2.2.1.kept hb3) hY3 HL.out.2.2.2.2.2.2.1 HL.out.2.2.2.2.2.2.1 (by omega)
          rw [decide_eq_true rfl] at hsm
          have HX3 := Lib.hid (And.intro hsm (And.intro hwx (And.intro hY3 (And.intro hD HX2.out.2.2.2.2))))
          clear hD hb3 hwx hY3 hsm HX2
          go_wp2_with fail
          (with_reducible refine HX3.out.1.mono ?_)
          rintro e x4 ⟨rfl, hb4⟩
          have hwx := HX3.out.2.1.trans (hb4.mono HX3.out.2.1.size)
          have hdn := dnext_any Y nl yc l x4 (HX3.out.2.2.1.kept hb4) HL.out.2.2.2.2.2.2.1 HX3.out.2.2.2.2 (by omega) HL.out.2.2.2.2.1 HL.out.2.2.2.2.2.1
          have HX4 := Lib.hid (And.intro hdn (And.intro hwx (HX3.out.2.2.2.1.kept hb4)))
          clear hb4 hwx hdn HX3
          go_wp2_with fail
          (with_reducible refine HX4.out.1.mono ?_)
          rintro e x5 ⟨v, rfl, hI⟩
          obtain ⟨Z, zc, rfl, hZ, -, -, -, -⟩ := nums_of_own hI.1
          rw [HL.out.2.2.2.2.2.2.2]
          have hsm := rsame_any (some ⟨D, 0, none⟩) Z nb nb nb zc (nextL l) (nextL l) x5 (HX4.out.2.2.kept hI.2) hZ HL.out.2.2.2.2.2.2.2 HL.out.2.2.2.2.2.2.2 (by omega)
          rw [decide_eq_true rfl] at hsm
          have HX5 := Lib.hid (And.intro hsm (HX4.out.2.1.trans (hI.2.mono HX4.out.2.1.size)))
          clear hI hZ hsm HX4
          go_wp2_with fail
          (with_reducible refine HX5.out.1.mono ?_)
          rintro e x6 ⟨rfl, hb6⟩
          have HX6 := Lib.hid (HX5.out.2.trans (hb6.mono HX5.out.2.size))
          clear hb6 HX5
          go_wp2
          go_ret
          exact ⟨rfl, HX6.out⟩
        · have hbk := back_no PB nb cb B y3 HBB.out.1 HBB.out.2.1 (by omega) HBB.out.2.2.1 hTb
          have hdb := fun u (hu : NumsAt .i64 u PB B) => dback_no PB nb cb B u hu HBB.out.2.1 (by omega) HBB.out.2.2.1 hTb
          have hnx := fun u (hu : NumsAt .i64 u PB B) => next_no PB nb cb B u hu HBB.out.2.1 (by omega) HBB.out.2.2.1 hTb
          have HL := Lib.hid (And.intro hbk (And.intro hdb hnx))
          clear hbk hdb hnx hTb
          go_wp2_with fail
          (with_reducible refine HL.out.1.mono ?_)
          rintro e x1 ⟨rfl, hb1⟩
          have hkB := HBB.out.1.kept hb1
          have hk1 := HL.out.2.1 x1 hkB
          have HX1 := Lib.hid (And.intro hk1 (And.intro (HBB.out.2.2.2.trans (hb1.mono HBB.out.2.2.2.size)) hkB))
          clear hb1 hkB hk1
          go_wp2_with fail
          (with_reducible refine HX1.out.1.mono ?_)
          rintro e x2 ⟨rfl, hb2⟩
          have hkB := HX1.out.2.2.kept hb2
          have hk1 := HL.out.2.2 x2 hkB
          have HX2 := Lib.hid (And.intro hk1 (HX1.out.2.1.trans (hb2.mono HX1.out.2.1.size)))
          clear hb2 hkB hk1 HX1
          go_wp2_with fail
          (with_reducible refine HX2.out.1.mono ?_)
          rintro e x3 ⟨rfl, hb3⟩
          have HX3 := Lib.hid (HX2.out.2.trans (hb3.mono HX2.out.2.size))
          clear hb3 HX2
          go_wp2
          go_ret
          exact ⟨rfl, HX3.out⟩
      · have k4 : (k : Int) < (cap : Int) := by omega
        go_wp2_with (first
          | (at_builtin
             refine wpList_append_nums rfl (.tmp 42) (.tmp 45) rfl u.heap.size (.slice none 0 0) 0 [] rfl (World.ownsRow_nil _ _ _ _) (some ⟨g, 0, none⟩) k cap L1 rfl HM.out.1 HS.out.1 (by simp) ?c2 ?c3 ?_))
        case c2 => first | omega | (simp; omega)
        case c3 => first | omega | exact Nat.le_refl _
        intro v1 y1 hown hgrow _
        have hI1 : OwnI u v1 L1 y1 := OwnI.app (v := .slice none 0 0) (l := []) ⟨World.ownsRow_nil _ _ _ _, Below.refl _ _⟩ (by rw [HM.out.1]; simpa using hown) hgrow
        have HI1 := Lib.hid hI1
        have hz1 := hI1.2.size
        clear hown hgrow hI1
        go_wp2_with (first
          | (at_builtin
             refine wpList_append_nums rfl (.tmp 47) (.tmp 48) rfl u.heap.size _ _ _ rfl (HI1.out.alloc _).1 (some ⟨_, 0, none⟩) 1 1 [-1] rfl rfl ?c1 (by simp) ?c2 ?c3 ?_))
        case c1 => exact nums_one _ _
        case c2 => rw [HM.out.1]; omega
        case c3 => first | omega | (simp; omega)
        intro v2 y2 hown hgrow _
        have hI2 := (HI1.out.alloc _).app (l' := L1 ++ [-1]) (by simpa using hown) hgrow
        have HI2 := Lib.hid hI2
        have hz2 := hI2.2.size
        clear hown hgrow hI2
        go_wp2_with (first
          | (at_builtin
             refine wpList_append_nums rfl (.tmp 50) (.tmp 53) rfl u.heap.size _ _ _ rfl HI2.out.1 (some ⟨g, k, none⟩) (n - k) (cap - k) L2 rfl ?d1 (HS.out.2.kept HI2.out.2) (by simp) ?c2 ?c3 ?_))
        case d1 => exact HM.out.2.1
        case c2 => have h1 := HM.out.1; simp only [List.length_append, List.length_singleton]; omega
        case c3 => first | omega | exact Nat.le_refl _
        intro v3 y3 hown hgrow _
        have hI3 := HI2.out.app (l' := L1 ++ [-1] ++ L2) (by rw [show (L1 ++ [(-1 : Int)] ++ L2).length = L1.length + 1 + (n - k) by have := HM.out.2.1; simp only [List.length_append, List.length_singleton]; omega]; simpa using hown) hgrow
        have hBl : (L1 ++ [-1] ++ L2).length = n + 1 := by have h1 := HM.out.1; have h2 := HM.out.2.1; simp only [List.length_append, List.length_singleton]; omega
        have hB64 : I64s (L1 ++ [-1] ++ L2) := HM.out.2.2.1
        obtain ⟨B, hB⟩ : ∃ B, B = L1 ++ [-1] ++ L2 := ⟨_, rfl⟩
        rw [← hB] at hI3 hBl hB64
        obtain ⟨PB, cb, rfl, hPB, -, -, -, -⟩ := nums_of_own hI3.1
        rw [hBl]
        have hwb := HM.out.2.2.2.trans (hI3.2.mono HM.out.2.2.2.size)
        obtain ⟨nb, hnb⟩ : ∃ nb, n + 1 = nb := ⟨_, rfl⟩
        have hnb31 : nb ≤ 31 := by omega
        rw [hnb] at hBl
        rw [hnb]
        have HBB := Lib.hid (And.intro hPB (And.intro hBl (And.intro hB64 hwb)))
        clear hown hgrow hI3 hPB hBl hB64 hwb hB HI1 HI2 hz1 hz2 hnb
        by_cases hTb : Tb B
        · obtain ⟨l, hln, hl64, hlB⟩ := hTb
          have hll : l.length + 1 = nb := by have := HBB.out.2.1; rw [hlB, turnL_len] at this; exact this
          have hBN := HBB.out.1
          have hB64 := HBB.out.2.2.1
          rw [hlB] at hBN hB64
          have hbk := back_ok PB nb cb l y3 hBN hll (by omega) hl64 hln hB64
          have hdb := fun u (hu : NumsAt .i64 u PB (turnL l)) => dback_ok PB nb cb l u hu hll (by omega) hl64 hln hB64
          have hnx := fun u (hu : NumsAt .i64 u PB (turnL l)) => next_ok PB nb cb l u hu hll (by omega) hl64 hln hB64
          obtain ⟨nl, hnl⟩ : ∃ nl, l.length = nl := ⟨_, rfl⟩
          have hNl : (nextL l).length = nb := by rw [nextL_len]; exact hll
          have HL := Lib.hid (And.intro hbk (And.intro hdb (And.intro hnx (And.intro hBN (And.intro hl64 (And.intro hln (And.intro hnl hNl)))))))
          have hnl31 : nl ≤ 40 := by omega
          clear hbk hdb hnx hBN hB64 hlB hll hnl hl64 hln hNl
          go_wp2_with fail
          (with_reducible refine HL.out.1.mono ?_)
          rintro e x1 ⟨v, rfl, hI⟩
          obtain ⟨X, xc, rfl, hX, -, -, -, -⟩ := nums_of_own hI.1
          rw [HL.out.2.2.2.2.2.2.1]
          have hwx := HBB.out.2.2.2.trans (hI.2.mono HBB.out.2.2.2.size)
          have hkB := HL.out.2.2.2.1.kept hI.2
          have hk1 := HL.out.2.1 x1 hkB
          have HX1 := Lib.hid (And.intro hk1 (And.intro hwx (And.intro hkB hX)))
          clear hI hX hwx hk1 hkB
          go_wp2_with fail
          (with_reducible refine HX1.out.1.mono ?_)
          rintro e x2 ⟨v, rfl, hI⟩
          obtain ⟨Y, yc, rfl, hY, -, hyc, -, -⟩ := nums_of_own hI.1
          rw [HL.out.2.2.2.2.2.2.1] at hyc ⊢
          have hwx := HX1.out.2.1.trans (hI.2.mono HX1.out.2.1.size)
          have hkB := HX1.out.2.2.1.kept hI.2
          have hk1 := HL.out.2.2.1 x2 hkB
          have HX2 := Lib.hid (And.intro hk1 (And.intro hwx (And.intro (HX1.out.2.2.2.kept hI.2) (And.intro hY hyc))))
          clear hI hY hyc hwx hk1 hkB HX1
          go_wp2_with fail
          (with_reducible refine HX2.out.1.mono ?_)
          rintro e x3 ⟨D, rfl, hD, hb3⟩
          have hwx := HX2.out.2.1.trans (hb3.mono HX2.out.2.1.size)
          have hY3 := HX2.out.2.2.2.1.kept hb3
          have hsm := rsame_any X Y nl nl xc yc l l x3 (HX2.out.2.2.1.kept hb3) hY3 HL.out.2.2.2.2.2.2.1 HL.out.2.2.2.2.2.2.1 (by omega)
          rw [decide_eq_true rfl] at hsm
          have HX3 := Lib.hid (And.intro hsm (And.intro hwx (And.intro hY3 (And.intro hD HX2.out.2.2.2.2))))
          clear hD hb3 hwx hY3 hsm HX2
          go_wp2_with fail
          (with_reducible refine HX3.out.1.mono ?_)
          rintro e x4 ⟨rfl, hb4⟩
          have hwx := HX3.out.2.1.trans (hb4.mono HX3.out.2.1.size)
          have hdn := dnext_any Y nl yc l x4 (HX3.out.2.2.1.kept hb4) HL.out.2.2.2.2.2.2.1 HX3.out.2.2.2.2 (by omega) HL.out.2.2.2.2.1 HL.out.2.2.2.2.2.1
          have HX4 := Lib.hid (And.intro hdn (And.intro hwx (HX3.out.2.2.2.1.kept hb4)))
          clear hb4 hwx hdn HX3
          go_wp2_with fail
          (with_reducible refine HX4.out.1.mono ?_)
          rintro e x5 ⟨v, rfl, hI⟩
          obtain ⟨Z, zc, rfl, hZ, -, -, -, -⟩ := nums_of_own hI.1
          rw [HL.out.2.2.2.2.2.2.2]
          have hsm := rsame_any (some ⟨D, 0, none⟩) Z nb nb nb zc (nextL l) (nextL l) x5 (HX4.out.2.2.kept hI.2) hZ HL.out.2.2.2.2.2.2.2 HL.out.2.2.2.2.2.2.2 (by omega)
          rw [decide_eq_true rfl] at hsm
          have HX5 := Lib.hid (And.intro hsm (HX4.out.2.1.trans (hI.2.mono HX4.out.2.1.size)))
          clear hI hZ hsm HX4
          go_wp2_with fail
          (with_reducible refine HX5.out.1.mono ?_)
          rintro e x6 ⟨rfl, hb6⟩
          have HX6 := Lib.hid (HX5.out.2.trans (hb6.mono HX5.out.2.size))
          clear hb6 HX5
          go_wp2
          go_ret
          exact ⟨rfl, HX6.out⟩
        · have hbk := back_no PB nb cb B y3 HBB.out.1 HBB.out.2.1 (by omega) HBB.out.2.2.1 hTb
          have hdb := fun u (hu : NumsAt .i64 u PB B) => dback_no PB nb cb B u hu HBB.out.2.1 (by omega) HBB.out.2.2.1 hTb
          have hnx := fun u (hu : NumsAt .i64 u PB B) => next_no PB nb cb B u hu HBB.out.2.1 (by omega) HBB.out.2.2.1 hTb
          have HL := Lib.hid (And.intro hbk (And.intro hdb hnx))
          clear hbk hdb hnx hTb
          go_wp2_with fail
          (with_reducible refine HL.out.1.mono ?_)
          rintro e x1 ⟨rfl, hb1⟩
          have hkB := HBB.out.1.kept hb1
          have hk1 := HL.out.2.1 x1 hkB
          have HX1 := Lib.hid (And.intro hk1 (And.intro (HBB.out.2.2.2.trans (hb1.mono HBB.out.2.2.2.size)) hkB))
          clear hb1 hkB hk1
          go_wp2_with fail
          (with_reducible refine HX1.out.1.mono ?_)
          rintro e x2 ⟨rfl, hb2⟩
          have hkB := HX1.out.2.2.kept hb2
          have hk1 := HL.out.2.2 x2 hkB
          have HX2 := Lib.hid (And.intro hk1 (HX1.out.2.1.trans (hb2.mono HX1.out.2.1.size)))
          clear hb2 hkB hk1 HX1
          go_wp2_with fail
          (with_reducible refine HX2.out.1.mono ?_)
          rintro e x3 ⟨rfl, hb3⟩
          have HX3 := Lib.hid (HX2.out.2.trans (hb3.mono HX2.out.2.size))
          clear hb3 HX2
          go_wp2
          go_ret
          exact ⟨rfl, HX3.out⟩

end Go.Proofs.Ytdepncdknofocaa
