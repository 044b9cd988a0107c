/- The contract of the document's Turn. -/
import Derived.Test.YtdepncdknofocaaYC
import Derived.Test.YtdepncdknofocaaXD
set_option maxRecDepth 100000
namespace Go.Proofs.Ytdepncdknofocaa
open Go.RowKit
open M
attribute [local go_sem ↓] Go.wp_at_zero Go.wp_at_succ

/-- A list written out is a row of the call's own. -/
theorem OwnI.lit {w u : World} (hb : Below w.heap.size w u) (xs : List Int) (hx : xs.length ≤ 1000) : OwnI w (.slice (some ⟨u.heap.size, 0, none⟩) xs.length xs.length) xs (u.alloc (.cells ((xs.map (Value.int .i64)).toArray) 3)) := by
  refine ⟨?_, hb.alloc hb.size _⟩
  have := World.ownsRow_lit (base := w.heap.size) (e := 3) (size := 1) u ((xs.map (Value.int .i64)).toArray) xs.length hb.size (by unfold maxLen; omega) (by simp)
  simpa using this

theorem dturn_nil (A : Option Addr) (c : Nat) (w : World) : Calls Try.prog 14 #[.slice A 0 c] w fun e u => ∃ v, e = .returned v ∧ OwnI w v (turnL []) u := by
  have hO := OwnI.lit (Below.refl w.heap.size w) [-1] (by simp)
  have hO : OwnI w (.slice (some ⟨w.heap.size, 0, none⟩) 1 1) [-1] (w.alloc (.cells #[.int .i64 (-1)] 3)) := hO
  have hd := darray_any A 0 c [] (w.alloc (.cells #[.int .i64 (-1)] 3)) (.inl rfl) rfl (Nat.zero_le _) (by omega) (fun x hx => by simp at hx)
  have HX := Lib.hid (And.intro hO hd)
  clear hO hd
  go_enter Try.func14, Try.ntmps14
  go_wp2_with fail
  (with_reducible refine HX.out.2.mono ?_)
  rintro e u2 ⟨v, rfl, hI⟩
  obtain ⟨P, pc, rfl, -, -, -, -, -⟩ := nums_of_own hI.1
  have HO := Lib.hid (HX.out.1.kept hI.2)
  clear hI
  have hz : (sufA []).length = 0 := sufA_len []
  rw [hz]
  clear hz
  go_wp2
  go_loopw [3, 5] (fun v3 v5 wr => v5 = .int .i64 0 ∧ v3 = .slice (some ⟨w.heap.size, 0, none⟩) 1 1 ∧ wr = u2) (fun _ _ _ => 0)
  case atStart => exact ⟨rfl, rfl, rfl⟩
  case round =>
    obtain ⟨rfl, rfl, rfl⟩ := hrel
    go_wp2
    go_ret
    exact ⟨_, rfl, HO.out⟩

set_option maxHeartbeats 4000000 in
theorem dturn_pos (A : Option Addr) (n c : Nat) (l : List Int) (w : World) (hA : NumsAt .i64 w A l) (hl : l.length = n) (hc : n ≤ c) (h0 : 0 < n) (hn : n ≤ 100000) (h64 : I64s l) :
    Calls Try.prog 14 #[.slice A n c] w fun e u => ∃ v, e = .returned v ∧ OwnI w v (turnL l) u := by
  have har := fun u (hb : Below w.heap.size w u) => darray_any A n c l u (hA.kept hb) hl hc (by omega) h64
  have hpl := fun i (hi : i < n) => (sufA_ok h64).pl (i := i) (by omega)
  obtain ⟨m, rfl⟩ : ∃ m, n = m + 1 := ⟨n - 1, by omega⟩
  obtain ⟨bb, off, hAe, hbl, cm⟩ := num_at hA (i := m) (by omega)
  have hcell : ∀ u, Below w.heap.size w u → ∀ i, i < m + 1 → u.cell? ⟨bb, off + i, none⟩ = some (.int .i64 (l.getD i 0)) := fun u hb i hi => by
    obtain ⟨b2, o2, e2, -, c2⟩ := num_at (hA.kept hb) (i := i) (by omega)
    rw [hAe] at e2
    simp only [Option.some.injEq, Addr.mk.injEq, and_true] at e2
    obtain ⟨rfl, rfl⟩ := e2
    exact c2
  have ht0 := tkT_zero l
  have ha0 : ahdI l (l.length : Int) = l.getD m 0 := by unfold ahdI; rw [if_neg (by omega), hl, Int.toNat_natCast, Nat.add_sub_cancel]
  rw [ha0] at ht0
  obtain ⟨x, hx⟩ : ∃ x, l.getD m 0 = x := ⟨_, rfl⟩
  rw [hx] at ht0 cm
  have hO1 := al w (.cells #[.int .i64 (-1)] 3)
  have cm1 := cm
  rw [← hO1.cell (p := ⟨bb, off + m, none⟩) hbl] at cm1
  have hO2 := OwnI.lit hO1 [x] (by simp)
  have hO2 : OwnI w (.slice (some ⟨(w.alloc (.cells #[.int .i64 (-1)] 3)).heap.size, 0, none⟩) 1 1) [x] ((w.alloc (.cells #[.int .i64 (-1)] 3)).alloc (.cells #[.int .i64 x] 3)) := hO2
  rw [← ht0] at hO2
  have HX := Lib.hid (And.intro har (And.intro hpl (And.intro hl (And.intro hcell hO2))))
  subst hAe
  clear har hpl hl hcell hA h64 ha0 ht0 hx hO1 hO2 h0 cm
  have q1 : (0 : Int) < (m : Int) + 1 := by omega
  have q2 : IntKind.i64.wrap ((m : Int) + 1 - 1) = (m : Int) := by rw [Int.add_sub_cancel]; exact IntWalk.i64_in _ (by omega)
  have q3 : (0 : Int) ≤ (m : Int) := by omega
  have q4 : (m : Int) < (m : Int) + 1 := by omega
  have hca := HX.out.1 _ HX.out.2.2.2.2.2
  have HCA := Lib.hid hca
  clear hca
  go_enter Try.func14, Try.ntmps14
  go_wp2_with fail
  (with_reducible refine HCA.out.mono ?_)
  rintro e u2 ⟨v, rfl, hI⟩
  obtain ⟨A', ca, rfl, hAn, hAl, hnc, -, -⟩ := nums_of_own hI.1
  have hfr := hI.frs
  have hOS := OS.newer HX.out.2.2.2.2 hI.2 hAn hfr
  have HOS := Lib.hid hOS
  have hsl : (sufA l).length = m + 1 := by rw [sufA_len, HX.out.2.2.1]
  rw [hsl]
  clear hI hAn hAl hnc hfr hOS hsl cm1 hbl
  obtain ⟨D, hDe⟩ : ∃ D, D = (w.alloc (.cells #[.int .i64 (-1)] 3)).heap.size := ⟨_, rfl⟩
  rw [← hDe] at HOS
  have hDe' : w.heap.size + 1 = D := by rw [hDe]; simp
  try rw [hDe']
  try rw [← hDe]
  clear hDe hDe'
  go_wp2
  go_loopw [3, 5] (fun v3 v5 wr => ∃ i : Nat, i ≤ m + 1 ∧ v5 = .int .i64 (i : Int) ∧ OS w v3 (tkT l i) A' (sufA l) wr) (fun _ v5 _ => m + 1 - (intOf v5).toNat)
  case atStart => exact ⟨0, Nat.zero_le _, rfl, HOS.out⟩
  case round =>
    obtain ⟨i, hin, rfl, hI⟩ := hrel
    by_cases hlt : i < m + 1
    · obtain ⟨b2, o2, hAe, -, ck⟩ := num_at hI.nums (i := i) (by rw [sufA_len, HX.out.2.2.1]; exact hlt)
      obtain ⟨p, hp, hpn⟩ := HX.out.2.1 i hlt
      rw [hp] at ck
      have hsu := tkT_succ l i (by rw [HX.out.2.2.1]; exact hlt)
      have hml := tkT_len l i (by rw [HX.out.2.2.1]; omega)
      rw [hp] at hsu
      have hsz := hI.own.2.size
      have q5 : (i : Int) < (m : Int) + 1 := by omega
      have q6 : (0 : Int) ≤ (i : Int) := by omega
      subst hAe
      by_cases h0 : p = 0
      · have he : ahdI l (p : Int) = -1 := by unfold ahdI; rw [if_pos (by omega)]
        rw [he] at hsu
        have HM := Lib.hid (And.intro hI (And.intro hsu hml))
        have q7 : ((p : Int) == 0) = true := by simp; omega
        clear hI hsu hml hp hpn he
        go_wp2_with (first
          | (at_builtin
             refine wpList_append_nums rfl (.tmp 30) (.tmp 31) rfl w.heap.size _ _ _ rfl (HM.out.1.alloc _).own.1 (some ⟨_, 0, none⟩) 1 1 [-1] rfl rfl ?c1 (by simp) ?c2 ?c3 ?_))
        case c1 => exact nums_one _ _
        case c2 => rw [HM.out.2.2]; omega
        case c3 => first | omega | (simp; omega)
        intro v' w8 hown hgrow hat
        have hI8 := (HM.out.1.alloc _).app (l' := tkT l i ++ [-1]) (by simpa using hown) hgrow (by simpa using hat)
        have HX8 := Lib.hid hI8
        clear hown hgrow hI8 hat
        go_wp2
        go_roundw
        case rel => exact ⟨i + 1, by omega, by go_num, by rw [HM.out.2.1]; exact HX8.out⟩
        case measure => simp [intOf]; omega
      · obtain ⟨q, rfl⟩ : ∃ q, p = q + 1 := ⟨p - 1, by omega⟩
        have he : ahdI l ((q + 1 : Nat) : Int) = l.getD q 0 := by unfold ahdI; rw [if_neg (by omega), Int.toNat_natCast, Nat.add_sub_cancel]
        rw [he] at hsu
        have hql : q < m + 1 := by rw [HX.out.2.2.1] at hpn; omega
        have cq := HX.out.2.2.2.1 wr hI.own.2 q hql
        obtain ⟨z, hz⟩ : ∃ z, l.getD q 0 = z := ⟨_, rfl⟩
        rw [hz] at hsu cq
        have HM := Lib.hid (And.intro hI (And.intro hsu hml))
        have q7 : (((q + 1 : Nat) : Int) == 0) = false := by simp; omega
        have q8 : IntKind.i64.wrap (((q + 1 : Nat) : Int) - 1) = (q : Int) := by
          rw [show (((q + 1 : Nat) : Int) - 1) = (q : Int) by omega]
          exact IntWalk.i64_in _ (by omega)
        obtain ⟨s, hs⟩ : ∃ s : Int, ((q + 1 : Nat) : Int) = s := ⟨_, rfl⟩
        rw [hs] at q7 q8 ck
        have q9 : (0 : Int) ≤ (q : Int) := by omega
        have q10 : (q : Int) < (m : Int) + 1 := by omega
        clear hI hsu hml hp hpn he hz hs
        go_wp2_with (first
          | (at_builtin
             refine wpList_append_nums rfl (.tmp 33) (.tmp 42) rfl w.heap.size _ _ _ rfl (HM.out.1.alloc _).own.1 (some ⟨_, 0, none⟩) 1 1 [z] rfl rfl ?c1 (by simp) ?c2 ?c3 ?_))
        case c1 => exact nums_one _ _
        case c2 => rw [HM.out.2.2]; omega
        case c3 => first | omega | (simp; omega)
        intro v' w8 hown hgrow hat
        have hI8 := (HM.out.1.alloc _).app (l' := tkT l i ++ [z]) (by simpa using hown) hgrow (by simpa using hat)
        have HX8 := Lib.hid hI8
        clear hown hgrow hI8 hat
        go_wp2
        go_roundw
        case rel => exact ⟨i + 1, by omega, by go_num, by rw [HM.out.2.1]; exact HX8.out⟩
        case measure => simp [intOf]; omega
    · obtain rfl : i = m + 1 := by omega
      have HF := Lib.hid hI
      clear hI
      have q5 : ¬ ((m + 1 : Nat) : Int) < ((m + 1 : Nat) : Int) := by omega
      go_wp2
      go_ret
      refine ⟨_, rfl, ?_⟩
      have := HF.out.own
      rw [← HX.out.2.2.1, tkT_all] at this
      exact this

theorem dturn_any (A : Option Addr) (n c : Nat) (l : List Int) (w : World) (hA : NumsAt .i64 w A l) (hl : l.length = n) (hc : n ≤ c) (hn : n ≤ 100000) (h64 : I64s l) :
    Calls Try.prog 14 #[.slice A n c] w fun e u => ∃ v, e = .returned v ∧ OwnI w v (turnL l) u := by
  by_cases h0 : n = 0
  · subst h0
    obtain rfl : l = [] := List.eq_nil_of_length_eq_zero hl
    exact dturn_nil A c w
  · exact dturn_pos A n c l w hA hl hc (by omega) hn h64

end Go.Proofs.Ytdepncdknofocaa
