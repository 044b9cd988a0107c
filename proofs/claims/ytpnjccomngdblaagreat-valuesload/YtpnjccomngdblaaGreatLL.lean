/- The walk of ValuesLoad. -/
import Derived.Test.YtpnjccomngdblaaGreatLLb
set_option maxRecDepth 100000
namespace Go.Proofs.YtpnjccomngdblaaGreat
open Go.RowKit
open M
attribute [local go_sem ↓] Go.wp_at_zero Go.wp_at_succ

variable {w u w' : World} {b c : Nat} {F : FQ} {E : Option Addr} {ss : List ByteArray} {l : List Int} {s : Nat}
theorem and255 (x : Int) : bits .and .i64 x 255 = x % 256 := and_mask x 8 (by omega)
theorem there17 (u : World) : (u.alloc (.cells #[.int .i64 0, .int .i64 0, .slice none 0 0, .int .i64 0, .slice none 0 0, .int .i64 0, .int .i64 0, .int .i64 0, .slice none 0 0, .int .i64 0, .int .i64 0, .int .i64 0, .slice none 0 0, .int .i64 0, .int .i64 0, .int .i64 0, .slice none 0 0] 37)).there u.heap.size 0 17 := there_alloc u _ 37 17 rfl
theorem fm_stored (h : FMI u F l s) : MBx ((u.alloc (.cells #[.int .i64 0, .int .i64 0, .slice none 0 0, .int .i64 0, .slice none 0 0, .int .i64 0, .int .i64 0, .int .i64 0, .slice none 0 0, .int .i64 0, .int .i64 0, .int .i64 0, .slice none 0 0, .int .i64 0, .int .i64 0, .int .i64 0, .slice none 0 0] 37)).setCells u.heap.size 0 [.int .i64 (F.N : Int), .int .i64 F.Z, .slice F.wa F.wW F.wc, .int .i64 (F.R.n : Int), .slice F.R.a F.R.m F.R.c, .int .i64 (F.R.cn : Int), .int .i64 (F.R.cW : Int), .int .i64 (F.R.cL : Int), .slice F.R.a2 F.R.m2 F.R.c2, .int .i64 (F.S.n : Int), .int .i64 (F.S.W : Int), .int .i64 (F.S.L : Int), .slice F.S.a F.S.m F.S.c, .int .i64 (F.P.n : Int), .int .i64 (F.P.W : Int), .int .i64 (F.P.L : Int), .slice F.P.a F.P.m F.P.c]) u.heap.size F ∧ FMI ((u.alloc (.cells #[.int .i64 0, .int .i64 0, .slice none 0 0, .int .i64 0, .slice none 0 0, .int .i64 0, .int .i64 0, .int .i64 0, .slice none 0 0, .int .i64 0, .int .i64 0, .int .i64 0, .slice none 0 0, .int .i64 0, .int .i64 0, .int .i64 0, .slice none 0 0] 37)).setCells u.heap.size 0 [.int .i64 (F.N : Int), .int .i64 F.Z, .slice F.wa F.wW F.wc, .int .i64 (F.R.n : Int), .slice F.R.a F.R.m F.R.c, .int .i64 (F.R.cn : Int), .int .i64 (F.R.cW : Int), .int .i64 (F.R.cL : Int), .slice F.R.a2 F.R.m2 F.R.c2, .int .i64 (F.S.n : Int), .int .i64 (F.S.W : Int), .int .i64 (F.S.L : Int), .slice F.S.a F.S.m F.S.c, .int .i64 (F.P.n : Int), .int .i64 (F.P.W : Int), .int .i64 (F.P.L : Int), .slice F.P.a F.P.m F.P.c]) F l s ∧ Below u.heap.size u ((u.alloc (.cells #[.int .i64 0, .int .i64 0, .slice none 0 0, .int .i64 0, .slice none 0 0, .int .i64 0, .int .i64 0, .int .i64 0, .slice none 0 0, .int .i64 0, .int .i64 0, .int .i64 0, .slice none 0 0, .int .i64 0, .int .i64 0, .int .i64 0, .slice none 0 0] 37)).setCells u.heap.size 0 [.int .i64 (F.N : Int), .int .i64 F.Z, .slice F.wa F.wW F.wc, .int .i64 (F.R.n : Int), .slice F.R.a F.R.m F.R.c, .int .i64 (F.R.cn : Int), .int .i64 (F.R.cW : Int), .int .i64 (F.R.cL : Int), .slice F.R.a2 F.R.m2 F.R.c2, .int .i64 (F.S.n : Int), .int .i64 (F.S.W : Int), .int .i64 (F.S.L : Int), .slice F.S.a F.S.m F.S.c, .int .i64 (F.P.n : Int), .int .i64 (F.P.W : Int), .int .i64 (F.P.L : Int), .slice F.P.a F.P.m F.P.c]) := by
  have hb : Below u.heap.size u ((u.alloc (.cells #[.int .i64 0, .int .i64 0, .slice none 0 0, .int .i64 0, .slice none 0 0, .int .i64 0, .int .i64 0, .int .i64 0, .slice none 0 0, .int .i64 0, .int .i64 0, .int .i64 0, .slice none 0 0, .int .i64 0, .int .i64 0, .int .i64 0, .slice none 0 0] 37)).setCells u.heap.size 0 [.int .i64 (F.N : Int), .int .i64 F.Z, .slice F.wa F.wW F.wc, .int .i64 (F.R.n : Int), .slice F.R.a F.R.m F.R.c, .int .i64 (F.R.cn : Int), .int .i64 (F.R.cW : Int), .int .i64 (F.R.cL : Int), .slice F.R.a2 F.R.m2 F.R.c2, .int .i64 (F.S.n : Int), .int .i64 (F.S.W : Int), .int .i64 (F.S.L : Int), .slice F.S.a F.S.m F.S.c, .int .i64 (F.P.n : Int), .int .i64 (F.P.W : Int), .int .i64 (F.P.L : Int), .slice F.P.a F.P.m F.P.c]) := Below.setCells' (Nat.le_refl _) _ 0 (al u _)
  exact ⟨MBx.stored F (there17 u), h.kept hb, hb⟩
theorem load40r {n : Nat} {ops : Array Oper} {rest : List Oper} {op : Oper} {a : Act} {Q : Exit → Act → World → Prop} (h : u.rangeAt b 0 [.int .i64 (F.N : Int), .int .i64 F.Z, .slice F.wa F.wW F.wc, .int .i64 (F.R.n : Int), .slice F.R.a F.R.m F.R.c, .int .i64 (F.R.cn : Int), .int .i64 (F.R.cW : Int), .int .i64 (F.R.cL : Int), .slice F.R.a2 F.R.m2 F.R.c2, .int .i64 (F.S.n : Int), .int .i64 (F.S.W : Int), .int .i64 (F.S.L : Int), .slice F.S.a F.S.m F.S.c, .int .i64 (F.P.n : Int), .int .i64 (F.P.W : Int), .int .i64 (F.P.L : Int), .slice F.P.a F.P.m F.P.c, .slice E n c]) (x : Operand) (ho : op.op = .load 40 x) (hw : Region.wanted op (yielded ops a.tmps) = true)
    (hx : a.eval x = .pointer (some ⟨b, 0, none⟩)) (k : wpList Tryz.prog ops Q rest (a.put op.dst (.agg #[.int .i64 (F.N : Int), .int .i64 F.Z, .slice F.wa F.wW F.wc, .int .i64 (F.R.n : Int), .slice F.R.a F.R.m F.R.c, .int .i64 (F.R.cn : Int), .int .i64 (F.R.cW : Int), .int .i64 (F.R.cL : Int), .slice F.R.a2 F.R.m2 F.R.c2, .int .i64 (F.S.n : Int), .int .i64 (F.S.W : Int), .int .i64 (F.S.L : Int), .slice F.S.a F.S.m F.S.c, .int .i64 (F.P.n : Int), .int .i64 (F.P.W : Int), .int .i64 (F.P.L : Int), .slice F.P.a F.P.m F.P.c, .slice E n c])) u) : wpList Tryz.prog ops Q (op :: rest) a u :=
  wpList_step fun K hK => by
    rw [if_pos hw]
    exact wp_load_mid 40 x ho b 0 hx _ _ h Tryz.underlying40 rfl (by kernel_rfl) (hK _ _ k)
theorem zero_range (u : World) : ((u.alloc (.cells #[.int .i64 0, .int .i64 0, .slice none 0 0, .int .i64 0, .slice none 0 0, .int .i64 0, .int .i64 0, .int .i64 0, .slice none 0 0, .int .i64 0, .int .i64 0, .int .i64 0, .slice none 0 0, .int .i64 0, .int .i64 0, .int .i64 0, .slice none 0 0, .slice none 0 0] 40)).setCells u.heap.size 0 [.int .i64 (FQZ.N : Int), .int .i64 FQZ.Z, .slice FQZ.wa FQZ.wW FQZ.wc, .int .i64 (FQZ.R.n : Int), .slice FQZ.R.a FQZ.R.m FQZ.R.c, .int .i64 (FQZ.R.cn : Int), .int .i64 (FQZ.R.cW : Int), .int .i64 (FQZ.R.cL : Int), .slice FQZ.R.a2 FQZ.R.m2 FQZ.R.c2, .int .i64 (FQZ.S.n : Int), .int .i64 (FQZ.S.W : Int), .int .i64 (FQZ.S.L : Int), .slice FQZ.S.a FQZ.S.m FQZ.S.c, .int .i64 (FQZ.P.n : Int), .int .i64 (FQZ.P.W : Int), .int .i64 (FQZ.P.L : Int), .slice FQZ.P.a FQZ.P.m FQZ.P.c, .slice none 0 0]).rangeAt u.heap.size 0 [.int .i64 (FQZ.N : Int), .int .i64 FQZ.Z, .slice FQZ.wa FQZ.wW FQZ.wc, .int .i64 (FQZ.R.n : Int), .slice FQZ.R.a FQZ.R.m FQZ.R.c, .int .i64 (FQZ.R.cn : Int), .int .i64 (FQZ.R.cW : Int), .int .i64 (FQZ.R.cL : Int), .slice FQZ.R.a2 FQZ.R.m2 FQZ.R.c2, .int .i64 (FQZ.S.n : Int), .int .i64 (FQZ.S.W : Int), .int .i64 (FQZ.S.L : Int), .slice FQZ.S.a FQZ.S.m FQZ.S.c, .int .i64 (FQZ.P.n : Int), .int .i64 (FQZ.P.W : Int), .int .i64 (FQZ.P.L : Int), .slice FQZ.P.a FQZ.P.m FQZ.P.c, .slice none 0 0] := World.rangeAt_setCells_same _ u.heap.size 0 _ (there18 u)
theorem takeV_succ (ss : List ByteArray) {i : Nat} (h : i < ss.length) : ss.take (i + 1) = ss.take i ++ [tV ss i] := by
  rw [List.take_add_one, List.getElem?_eq_getElem h]
  unfold tV
  simp [h]
theorem endB_texts {m : List Int} (h : endB m = true) (hm : ∀ x ∈ m, 0 ≤ x ∧ x < 257) : ∃ ss, rowV ss = m := by
  refine texts_of m hm ?_
  unfold endB at h
  rw [Bool.or_eq_true, decide_eq_true_eq, decide_eq_true_eq] at h
  rcases h with h | h
  · left; exact List.eq_nil_of_length_eq_zero h
  · by_cases h0 : m = []
    · left; exact h0
    · right
      have hl : m.length - 1 < m.length := by have := List.length_pos_iff.2 h0; omega
      rw [List.getD_eq_getElem?_getD, List.getElem?_eq_getElem hl, Option.getD_some] at h
      rw [List.getLast?_eq_getElem?, List.getElem?_eq_getElem hl, h]
set_option linter.unusedSimpArgs false in
set_option maxHeartbeats 16000000 in
theorem load_walk_t (A : Option Addr) (n0 c0 : Nat) (xs : List Int) (q : Int) (w : World) (hA : NumsAt .i64 w A xs) (hx : xs.length = n0) :
    Calls Tryz.prog 5 #[.slice A n0 c0, .int .i64 q, .bool true] w fun e w' => e = .returned (.bool true) ∧ Below w.heap.size w w' := by
  have hand := and255 q
  obtain ⟨s, hs⟩ : ∃ s : Nat, (1 + q % 256).toNat = s := ⟨_, rfl⟩
  obtain ⟨t, ht⟩ : ∃ t, q % 256 = t := ⟨_, rfl⟩
  have ht0 : 0 ≤ t ∧ t < 256 := by omega
  rw [ht] at hand hs
  have hw : IntKind.i64.wrap (1 + t) = (s : Int) := by rw [show (1 + t) = (s : Int) by omega]; exact IntWalk.i64_in _ (by omega)
  have h1 : 1 ≤ s := by omega
  have h2 : s ≤ 257 := by omega
  have hs7 : s ≠ 257 := by omega
  clear hs ht ht0
  have HX := Lib.hid (And.intro hA (And.intro hx hs7))
  obtain ⟨k, hk⟩ : ∃ k, min n0 60 = k := ⟨_, rfl⟩
  have hk1 : k ≤ n0 := by omega
  have hk2 : k ≤ 60 := by omega
  have hk3 : k < n0 → k = 60 := by omega
  have h0 : ((s : Int) == 0) = false := by simp; omega
  have h0' : (s : Int) ≠ 0 := by omega
  clear hA hx hk hs7
  go_enter Tryz.func5, Tryz.ntmps5
  go_wp2_with fail
  (with_reducible refine (awake_v _).mono ?_)
  rintro e w1 ⟨rfl, hb1⟩
  have HB := Lib.hid hb1
  clear hb1
  go_wp2
  clear hw hand
  go_loopw [9, 10] (fun v9 v10 wr => ∃ i : Nat, i ≤ k ∧ v10 = .int .i64 (i : Int) ∧ OwnI w1 v9 (cutL s xs i) wr) (fun _ v10 _ => k - (intOf v10).toNat)
  case atStart => exact ⟨0, Nat.zero_le _, rfl, World.ownsRow_nil _ _ _ _, Below.refl _ _⟩
  case round =>
    obtain ⟨i, hin, rfl, hI⟩ := hrel
    have hwb := HB.out.trans (hI.2.mono HB.out.size)
    by_cases hlt : i < k
    · obtain ⟨bb, off, hAe, hbl, hcb⟩ := num_at (HX.out.1.kept hwb) (i := i) (by rw [HX.out.2.1]; omega)
      have hsu := cutL_succ s xs i (by rw [HX.out.2.1]; omega)
      have hml := cutL_len s xs i (by rw [HX.out.2.1]; omega)
      generalize xs.getD i 0 = x at *
      have hsz := hI.2.size
      have HM := Lib.hid (And.intro hI (And.intro hsu hml))
      subst hAe
      clear hI hsu hml hwb
      obtain ⟨y, hy⟩ : ∃ y, x.tmod s = y := ⟨_, rfl⟩
      have t1 := Int.tmod_lt_of_pos x (b := (s : Int)) (by omega)
      have t2 := Int.lt_tmod_of_pos x (b := (s : Int)) (by omega)
      rw [hy] at t1 t2
      obtain ⟨z, hz⟩ : ∃ z, z = cutI s x := ⟨_, rfl⟩
      rw [← hz] at HM
      have hyz : (y + (s : Int)).tmod s = z := by rw [hz]; unfold cutI; rw [hy]
      clear hz
      have qw : IntKind.i64.wrap (y + (s : Int)) = y + (s : Int) := IntWalk.i64_in _ (by omega)
      have q1 : (i : Int) < (n0 : Int) := by omega
      have q2 : (0 : Int) ≤ (i : Int) := by omega
      have q3 : (i : Int) < 60 := by omega
      go_wp2_with (first
        | (at_builtin
           refine wpList_append_nums rfl (.tmp 35) (.tmp 46) rfl w1.heap.size _ _ _ rfl (HM.out.1.alloc _).1 (some ⟨_, 0, none⟩) 1 1 [z] rfl rfl ?c1 (by simp) ?c2 ?c3 ?_))
      case c1 => exact nums_one _ _
      case c2 => rw [HM.out.2.2]; omega
      case c3 => first | omega | (simp; omega)
      intro v' w5 hown hgrow _
      have hI5 := (HM.out.1.alloc _).app (l' := cutL s xs i ++ [z]) (by simpa using hown) hgrow
      have HX5 := Lib.hid hI5
      clear hown hgrow hI5
      go_wp2
      go_roundw
      case rel => exact ⟨i + 1, by omega, by go_num, by rw [HM.out.2.1]; exact HX5.out⟩
      case measure => simp [intOf]; omega
    · obtain rfl : i = k := by omega
      have hml := cutL_len s xs i (by rw [HX.out.2.1]; omega)
      have hci := cutL_in s xs i (by omega)
      obtain ⟨m, hm⟩ : ∃ m, cutL s xs i = m := ⟨_, rfl⟩
      rw [hm] at hI hml hci
      obtain ⟨P, pc, rfl, hP, -, -, -, -⟩ := nums_of_own hI.1
      rw [hml]
      have hN := fnew_any marked_said P i pc m s wr hP hml (by omega) h1 (by omega) hci
      have HN := Lib.hid (And.intro hN (And.intro hP (And.intro hwb (And.intro hml hci))))
      clear hN hP hwb hml hci hI hlt hm
      by_cases hn : i < n0
      · have q1 : (i : Int) < (n0 : Int) := by omega
        have q3 : ¬ (i : Int) < 60 := by have := hk3 hn; omega
        clear hn
        go_wp2_with fail
        (with_reducible refine HN.out.1.mono ?_)
        rintro e z3 ⟨F, rfl, hF, hb3, -⟩
        have hfs := fm_stored hF
        have hb4 := hb3.trans (hfs.2.2.mono hb3.size)
        have H4 := Lib.hid (And.intro hfs.1 (And.intro hfs.2.1 (And.intro (HN.out.2.1.kept hb4) (HN.out.2.2.1.trans (hb4.mono HN.out.2.2.1.size)))))
        clear hfs hF hb3
        go_upto_region 11 with (refine store36 (op := ⟨none, .store 37 (.tmp 11) (.tmp 52), _, _, _, _⟩) F z3.heap.size (.tmp 11) (.tmp 52) rfl rfl rfl rfl (there17 z3) ?_)
        generalize (z3.alloc (.cells #[.int .i64 0, .int .i64 0, .slice none 0 0, .int .i64 0, .slice none 0 0, .int .i64 0, .int .i64 0, .int .i64 0, .slice none 0 0, .int .i64 0, .int .i64 0, .int .i64 0, .slice none 0 0, .int .i64 0, .int .i64 0, .int .i64 0, .slice none 0 0] 37)).setCells z3.heap.size 0 [.int .i64 (F.N : Int), .int .i64 F.Z, .slice F.wa F.wW F.wc, .int .i64 (F.R.n : Int), .slice F.R.a F.R.m F.R.c, .int .i64 (F.R.cn : Int), .int .i64 (F.R.cW : Int), .int .i64 (F.R.cL : Int), .slice F.R.a2 F.R.m2 F.R.c2, .int .i64 (F.S.n : Int), .int .i64 (F.S.W : Int), .int .i64 (F.S.L : Int), .slice F.S.a F.S.m F.S.c, .int .i64 (F.P.n : Int), .int .i64 (F.P.W : Int), .int .i64 (F.P.L : Int), .slice F.P.a F.P.m F.P.c] = z4 at *

        have HV := Lib.hid (vload_no H4.out.2.1 (.inl HX.out.2.2))
        go_wp2_with (first | (refine load36 H4.out.1 _ (by with_reducible rfl) rfl rfl ?_))
        (with_reducible refine HV.out.mono ?_)
        rintro e z5 ⟨rfl, hb5⟩
        have hbs := below_stored z5 FQZ none 0 0
        have hb6 := hb5.trans (hbs.mono hb5.size)
        have hzr := zero_range z5
        have H6 := Lib.hid (And.intro hzr (And.intro (H4.out.2.2.2.trans (hb6.mono H4.out.2.2.2.size)) (H4.out.2.2.1.kept hb6)))
        clear hbs hb5 hb6 hzr hb4
        go_upto_region 14 with (refine store40 (op := ⟨none, .store 40 (.tmp 13) (.tmp 59), _, _, _, _⟩) FQZ none 0 0 z5.heap.size (.tmp 13) (.tmp 59) rfl rfl rfl rfl (there18 z5) ?_)
        generalize (z5.alloc (.cells #[.int .i64 0, .int .i64 0, .slice none 0 0, .int .i64 0, .slice none 0 0, .int .i64 0, .int .i64 0, .int .i64 0, .slice none 0 0, .int .i64 0, .int .i64 0, .int .i64 0, .slice none 0 0, .int .i64 0, .int .i64 0, .int .i64 0, .slice none 0 0, .slice none 0 0] 40)).setCells z5.heap.size 0 [.int .i64 (FQZ.N : Int), .int .i64 FQZ.Z, .slice FQZ.wa FQZ.wW FQZ.wc, .int .i64 (FQZ.R.n : Int), .slice FQZ.R.a FQZ.R.m FQZ.R.c, .int .i64 (FQZ.R.cn : Int), .int .i64 (FQZ.R.cW : Int), .int .i64 (FQZ.R.cL : Int), .slice FQZ.R.a2 FQZ.R.m2 FQZ.R.c2, .int .i64 (FQZ.S.n : Int), .int .i64 (FQZ.S.W : Int), .int .i64 (FQZ.S.L : Int), .slice FQZ.S.a FQZ.S.m FQZ.S.c, .int .i64 (FQZ.P.n : Int), .int .i64 (FQZ.P.W : Int), .int .i64 (FQZ.P.L : Int), .slice FQZ.P.a FQZ.P.m FQZ.P.c, .slice none 0 0] = z6 at *
        generalize z5.heap.size = bz at *
        go_wp2_with (first | (refine load40r H6.out.1 _ (by with_reducible rfl) rfl rfl ?_) | (go_at_call 22; (with_reducible refine (vlen_any FQZ none 0 0 z6).mono ?_); rintro e z7 ⟨rfl, hb7⟩; have H7 := Lib.hid hb7; clear hb7))
        go_ret
        exact ⟨rfl, H6.out.2.1.trans (H7.out.mono H6.out.2.1.size)⟩
      · have q1 : ¬ (i : Int) < (n0 : Int) := by omega
        clear hn
        go_wp2_with fail
        (with_reducible refine HN.out.1.mono ?_)
        rintro e z3 ⟨F, rfl, hF, hb3, -⟩
        have hfs := fm_stored hF
        have hb4 := hb3.trans (hfs.2.2.mono hb3.size)
        have H4 := Lib.hid (And.intro hfs.1 (And.intro hfs.2.1 (And.intro (HN.out.2.1.kept hb4) (HN.out.2.2.1.trans (hb4.mono HN.out.2.2.1.size)))))
        clear hfs hF hb3
        go_upto_region 11 with (refine store36 (op := ⟨none, .store 37 (.tmp 11) (.tmp 52), _, _, _, _⟩) F z3.heap.size (.tmp 11) (.tmp 52) rfl rfl rfl rfl (there17 z3) ?_)
        generalize (z3.alloc (.cells #[.int .i64 0, .int .i64 0, .slice none 0 0, .int .i64 0, .slice none 0 0, .int .i64 0, .int .i64 0, .int .i64 0, .slice none 0 0, .int .i64 0, .int .i64 0, .int .i64 0, .slice none 0 0, .int .i64 0, .int .i64 0, .int .i64 0, .slice none 0 0] 37)).setCells z3.heap.size 0 [.int .i64 (F.N : Int), .int .i64 F.Z, .slice F.wa F.wW F.wc, .int .i64 (F.R.n : Int), .slice F.R.a F.R.m F.R.c, .int .i64 (F.R.cn : Int), .int .i64 (F.R.cW : Int), .int .i64 (F.R.cL : Int), .slice F.R.a2 F.R.m2 F.R.c2, .int .i64 (F.S.n : Int), .int .i64 (F.S.W : Int), .int .i64 (F.S.L : Int), .slice F.S.a F.S.m F.S.c, .int .i64 (F.P.n : Int), .int .i64 (F.P.W : Int), .int .i64 (F.P.L : Int), .slice F.P.a F.P.m F.P.c] = z4 at *

        have HV := Lib.hid (vload_no H4.out.2.1 (.inl HX.out.2.2))
        go_wp2_with (first | (refine load36 H4.out.1 _ (by with_reducible rfl) rfl rfl ?_))
        (with_reducible refine HV.out.mono ?_)
        rintro e z5 ⟨rfl, hb5⟩
        have hbs := below_stored z5 FQZ none 0 0
        have hb6 := hb5.trans (hbs.mono hb5.size)
        have hzr := zero_range z5
        have H6 := Lib.hid (And.intro hzr (And.intro (H4.out.2.2.2.trans (hb6.mono H4.out.2.2.2.size)) (H4.out.2.2.1.kept hb6)))
        clear hbs hb5 hb6 hzr hb4
        go_upto_region 14 with (refine store40 (op := ⟨none, .store 40 (.tmp 13) (.tmp 59), _, _, _, _⟩) FQZ none 0 0 z5.heap.size (.tmp 13) (.tmp 59) rfl rfl rfl rfl (there18 z5) ?_)
        generalize (z5.alloc (.cells #[.int .i64 0, .int .i64 0, .slice none 0 0, .int .i64 0, .slice none 0 0, .int .i64 0, .int .i64 0, .int .i64 0, .slice none 0 0, .int .i64 0, .int .i64 0, .int .i64 0, .slice none 0 0, .int .i64 0, .int .i64 0, .int .i64 0, .slice none 0 0, .slice none 0 0] 40)).setCells z5.heap.size 0 [.int .i64 (FQZ.N : Int), .int .i64 FQZ.Z, .slice FQZ.wa FQZ.wW FQZ.wc, .int .i64 (FQZ.R.n : Int), .slice FQZ.R.a FQZ.R.m FQZ.R.c, .int .i64 (FQZ.R.cn : Int), .int .i64 (FQZ.R.cW : Int), .int .i64 (FQZ.R.cL : Int), .slice FQZ.R.a2 FQZ.R.m2 FQZ.R.c2, .int .i64 (FQZ.S.n : Int), .int .i64 (FQZ.S.W : Int), .int .i64 (FQZ.S.L : Int), .slice FQZ.S.a FQZ.S.m FQZ.S.c, .int .i64 (FQZ.P.n : Int), .int .i64 (FQZ.P.W : Int), .int .i64 (FQZ.P.L : Int), .slice FQZ.P.a FQZ.P.m FQZ.P.c, .slice none 0 0] = z6 at *
        generalize z5.heap.size = bz at *
        go_wp2_with (first | (refine load40r H6.out.1 _ (by with_reducible rfl) rfl rfl ?_) | (go_at_call 22; (with_reducible refine (vlen_any FQZ none 0 0 z6).mono ?_); rintro e z7 ⟨rfl, hb7⟩; have H7 := Lib.hid hb7; clear hb7))
        go_ret
        exact ⟨rfl, H6.out.2.1.trans (H7.out.mono H6.out.2.1.size)⟩
set_option linter.unusedSimpArgs false in
set_option maxHeartbeats 16000000 in
theorem load_walk_f (A : Option Addr) (n0 c0 : Nat) (xs : List Int) (q : Int) (w : World) (hA : NumsAt .i64 w A xs) (hx : xs.length = n0) :
    Calls Tryz.prog 5 #[.slice A n0 c0, .int .i64 q, .bool false] w fun e w' => e = .returned (.bool true) ∧ Below w.heap.size w w' := by
  obtain ⟨s, hs7⟩ : ∃ s : Nat, s = 257 := ⟨_, rfl⟩
  have hw : (257 : Int) = (s : Int) := by omega
  have h1 : 1 ≤ s := by omega
  have h2 : s ≤ 257 := by omega
  have HX := Lib.hid (And.intro hA (And.intro hx hs7))
  obtain ⟨k, hk⟩ : ∃ k, min n0 60 = k := ⟨_, rfl⟩
  have hk1 : k ≤ n0 := by omega
  have hk2 : k ≤ 60 := by omega
  have hk3 : k < n0 → k = 60 := by omega
  have h0 : ((s : Int) == 0) = false := by simp; omega
  have h0' : (s : Int) ≠ 0 := by omega
  clear hA hx hk hs7
  go_enter Tryz.func5, Tryz.ntmps5
  go_wp2_with fail
  (with_reducible refine (awake_v _).mono ?_)
  rintro e w1 ⟨rfl, hb1⟩
  have HB := Lib.hid hb1
  clear hb1
  go_wp2
  simp only [hw]
  clear hw
  go_loopw [9, 10] (fun v9 v10 wr => ∃ i : Nat, i ≤ k ∧ v10 = .int .i64 (i : Int) ∧ OwnI w1 v9 (cutL s xs i) wr) (fun _ v10 _ => k - (intOf v10).toNat)
  case atStart => exact ⟨0, Nat.zero_le _, rfl, World.ownsRow_nil _ _ _ _, Below.refl _ _⟩
  case round =>
    obtain ⟨i, hin, rfl, hI⟩ := hrel
    have hwb := HB.out.trans (hI.2.mono HB.out.size)
    by_cases hlt : i < k
    · obtain ⟨bb, off, hAe, hbl, hcb⟩ := num_at (HX.out.1.kept hwb) (i := i) (by rw [HX.out.2.1]; omega)
      have hsu := cutL_succ s xs i (by rw [HX.out.2.1]; omega)
      have hml := cutL_len s xs i (by rw [HX.out.2.1]; omega)
      generalize xs.getD i 0 = x at *
      have hsz := hI.2.size
      have HM := Lib.hid (And.intro hI (And.intro hsu hml))
      subst hAe
      clear hI hsu hml hwb
      obtain ⟨y, hy⟩ : ∃ y, x.tmod s = y := ⟨_, rfl⟩
      have t1 := Int.tmod_lt_of_pos x (b := (s : Int)) (by omega)
      have t2 := Int.lt_tmod_of_pos x (b := (s : Int)) (by omega)
      rw [hy] at t1 t2
      obtain ⟨z, hz⟩ : ∃ z, z = cutI s x := ⟨_, rfl⟩
      rw [← hz] at HM
      have hyz : (y + (s : Int)).tmod s = z := by rw [hz]; unfold cutI; rw [hy]
      clear hz
      have qw : IntKind.i64.wrap (y + (s : Int)) = y + (s : Int) := IntWalk.i64_in _ (by omega)
      have q1 : (i : Int) < (n0 : Int) := by omega
      have q2 : (0 : Int) ≤ (i : Int) := by omega
      have q3 : (i : Int) < 60 := by omega
      go_wp2_with (first
        | (at_builtin
           refine wpList_append_nums rfl (.tmp 35) (.tmp 46) rfl w1.heap.size _ _ _ rfl (HM.out.1.alloc _).1 (some ⟨_, 0, none⟩) 1 1 [z] rfl rfl ?c1 (by simp) ?c2 ?c3 ?_))
      case c1 => exact nums_one _ _
      case c2 => rw [HM.out.2.2]; omega
      case c3 => first | omega | (simp; omega)
      intro v' w5 hown hgrow _
      have hI5 := (HM.out.1.alloc _).app (l' := cutL s xs i ++ [z]) (by simpa using hown) hgrow
      have HX5 := Lib.hid hI5
      clear hown hgrow hI5
      go_wp2
      go_roundw
      case rel => exact ⟨i + 1, by omega, by go_num, by rw [HM.out.2.1]; exact HX5.out⟩
      case measure => simp [intOf]; omega
    · obtain rfl : i = k := by omega
      have hml := cutL_len s xs i (by rw [HX.out.2.1]; omega)
      have hci := cutL_in s xs i (by omega)
      obtain ⟨m, hm⟩ : ∃ m, cutL s xs i = m := ⟨_, rfl⟩
      rw [hm] at hI hml hci
      obtain ⟨P, pc, rfl, hP, -, -, -, -⟩ := nums_of_own hI.1
      rw [hml]
      have hN := fnew_any marked_said P i pc m s wr hP hml (by omega) h1 (by omega) hci
      have HN := Lib.hid (And.intro hN (And.intro hP (And.intro hwb (And.intro hml hci))))
      clear hN hP hwb hml hci hI hlt hm
      by_cases hn : i < n0
      · have q1 : (i : Int) < (n0 : Int) := by omega
        have q3 : ¬ (i : Int) < 60 := by have := hk3 hn; omega
        clear hn
        cases he : endB m with
        | false =>
          have hi0 : 0 < i := by
            rcases Nat.eq_zero_or_pos i with h | h
            · exfalso
              have := HN.out.2.2.2.1
              unfold endB at he
              rw [this, h] at he
              simp at he
            · exact h
          obtain ⟨bb, off, hPe, hbl, hcc⟩ := num_at HN.out.2.1 (i := i - 1) (by rw [HN.out.2.2.2.1]; omega)
          obtain ⟨x, hx⟩ : ∃ x, m.getD (i - 1) 0 = x := ⟨_, rfl⟩
          rw [hx] at hcc
          subst hPe
          have q4 : (0 : Int) < (i : Int) := by omega
          have q5 : IntKind.i64.wrap ((i : Int) - 1) = ((i - 1 : Nat) : Int) := by rw [show (i : Int) - 1 = ((i - 1 : Nat) : Int) by omega]; exact IntWalk.i64_in _ (by omega)
          have q6 : (0 : Int) ≤ ((i - 1 : Nat) : Int) := by omega
          have q7 : ((i - 1 : Nat) : Int) < (i : Int) := by omega
          obtain ⟨i1, hi1⟩ : ∃ i1, i - 1 = i1 := ⟨_, rfl⟩
          rw [hi1] at q5 q6 q7 hcc
          have q8 : (x != 0) = true := by
            unfold endB at he
            rw [HN.out.2.2.2.1, hx] at he
            rw [Bool.or_eq_false_iff] at he
            have := of_decide_eq_false he.2
            simp [this]
          have hey := he
          clear hx hi0

          go_wp2_with fail
          (with_reducible refine HN.out.1.mono ?_)
          rintro e z3 ⟨F, rfl, hF, hb3, -⟩
          have hfs := fm_stored hF
          have hb4 := hb3.trans (hfs.2.2.mono hb3.size)
          have H4 := Lib.hid (And.intro hfs.1 (And.intro hfs.2.1 (And.intro (HN.out.2.1.kept hb4) (HN.out.2.2.1.trans (hb4.mono HN.out.2.2.1.size)))))
          clear hfs hF hb3
          go_upto_region 11 with (refine store36 (op := ⟨none, .store 37 (.tmp 11) (.tmp 52), _, _, _, _⟩) F z3.heap.size (.tmp 11) (.tmp 52) rfl rfl rfl rfl (there17 z3) ?_)
          generalize (z3.alloc (.cells #[.int .i64 0, .int .i64 0, .slice none 0 0, .int .i64 0, .slice none 0 0, .int .i64 0, .int .i64 0, .int .i64 0, .slice none 0 0, .int .i64 0, .int .i64 0, .int .i64 0, .slice none 0 0, .int .i64 0, .int .i64 0, .int .i64 0, .slice none 0 0] 37)).setCells z3.heap.size 0 [.int .i64 (F.N : Int), .int .i64 F.Z, .slice F.wa F.wW F.wc, .int .i64 (F.R.n : Int), .slice F.R.a F.R.m F.R.c, .int .i64 (F.R.cn : Int), .int .i64 (F.R.cW : Int), .int .i64 (F.R.cL : Int), .slice F.R.a2 F.R.m2 F.R.c2, .int .i64 (F.S.n : Int), .int .i64 (F.S.W : Int), .int .i64 (F.S.L : Int), .slice F.S.a F.S.m F.S.c, .int .i64 (F.P.n : Int), .int .i64 (F.P.W : Int), .int .i64 (F.P.L : Int), .slice F.P.a F.P.m F.P.c] = z4 at *

          have HV := Lib.hid (vload_no H4.out.2.1 (.inr hey))
          go_wp2_with (first | (refine load36 H4.out.1 _ (by with_reducible rfl) rfl rfl ?_))
          (with_reducible refine HV.out.mono ?_)
          rintro e z5 ⟨rfl, hb5⟩
          have hbs := below_stored z5 FQZ none 0 0
          have hb6 := hb5.trans (hbs.mono hb5.size)
          have hzr := zero_range z5
          have H6 := Lib.hid (And.intro hzr (And.intro (H4.out.2.2.2.trans (hb6.mono H4.out.2.2.2.size)) (H4.out.2.2.1.kept hb6)))
          have hcl := (hb6.cell (p := ⟨bb, off + i1, none⟩) (Nat.lt_of_lt_of_le hbl hb4.size)).trans ((hb4.cell (p := ⟨bb, off + i1, none⟩) hbl).trans hcc)
          clear hbs hb5 hb6 hzr hb4
          go_upto_region 14 with (refine store40 (op := ⟨none, .store 40 (.tmp 13) (.tmp 59), _, _, _, _⟩) FQZ none 0 0 z5.heap.size (.tmp 13) (.tmp 59) rfl rfl rfl rfl (there18 z5) ?_)
          generalize (z5.alloc (.cells #[.int .i64 0, .int .i64 0, .slice none 0 0, .int .i64 0, .slice none 0 0, .int .i64 0, .int .i64 0, .int .i64 0, .slice none 0 0, .int .i64 0, .int .i64 0, .int .i64 0, .slice none 0 0, .int .i64 0, .int .i64 0, .int .i64 0, .slice none 0 0, .slice none 0 0] 40)).setCells z5.heap.size 0 [.int .i64 (FQZ.N : Int), .int .i64 FQZ.Z, .slice FQZ.wa FQZ.wW FQZ.wc, .int .i64 (FQZ.R.n : Int), .slice FQZ.R.a FQZ.R.m FQZ.R.c, .int .i64 (FQZ.R.cn : Int), .int .i64 (FQZ.R.cW : Int), .int .i64 (FQZ.R.cL : Int), .slice FQZ.R.a2 FQZ.R.m2 FQZ.R.c2, .int .i64 (FQZ.S.n : Int), .int .i64 (FQZ.S.W : Int), .int .i64 (FQZ.S.L : Int), .slice FQZ.S.a FQZ.S.m FQZ.S.c, .int .i64 (FQZ.P.n : Int), .int .i64 (FQZ.P.W : Int), .int .i64 (FQZ.P.L : Int), .slice FQZ.P.a FQZ.P.m FQZ.P.c, .slice none 0 0] = z6 at *
          generalize z5.heap.size = bz at *
          go_wp2_with (first | (refine load40r H6.out.1 _ (by with_reducible rfl) rfl rfl ?_) | (go_at_call 22; (with_reducible refine (vlen_any FQZ none 0 0 z6).mono ?_); rintro e z7 ⟨rfl, hb7⟩; have H7 := Lib.hid hb7; clear hb7))
          go_ret
          exact ⟨rfl, H6.out.2.1.trans (H7.out.mono H6.out.2.1.size)⟩
        | true =>
          obtain ⟨ss, hro⟩ := endB_texts he (by rw [show (257 : Int) = ((257 : Nat) : Int) from rfl, ← HX.out.2.2]; exact HN.out.2.2.2.2)
          rcases Nat.eq_zero_or_pos i with hi0 | hi0
          · exfalso; have := hk3 (by omega); omega
          · obtain ⟨bb, off, hPe, hbl, hcc⟩ := num_at HN.out.2.1 (i := i - 1) (by rw [HN.out.2.2.2.1]; omega)
            obtain ⟨x, hx⟩ : ∃ x, m.getD (i - 1) 0 = x := ⟨_, rfl⟩
            rw [hx] at hcc
            subst hPe
            have q4 : (0 : Int) < (i : Int) := by omega
            have q5 : IntKind.i64.wrap ((i : Int) - 1) = ((i - 1 : Nat) : Int) := by rw [show (i : Int) - 1 = ((i - 1 : Nat) : Int) by omega]; exact IntWalk.i64_in _ (by omega)
            have q6 : (0 : Int) ≤ ((i - 1 : Nat) : Int) := by omega
            have q7 : ((i - 1 : Nat) : Int) < (i : Int) := by omega
            obtain ⟨i1, hi1⟩ : ∃ i1, i - 1 = i1 := ⟨_, rfl⟩
            rw [hi1] at q5 q6 q7 hcc
            have q8 : (x != 0) = false := by
              unfold endB at he
              rw [HN.out.2.2.2.1, hx] at he
              rw [Bool.or_eq_true, decide_eq_true_eq, decide_eq_true_eq] at he
              have : x = 0 := he.resolve_left (by omega)
              simp [this]
            clear he hx hi0
            subst hro

            go_wp2_with fail
            (with_reducible refine HN.out.1.mono ?_)
            rintro e z3 ⟨F, rfl, hF, hb3, -⟩
            have hfs := fm_stored hF
            have hb4 := hb3.trans (hfs.2.2.mono hb3.size)
            have H4 := Lib.hid (And.intro hfs.1 (And.intro hfs.2.1 (And.intro (HN.out.2.1.kept hb4) (HN.out.2.2.1.trans (hb4.mono HN.out.2.2.1.size)))))
            clear hfs hF hb3
            go_upto_region 11 with (refine store36 (op := ⟨none, .store 37 (.tmp 11) (.tmp 52), _, _, _, _⟩) F z3.heap.size (.tmp 11) (.tmp 52) rfl rfl rfl rfl (there17 z3) ?_)
            generalize (z3.alloc (.cells #[.int .i64 0, .int .i64 0, .slice none 0 0, .int .i64 0, .slice none 0 0, .int .i64 0, .int .i64 0, .int .i64 0, .slice none 0 0, .int .i64 0, .int .i64 0, .int .i64 0, .slice none 0 0, .int .i64 0, .int .i64 0, .int .i64 0, .slice none 0 0] 37)).setCells z3.heap.size 0 [.int .i64 (F.N : Int), .int .i64 F.Z, .slice F.wa F.wW F.wc, .int .i64 (F.R.n : Int), .slice F.R.a F.R.m F.R.c, .int .i64 (F.R.cn : Int), .int .i64 (F.R.cW : Int), .int .i64 (F.R.cL : Int), .slice F.R.a2 F.R.m2 F.R.c2, .int .i64 (F.S.n : Int), .int .i64 (F.S.W : Int), .int .i64 (F.S.L : Int), .slice F.S.a F.S.m F.S.c, .int .i64 (F.P.n : Int), .int .i64 (F.P.W : Int), .int .i64 (F.P.L : Int), .slice F.P.a F.P.m F.P.c] = z4 at *

            have HV := Lib.hid (vload_ok (ss := ss) (by rw [← HX.out.2.2]; exact H4.out.2.1))
            go_wp2_with (first | (refine load36 H4.out.1 _ (by with_reducible rfl) rfl rfl ?_))
            (with_reducible refine HV.out.mono ?_)
            rintro e z5 ⟨E, ec, rfl, hV, hb5⟩
            have hbs := below_stored z5 F E ss.length ec
            have hb6 := hb5.trans (hbs.mono hb5.size)
            have H6 := Lib.hid (And.intro (VX.stored (c := ec) hV (Below.refl _ _)) (And.intro (H4.out.2.2.2.trans (hb6.mono H4.out.2.2.2.size)) (H4.out.2.2.1.kept hb6)))
            have hcl := (hb6.cell (p := ⟨bb, off + i1, none⟩) (Nat.lt_of_lt_of_le hbl hb4.size)).trans ((hb4.cell (p := ⟨bb, off + i1, none⟩) hbl).trans hcc)
            clear hbs hb5 hb6 hb4 hV
            go_upto_region 14 with (refine store40 (op := ⟨none, .store 40 (.tmp 13) (.tmp 59), _, _, _, _⟩) F E ss.length ec z5.heap.size (.tmp 13) (.tmp 59) rfl rfl rfl rfl (there18 z5) ?_)
            generalize (z5.alloc (.cells #[.int .i64 0, .int .i64 0, .slice none 0 0, .int .i64 0, .slice none 0 0, .int .i64 0, .int .i64 0, .int .i64 0, .slice none 0 0, .int .i64 0, .int .i64 0, .int .i64 0, .slice none 0 0, .int .i64 0, .int .i64 0, .int .i64 0, .slice none 0 0, .slice none 0 0] 40)).setCells z5.heap.size 0 [.int .i64 (F.N : Int), .int .i64 F.Z, .slice F.wa F.wW F.wc, .int .i64 (F.R.n : Int), .slice F.R.a F.R.m F.R.c, .int .i64 (F.R.cn : Int), .int .i64 (F.R.cW : Int), .int .i64 (F.R.cL : Int), .slice F.R.a2 F.R.m2 F.R.c2, .int .i64 (F.S.n : Int), .int .i64 (F.S.W : Int), .int .i64 (F.S.L : Int), .slice F.S.a F.S.m F.S.c, .int .i64 (F.P.n : Int), .int .i64 (F.P.W : Int), .int .i64 (F.P.L : Int), .slice F.P.a F.P.m F.P.c, .slice E ss.length ec] = z6 at *
            obtain ⟨bx, hbx⟩ : ∃ bx, z5.heap.size = bx := ⟨_, rfl⟩
            simp only [hbx] at H6 ⊢
            clear hbx
            go_wp2
            go_loopw [15, 16, 17, 18] (fun v15 v16 _ _ wr => ∃ j : Nat, j ≤ ss.length ∧ v16 = .int .i64 (j : Int) ∧ OwnS z6 v15 (ss.take j) wr) (fun _ v16 _ _ _ => ss.length - (intOf v16).toNat)
            case atStart => exact ⟨0, Nat.zero_le _, rfl, World.ownsRow_nil _ _ _ _, Below.refl _ _⟩
            case round =>
              obtain ⟨j, hjn, rfl, hO⟩ := hrel
              have hVr := H6.out.1.kept hO.2
              have hfw := H6.out.1.vi.few
              have hlb := len_bg ss ss.length
              have hle : ss.length ≤ 1000 := by omega
              have HR := Lib.hid (And.intro hVr hO)
              clear hVr hO hlb
              by_cases hlj : j < ss.length
              · have hsu := takeV_succ ss hlj
                have hml : (ss.take j).length = j := by rw [List.length_take]; omega
                obtain ⟨t, ht⟩ : ∃ t, tV ss j = t := ⟨_, rfl⟩
                have hget := fun (u : World) (hu : VX z5 bx F E ec ss u) => hu.get j hlj
                rw [ht] at hsu
                simp only [ht] at hget
                have HI := Lib.hid (And.intro hsu (And.intro hml hget))
                have q1 : (j : Int) < (ss.length : Int) := by omega
                clear hsu hml hget ht hfw
                go_wp2_with (first | (refine load40 HR.out.1 _ (by with_reducible rfl) rfl rfl ?_) | (go_at_call 22; (with_reducible refine (vlen_any F E ss.length ec wr).mono ?_); rintro e z7 ⟨rfl, hb7⟩; have H7 := Lib.hid (And.intro (HR.out.1.kept hb7) (HR.out.2.kept hb7)); clear hb7 HR) | (refine load40 H7.out.1 _ (by with_reducible rfl) rfl rfl ?_) | (go_at_call 13; (with_reducible refine (HI.out.2.2 _ H7.out.1).mono ?_); rintro e z8 ⟨rfl, hb8, -⟩; have H8 := Lib.hid (H7.out.2.kept hb8); have hs8 := H8.out.2.size; clear hb8 H7) | (at_builtin; refine wpList_append_strs rfl (.tmp 100) (.tmp 102) rfl z6.heap.size _ _ _ rfl (H8.out.alloc _).1 (some ⟨_, 0, none⟩) 1 1 [t] rfl rfl ?c1 (by simp) ?c2 ?c3 ?_))
                case c1 => exact strs_one _ _
                case c2 => rw [HI.out.2.1]; omega
                case c3 => first | omega | (simp; omega)
                intro v' w5 hown hgrow _
                have hI5 := (H8.out.alloc _).app (l' := ss.take j ++ [t]) (by simpa [show min j ss.length = j by omega] using hown) hgrow
                have HX5 := Lib.hid hI5
                clear hown hgrow hI5
                go_wp2
                go_roundw
                case rel => exact ⟨j + 1, by omega, by go_num, by rw [HI.out.1]; exact HX5.out⟩
                case measure => simp [intOf]; omega
              · obtain rfl : j = ss.length := by omega
                have hO := HR.out.2
                rw [List.take_length] at hO
                obtain ⟨B, bc, rfl, hB, -, -, -, -⟩ := strs_of_own hO.1
                have q1 : ¬ (ss.length : Int) < (ss.length : Int) := by omega
                obtain ⟨x, hx⟩ : ∃ x, ss.length = x := ⟨_, rfl⟩
                have HR2 := Lib.hid (And.intro hB (And.intro HR.out.1 (And.intro (H6.out.2.2.kept hO.2) (H6.out.2.1.trans (hO.2.mono H6.out.2.1.size)))))
                have hrow := fun (u : World) (hu : StrsAt u B ss) => rrow_any B ss.length bc ss u hu rfl (by omega)
                have hmy := HN.out.2.2.2.1
                have hrn := hlj
                have HQ := Lib.hid (And.intro hrow (And.intro hmy hrn))
                clear hO hB HR H6 hrow hmy hfw hx
                go_wp2_with (first | (refine load40 HR2.out.2.1 _ (by with_reducible rfl) rfl rfl ?_) | (go_at_call 22; (with_reducible refine (vlen_any F E ss.length ec wr).mono ?_); rintro e z7 ⟨rfl, hb7⟩; have H7 := Lib.hid (And.intro (HR2.out.1.kept hb7) (And.intro (HR2.out.2.2.1.kept hb7) (HR2.out.2.2.2.trans (hb7.mono HR2.out.2.2.2.size)))); clear hb7 HR2) | (go_at_call 21; (with_reducible refine (HQ.out.1 _ H7.out.1).mono ?_); rintro e z8 ⟨v8, rfl, hI8⟩; obtain ⟨A8, c8, rfl, hN8, -, -, -, -⟩ := nums_of_own hI8.1; have H8 := Lib.hid (And.intro hN8 (And.intro (H7.out.2.1.kept hI8.2) (H7.out.2.2.trans (hI8.2.mono H7.out.2.2.size)))); clear hN8 hI8 H7) | (go_at_call 18; (with_reducible refine (rsame_any A8 _ (rowV ss).length i c8 pc (rowV ss) (rowV ss) _ H8.out.1 H8.out.2.1 rfl HQ.out.2.1 (by rw [HQ.out.2.1]; omega)).mono ?_); rintro e z9 ⟨rfl, hb9⟩; have H9 := Lib.hid (H8.out.2.2.trans (hb9.mono H8.out.2.2.size)); clear hb9 H8))
                go_ret
                exact ⟨rfl, H9.out⟩
      · have q1 : ¬ (i : Int) < (n0 : Int) := by omega
        clear hn
        cases he : endB m with
        | false =>
          have hi0 : 0 < i := by
            rcases Nat.eq_zero_or_pos i with h | h
            · exfalso
              have := HN.out.2.2.2.1
              unfold endB at he
              rw [this, h] at he
              simp at he
            · exact h
          obtain ⟨bb, off, hPe, hbl, hcc⟩ := num_at HN.out.2.1 (i := i - 1) (by rw [HN.out.2.2.2.1]; omega)
          obtain ⟨x, hx⟩ : ∃ x, m.getD (i - 1) 0 = x := ⟨_, rfl⟩
          rw [hx] at hcc
          subst hPe
          have q4 : (0 : Int) < (i : Int) := by omega
          have q5 : IntKind.i64.wrap ((i : Int) - 1) = ((i - 1 : Nat) : Int) := by rw [show (i : Int) - 1 = ((i - 1 : Nat) : Int) by omega]; exact IntWalk.i64_in _ (by omega)
          have q6 : (0 : Int) ≤ ((i - 1 : Nat) : Int) := by omega
          have q7 : ((i - 1 : Nat) : Int) < (i : Int) := by omega
          obtain ⟨i1, hi1⟩ : ∃ i1, i - 1 = i1 := ⟨_, rfl⟩
          rw [hi1] at q5 q6 q7 hcc
          have q8 : (x != 0) = true := by
            unfold endB at he
            rw [HN.out.2.2.2.1, hx] at he
            rw [Bool.or_eq_false_iff] at he
            have := of_decide_eq_false he.2
            simp [this]
          have hey := he
          clear hx hi0

          go_wp2_with fail
          (with_reducible refine HN.out.1.mono ?_)
          rintro e z3 ⟨F, rfl, hF, hb3, -⟩
          have hfs := fm_stored hF
          have hb4 := hb3.trans (hfs.2.2.mono hb3.size)
          have H4 := Lib.hid (And.intro hfs.1 (And.intro hfs.2.1 (And.intro (HN.out.2.1.kept hb4) (HN.out.2.2.1.trans (hb4.mono HN.out.2.2.1.size)))))
          clear hfs hF hb3
          go_upto_region 11 with (refine store36 (op := ⟨none, .store 37 (.tmp 11) (.tmp 52), _, _, _, _⟩) F z3.heap.size (.tmp 11) (.tmp 52) rfl rfl rfl rfl (there17 z3) ?_)
          generalize (z3.alloc (.cells #[.int .i64 0, .int .i64 0, .slice none 0 0, .int .i64 0, .slice none 0 0, .int .i64 0, .int .i64 0, .int .i64 0, .slice none 0 0, .int .i64 0, .int .i64 0, .int .i64 0, .slice none 0 0, .int .i64 0, .int .i64 0, .int .i64 0, .slice none 0 0] 37)).setCells z3.heap.size 0 [.int .i64 (F.N : Int), .int .i64 F.Z, .slice F.wa F.wW F.wc, .int .i64 (F.R.n : Int), .slice F.R.a F.R.m F.R.c, .int .i64 (F.R.cn : Int), .int .i64 (F.R.cW : Int), .int .i64 (F.R.cL : Int), .slice F.R.a2 F.R.m2 F.R.c2, .int .i64 (F.S.n : Int), .int .i64 (F.S.W : Int), .int .i64 (F.S.L : Int), .slice F.S.a F.S.m F.S.c, .int .i64 (F.P.n : Int), .int .i64 (F.P.W : Int), .int .i64 (F.P.L : Int), .slice F.P.a F.P.m F.P.c] = z4 at *

          have HV := Lib.hid (vload_no H4.out.2.1 (.inr hey))
          go_wp2_with (first | (refine load36 H4.out.1 _ (by with_reducible rfl) rfl rfl ?_))
          (with_reducible refine HV.out.mono ?_)
          rintro e z5 ⟨rfl, hb5⟩
          have hbs := below_stored z5 FQZ none 0 0
          have hb6 := hb5.trans (hbs.mono hb5.size)
          have hzr := zero_range z5
          have H6 := Lib.hid (And.intro hzr (And.intro (H4.out.2.2.2.trans (hb6.mono H4.out.2.2.2.size)) (H4.out.2.2.1.kept hb6)))
          have hcl := (hb6.cell (p := ⟨bb, off + i1, none⟩) (Nat.lt_of_lt_of_le hbl hb4.size)).trans ((hb4.cell (p := ⟨bb, off + i1, none⟩) hbl).trans hcc)
          clear hbs hb5 hb6 hzr hb4
          go_upto_region 14 with (refine store40 (op := ⟨none, .store 40 (.tmp 13) (.tmp 59), _, _, _, _⟩) FQZ none 0 0 z5.heap.size (.tmp 13) (.tmp 59) rfl rfl rfl rfl (there18 z5) ?_)
          generalize (z5.alloc (.cells #[.int .i64 0, .int .i64 0, .slice none 0 0, .int .i64 0, .slice none 0 0, .int .i64 0, .int .i64 0, .int .i64 0, .slice none 0 0, .int .i64 0, .int .i64 0, .int .i64 0, .slice none 0 0, .int .i64 0, .int .i64 0, .int .i64 0, .slice none 0 0, .slice none 0 0] 40)).setCells z5.heap.size 0 [.int .i64 (FQZ.N : Int), .int .i64 FQZ.Z, .slice FQZ.wa FQZ.wW FQZ.wc, .int .i64 (FQZ.R.n : Int), .slice FQZ.R.a FQZ.R.m FQZ.R.c, .int .i64 (FQZ.R.cn : Int), .int .i64 (FQZ.R.cW : Int), .int .i64 (FQZ.R.cL : Int), .slice FQZ.R.a2 FQZ.R.m2 FQZ.R.c2, .int .i64 (FQZ.S.n : Int), .int .i64 (FQZ.S.W : Int), .int .i64 (FQZ.S.L : Int), .slice FQZ.S.a FQZ.S.m FQZ.S.c, .int .i64 (FQZ.P.n : Int), .int .i64 (FQZ.P.W : Int), .int .i64 (FQZ.P.L : Int), .slice FQZ.P.a FQZ.P.m FQZ.P.c, .slice none 0 0] = z6 at *
          generalize z5.heap.size = bz at *
          go_wp2_with (first | (refine load40r H6.out.1 _ (by with_reducible rfl) rfl rfl ?_) | (go_at_call 22; (with_reducible refine (vlen_any FQZ none 0 0 z6).mono ?_); rintro e z7 ⟨rfl, hb7⟩; have H7 := Lib.hid hb7; clear hb7))
          go_ret
          exact ⟨rfl, H6.out.2.1.trans (H7.out.mono H6.out.2.1.size)⟩
        | true =>
          obtain ⟨ss, hro⟩ := endB_texts he (by rw [show (257 : Int) = ((257 : Nat) : Int) from rfl, ← HX.out.2.2]; exact HN.out.2.2.2.2)
          rcases Nat.eq_zero_or_pos i with hi0 | hi0
          · have q4 : ¬ (0 : Int) < (i : Int) := by omega
            clear he hi0
            subst hro
            go_wp2_with fail
            (with_reducible refine HN.out.1.mono ?_)
            rintro e z3 ⟨F, rfl, hF, hb3, -⟩
            have hfs := fm_stored hF
            have hb4 := hb3.trans (hfs.2.2.mono hb3.size)
            have H4 := Lib.hid (And.intro hfs.1 (And.intro hfs.2.1 (And.intro (HN.out.2.1.kept hb4) (HN.out.2.2.1.trans (hb4.mono HN.out.2.2.1.size)))))
            clear hfs hF hb3
            go_upto_region 11 with (refine store36 (op := ⟨none, .store 37 (.tmp 11) (.tmp 52), _, _, _, _⟩) F z3.heap.size (.tmp 11) (.tmp 52) rfl rfl rfl rfl (there17 z3) ?_)
            generalize (z3.alloc (.cells #[.int .i64 0, .int .i64 0, .slice none 0 0, .int .i64 0, .slice none 0 0, .int .i64 0, .int .i64 0, .int .i64 0, .slice none 0 0, .int .i64 0, .int .i64 0, .int .i64 0, .slice none 0 0, .int .i64 0, .int .i64 0, .int .i64 0, .slice none 0 0] 37)).setCells z3.heap.size 0 [.int .i64 (F.N : Int), .int .i64 F.Z, .slice F.wa F.wW F.wc, .int .i64 (F.R.n : Int), .slice F.R.a F.R.m F.R.c, .int .i64 (F.R.cn : Int), .int .i64 (F.R.cW : Int), .int .i64 (F.R.cL : Int), .slice F.R.a2 F.R.m2 F.R.c2, .int .i64 (F.S.n : Int), .int .i64 (F.S.W : Int), .int .i64 (F.S.L : Int), .slice F.S.a F.S.m F.S.c, .int .i64 (F.P.n : Int), .int .i64 (F.P.W : Int), .int .i64 (F.P.L : Int), .slice F.P.a F.P.m F.P.c] = z4 at *

            have HV := Lib.hid (vload_ok (ss := ss) (by rw [← HX.out.2.2]; exact H4.out.2.1))
            go_wp2_with (first | (refine load36 H4.out.1 _ (by with_reducible rfl) rfl rfl ?_))
            (with_reducible refine HV.out.mono ?_)
            rintro e z5 ⟨E, ec, rfl, hV, hb5⟩
            have hbs := below_stored z5 F E ss.length ec
            have hb6 := hb5.trans (hbs.mono hb5.size)
            have H6 := Lib.hid (And.intro (VX.stored (c := ec) hV (Below.refl _ _)) (And.intro (H4.out.2.2.2.trans (hb6.mono H4.out.2.2.2.size)) (H4.out.2.2.1.kept hb6)))
            clear hbs hb5 hb6 hb4 hV
            go_upto_region 14 with (refine store40 (op := ⟨none, .store 40 (.tmp 13) (.tmp 59), _, _, _, _⟩) F E ss.length ec z5.heap.size (.tmp 13) (.tmp 59) rfl rfl rfl rfl (there18 z5) ?_)
            generalize (z5.alloc (.cells #[.int .i64 0, .int .i64 0, .slice none 0 0, .int .i64 0, .slice none 0 0, .int .i64 0, .int .i64 0, .int .i64 0, .slice none 0 0, .int .i64 0, .int .i64 0, .int .i64 0, .slice none 0 0, .int .i64 0, .int .i64 0, .int .i64 0, .slice none 0 0, .slice none 0 0] 40)).setCells z5.heap.size 0 [.int .i64 (F.N : Int), .int .i64 F.Z, .slice F.wa F.wW F.wc, .int .i64 (F.R.n : Int), .slice F.R.a F.R.m F.R.c, .int .i64 (F.R.cn : Int), .int .i64 (F.R.cW : Int), .int .i64 (F.R.cL : Int), .slice F.R.a2 F.R.m2 F.R.c2, .int .i64 (F.S.n : Int), .int .i64 (F.S.W : Int), .int .i64 (F.S.L : Int), .slice F.S.a F.S.m F.S.c, .int .i64 (F.P.n : Int), .int .i64 (F.P.W : Int), .int .i64 (F.P.L : Int), .slice F.P.a F.P.m F.P.c, .slice E ss.length ec] = z6 at *
            obtain ⟨bx, hbx⟩ : ∃ bx, z5.heap.size = bx := ⟨_, rfl⟩
            simp only [hbx] at H6 ⊢
            clear hbx
            go_wp2
            go_loopw [15, 16, 17, 18] (fun v15 v16 _ _ wr => ∃ j : Nat, j ≤ ss.length ∧ v16 = .int .i64 (j : Int) ∧ OwnS z6 v15 (ss.take j) wr) (fun _ v16 _ _ _ => ss.length - (intOf v16).toNat)
            case atStart => exact ⟨0, Nat.zero_le _, rfl, World.ownsRow_nil _ _ _ _, Below.refl _ _⟩
            case round =>
              obtain ⟨j, hjn, rfl, hO⟩ := hrel
              have hVr := H6.out.1.kept hO.2
              have hfw := H6.out.1.vi.few
              have hlb := len_bg ss ss.length
              have hle : ss.length ≤ 1000 := by omega
              have HR := Lib.hid (And.intro hVr hO)
              clear hVr hO hlb
              by_cases hlj : j < ss.length
              · have hsu := takeV_succ ss hlj
                have hml : (ss.take j).length = j := by rw [List.length_take]; omega
                obtain ⟨t, ht⟩ : ∃ t, tV ss j = t := ⟨_, rfl⟩
                have hget := fun (u : World) (hu : VX z5 bx F E ec ss u) => hu.get j hlj
                rw [ht] at hsu
                simp only [ht] at hget
                have HI := Lib.hid (And.intro hsu (And.intro hml hget))
                have q1 : (j : Int) < (ss.length : Int) := by omega
                clear hsu hml hget ht hfw
                go_wp2_with (first | (refine load40 HR.out.1 _ (by with_reducible rfl) rfl rfl ?_) | (go_at_call 22; (with_reducible refine (vlen_any F E ss.length ec wr).mono ?_); rintro e z7 ⟨rfl, hb7⟩; have H7 := Lib.hid (And.intro (HR.out.1.kept hb7) (HR.out.2.kept hb7)); clear hb7 HR) | (refine load40 H7.out.1 _ (by with_reducible rfl) rfl rfl ?_) | (go_at_call 13; (with_reducible refine (HI.out.2.2 _ H7.out.1).mono ?_); rintro e z8 ⟨rfl, hb8, -⟩; have H8 := Lib.hid (H7.out.2.kept hb8); have hs8 := H8.out.2.size; clear hb8 H7) | (at_builtin; refine wpList_append_strs rfl (.tmp 100) (.tmp 102) rfl z6.heap.size _ _ _ rfl (H8.out.alloc _).1 (some ⟨_, 0, none⟩) 1 1 [t] rfl rfl ?c1 (by simp) ?c2 ?c3 ?_))
                case c1 => exact strs_one _ _
                case c2 => rw [HI.out.2.1]; omega
                case c3 => first | omega | (simp; omega)
                intro v' w5 hown hgrow _
                have hI5 := (H8.out.alloc _).app (l' := ss.take j ++ [t]) (by simpa [show min j ss.length = j by omega] using hown) hgrow
                have HX5 := Lib.hid hI5
                clear hown hgrow hI5
                go_wp2
                go_roundw
                case rel => exact ⟨j + 1, by omega, by go_num, by rw [HI.out.1]; exact HX5.out⟩
                case measure => simp [intOf]; omega
              · obtain rfl : j = ss.length := by omega
                have hO := HR.out.2
                rw [List.take_length] at hO
                obtain ⟨B, bc, rfl, hB, -, -, -, -⟩ := strs_of_own hO.1
                have q1 : ¬ (ss.length : Int) < (ss.length : Int) := by omega
                obtain ⟨x, hx⟩ : ∃ x, ss.length = x := ⟨_, rfl⟩
                have HR2 := Lib.hid (And.intro hB (And.intro HR.out.1 (And.intro (H6.out.2.2.kept hO.2) (H6.out.2.1.trans (hO.2.mono H6.out.2.1.size)))))
                have hrow := fun (u : World) (hu : StrsAt u B ss) => rrow_any B ss.length bc ss u hu rfl (by omega)
                have hmy := HN.out.2.2.2.1
                have hrn := hlj
                have HQ := Lib.hid (And.intro hrow (And.intro hmy hrn))
                clear hO hB HR H6 hrow hmy hfw hx
                go_wp2_with (first | (refine load40 HR2.out.2.1 _ (by with_reducible rfl) rfl rfl ?_) | (go_at_call 22; (with_reducible refine (vlen_any F E ss.length ec wr).mono ?_); rintro e z7 ⟨rfl, hb7⟩; have H7 := Lib.hid (And.intro (HR2.out.1.kept hb7) (And.intro (HR2.out.2.2.1.kept hb7) (HR2.out.2.2.2.trans (hb7.mono HR2.out.2.2.2.size)))); clear hb7 HR2) | (go_at_call 21; (with_reducible refine (HQ.out.1 _ H7.out.1).mono ?_); rintro e z8 ⟨v8, rfl, hI8⟩; obtain ⟨A8, c8, rfl, hN8, -, -, -, -⟩ := nums_of_own hI8.1; have H8 := Lib.hid (And.intro hN8 (And.intro (H7.out.2.1.kept hI8.2) (H7.out.2.2.trans (hI8.2.mono H7.out.2.2.size)))); clear hN8 hI8 H7) | (go_at_call 18; (with_reducible refine (rsame_any A8 _ (rowV ss).length i c8 pc (rowV ss) (rowV ss) _ H8.out.1 H8.out.2.1 rfl HQ.out.2.1 (by rw [HQ.out.2.1]; omega)).mono ?_); rintro e z9 ⟨rfl, hb9⟩; have H9 := Lib.hid (H8.out.2.2.trans (hb9.mono H8.out.2.2.size)); clear hb9 H8))
                go_ret
                exact ⟨rfl, H9.out⟩
          · obtain ⟨bb, off, hPe, hbl, hcc⟩ := num_at HN.out.2.1 (i := i - 1) (by rw [HN.out.2.2.2.1]; omega)
            obtain ⟨x, hx⟩ : ∃ x, m.getD (i - 1) 0 = x := ⟨_, rfl⟩
            rw [hx] at hcc
            subst hPe
            have q4 : (0 : Int) < (i : Int) := by omega
            have q5 : IntKind.i64.wrap ((i : Int) - 1) = ((i - 1 : Nat) : Int) := by rw [show (i : Int) - 1 = ((i - 1 : Nat) : Int) by omega]; exact IntWalk.i64_in _ (by omega)
            have q6 : (0 : Int) ≤ ((i - 1 : Nat) : Int) := by omega
            have q7 : ((i - 1 : Nat) : Int) < (i : Int) := by omega
            obtain ⟨i1, hi1⟩ : ∃ i1, i - 1 = i1 := ⟨_, rfl⟩
            rw [hi1] at q5 q6 q7 hcc
            have q8 : (x != 0) = false := by
              unfold endB at he
              rw [HN.out.2.2.2.1, hx] at he
              rw [Bool.or_eq_true, decide_eq_true_eq, decide_eq_true_eq] at he
              have : x = 0 := he.resolve_left (by omega)
              simp [this]
            clear he hx hi0
            subst hro

            go_wp2_with fail
            (with_reducible refine HN.out.1.mono ?_)
            rintro e z3 ⟨F, rfl, hF, hb3, -⟩
            have hfs := fm_stored hF
            have hb4 := hb3.trans (hfs.2.2.mono hb3.size)
            have H4 := Lib.hid (And.intro hfs.1 (And.intro hfs.2.1 (And.intro (HN.out.2.1.kept hb4) (HN.out.2.2.1.trans (hb4.mono HN.out.2.2.1.size)))))
            clear hfs hF hb3
            go_upto_region 11 with (refine store36 (op := ⟨none, .store 37 (.tmp 11) (.tmp 52), _, _, _, _⟩) F z3.heap.size (.tmp 11) (.tmp 52) rfl rfl rfl rfl (there17 z3) ?_)
            generalize (z3.alloc (.cells #[.int .i64 0, .int .i64 0, .slice none 0 0, .int .i64 0, .slice none 0 0, .int .i64 0, .int .i64 0, .int .i64 0, .slice none 0 0, .int .i64 0, .int .i64 0, .int .i64 0, .slice none 0 0, .int .i64 0, .int .i64 0, .int .i64 0, .slice none 0 0] 37)).setCells z3.heap.size 0 [.int .i64 (F.N : Int), .int .i64 F.Z, .slice F.wa F.wW F.wc, .int .i64 (F.R.n : Int), .slice F.R.a F.R.m F.R.c, .int .i64 (F.R.cn : Int), .int .i64 (F.R.cW : Int), .int .i64 (F.R.cL : Int), .slice F.R.a2 F.R.m2 F.R.c2, .int .i64 (F.S.n : Int), .int .i64 (F.S.W : Int), .int .i64 (F.S.L : Int), .slice F.S.a F.S.m F.S.c, .int .i64 (F.P.n : Int), .int .i64 (F.P.W : Int), .int .i64 (F.P.L : Int), .slice F.P.a F.P.m F.P.c] = z4 at *

            have HV := Lib.hid (vload_ok (ss := ss) (by rw [← HX.out.2.2]; exact H4.out.2.1))
            go_wp2_with (first | (refine load36 H4.out.1 _ (by with_reducible rfl) rfl rfl ?_))
            (with_reducible refine HV.out.mono ?_)
            rintro e z5 ⟨E, ec, rfl, hV, hb5⟩
            have hbs := below_stored z5 F E ss.length ec
            have hb6 := hb5.trans (hbs.mono hb5.size)
            have H6 := Lib.hid (And.intro (VX.stored (c := ec) hV (Below.refl _ _)) (And.intro (H4.out.2.2.2.trans (hb6.mono H4.out.2.2.2.size)) (H4.out.2.2.1.kept hb6)))
            have hcl := (hb6.cell (p := ⟨bb, off + i1, none⟩) (Nat.lt_of_lt_of_le hbl hb4.size)).trans ((hb4.cell (p := ⟨bb, off + i1, none⟩) hbl).trans hcc)
            clear hbs hb5 hb6 hb4 hV
            go_upto_region 14 with (refine store40 (op := ⟨none, .store 40 (.tmp 13) (.tmp 59), _, _, _, _⟩) F E ss.length ec z5.heap.size (.tmp 13) (.tmp 59) rfl rfl rfl rfl (there18 z5) ?_)
            generalize (z5.alloc (.cells #[.int .i64 0, .int .i64 0, .slice none 0 0, .int .i64 0, .slice none 0 0, .int .i64 0, .int .i64 0, .int .i64 0, .slice none 0 0, .int .i64 0, .int .i64 0, .int .i64 0, .slice none 0 0, .int .i64 0, .int .i64 0, .int .i64 0, .slice none 0 0, .slice none 0 0] 40)).setCells z5.heap.size 0 [.int .i64 (F.N : Int), .int .i64 F.Z, .slice F.wa F.wW F.wc, .int .i64 (F.R.n : Int), .slice F.R.a F.R.m F.R.c, .int .i64 (F.R.cn : Int), .int .i64 (F.R.cW : Int), .int .i64 (F.R.cL : Int), .slice F.R.a2 F.R.m2 F.R.c2, .int .i64 (F.S.n : Int), .int .i64 (F.S.W : Int), .int .i64 (F.S.L : Int), .slice F.S.a F.S.m F.S.c, .int .i64 (F.P.n : Int), .int .i64 (F.P.W : Int), .int .i64 (F.P.L : Int), .slice F.P.a F.P.m F.P.c, .slice E ss.length ec] = z6 at *
            obtain ⟨bx, hbx⟩ : ∃ bx, z5.heap.size = bx := ⟨_, rfl⟩
            simp only [hbx] at H6 ⊢
            clear hbx
            go_wp2
            go_loopw [15, 16, 17, 18] (fun v15 v16 _ _ wr => ∃ j : Nat, j ≤ ss.length ∧ v16 = .int .i64 (j : Int) ∧ OwnS z6 v15 (ss.take j) wr) (fun _ v16 _ _ _ => ss.length - (intOf v16).toNat)
            case atStart => exact ⟨0, Nat.zero_le _, rfl, World.ownsRow_nil _ _ _ _, Below.refl _ _⟩
            case round =>
              obtain ⟨j, hjn, rfl, hO⟩ := hrel
              have hVr := H6.out.1.kept hO.2
              have hfw := H6.out.1.vi.few
              have hlb := len_bg ss ss.length
              have hle : ss.length ≤ 1000 := by omega
              have HR := Lib.hid (And.intro hVr hO)
              clear hVr hO hlb
              by_cases hlj : j < ss.length
              · have hsu := takeV_succ ss hlj
                have hml : (ss.take j).length = j := by rw [List.length_take]; omega
                obtain ⟨t, ht⟩ : ∃ t, tV ss j = t := ⟨_, rfl⟩
                have hget := fun (u : World) (hu : VX z5 bx F E ec ss u) => hu.get j hlj
                rw [ht] at hsu
                simp only [ht] at hget
                have HI := Lib.hid (And.intro hsu (And.intro hml hget))
                have q1 : (j : Int) < (ss.length : Int) := by omega
                clear hsu hml hget ht hfw
                go_wp2_with (first | (refine load40 HR.out.1 _ (by with_reducible rfl) rfl rfl ?_) | (go_at_call 22; (with_reducible refine (vlen_any F E ss.length ec wr).mono ?_); rintro e z7 ⟨rfl, hb7⟩; have H7 := Lib.hid (And.intro (HR.out.1.kept hb7) (HR.out.2.kept hb7)); clear hb7 HR) | (refine load40 H7.out.1 _ (by with_reducible rfl) rfl rfl ?_) | (go_at_call 13; (with_reducible refine (HI.out.2.2 _ H7.out.1).mono ?_); rintro e z8 ⟨rfl, hb8, -⟩; have H8 := Lib.hid (H7.out.2.kept hb8); have hs8 := H8.out.2.size; clear hb8 H7) | (at_builtin; refine wpList_append_strs rfl (.tmp 100) (.tmp 102) rfl z6.heap.size _ _ _ rfl (H8.out.alloc _).1 (some ⟨_, 0, none⟩) 1 1 [t] rfl rfl ?c1 (by simp) ?c2 ?c3 ?_))
                case c1 => exact strs_one _ _
                case c2 => rw [HI.out.2.1]; omega
                case c3 => first | omega | (simp; omega)
                intro v' w5 hown hgrow _
                have hI5 := (H8.out.alloc _).app (l' := ss.take j ++ [t]) (by simpa [show min j ss.length = j by omega] using hown) hgrow
                have HX5 := Lib.hid hI5
                clear hown hgrow hI5
                go_wp2
                go_roundw
                case rel => exact ⟨j + 1, by omega, by go_num, by rw [HI.out.1]; exact HX5.out⟩
                case measure => simp [intOf]; omega
              · obtain rfl : j = ss.length := by omega
                have hO := HR.out.2
                rw [List.take_length] at hO
                obtain ⟨B, bc, rfl, hB, -, -, -, -⟩ := strs_of_own hO.1
                have q1 : ¬ (ss.length : Int) < (ss.length : Int) := by omega
                obtain ⟨x, hx⟩ : ∃ x, ss.length = x := ⟨_, rfl⟩
                have HR2 := Lib.hid (And.intro hB (And.intro HR.out.1 (And.intro (H6.out.2.2.kept hO.2) (H6.out.2.1.trans (hO.2.mono H6.out.2.1.size)))))
                have hrow := fun (u : World) (hu : StrsAt u B ss) => rrow_any B ss.length bc ss u hu rfl (by omega)
                have hmy := HN.out.2.2.2.1
                have hrn := hlj
                have HQ := Lib.hid (And.intro hrow (And.intro hmy hrn))
                clear hO hB HR H6 hrow hmy hfw hx
                go_wp2_with (first | (refine load40 HR2.out.2.1 _ (by with_reducible rfl) rfl rfl ?_) | (go_at_call 22; (with_reducible refine (vlen_any F E ss.length ec wr).mono ?_); rintro e z7 ⟨rfl, hb7⟩; have H7 := Lib.hid (And.intro (HR2.out.1.kept hb7) (And.intro (HR2.out.2.2.1.kept hb7) (HR2.out.2.2.2.trans (hb7.mono HR2.out.2.2.2.size)))); clear hb7 HR2) | (go_at_call 21; (with_reducible refine (HQ.out.1 _ H7.out.1).mono ?_); rintro e z8 ⟨v8, rfl, hI8⟩; obtain ⟨A8, c8, rfl, hN8, -, -, -, -⟩ := nums_of_own hI8.1; have H8 := Lib.hid (And.intro hN8 (And.intro (H7.out.2.1.kept hI8.2) (H7.out.2.2.trans (hI8.2.mono H7.out.2.2.size)))); clear hN8 hI8 H7) | (go_at_call 18; (with_reducible refine (rsame_any A8 _ (rowV ss).length i c8 pc (rowV ss) (rowV ss) _ H8.out.1 H8.out.2.1 rfl HQ.out.2.1 (by rw [HQ.out.2.1]; omega)).mono ?_); rintro e z9 ⟨rfl, hb9⟩; have H9 := Lib.hid (H8.out.2.2.trans (hb9.mono H8.out.2.2.size)); clear hb9 H8))
                go_ret
                exact ⟨rfl, H9.out⟩
theorem load_walk (A : Option Addr) (n0 c0 : Nat) (xs : List Int) (q : Int) (bb : Bool) (w : World) (hA : NumsAt .i64 w A xs) (hx : xs.length = n0) :
    Calls Tryz.prog 5 #[.slice A n0 c0, .int .i64 q, .bool bb] w fun e w' => e = .returned (.bool true) ∧ Below w.heap.size w w' := by
  cases bb with
  | true => exact load_walk_t A n0 c0 xs q w hA hx
  | false => exact load_walk_f A n0 c0 xs q w hA hx

end Go.Proofs.YtpnjccomngdblaaGreat
