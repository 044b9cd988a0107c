/- The contracts of Len, Size, border, ahead. -/
import Derived.Test.YtpnjccomngdblaaGreatZB
import Derived.Test.YtpnjccomngdblaaGreatZH
import Derived.Deep.RegionHeld3
import Derived.Deep.MidRow
set_option maxRecDepth 100000
namespace Go.Proofs.YtpnjccomngdblaaGreat
open Go.RowKit
open M
attribute [local go_sem ↓] Go.wp_at_zero Go.wp_at_succ

variable {w u : World} {b : Nat} {F : FQ} {l : List Int} {size : Nat}

/-! ## The whole of a box -/
theorem info37 : (Tryz.prog.info? 37).map (fun i => (i.zero, i.size, i.bytes)) = some (some (.agg #[.int .i64 0, .int .i64 0, .slice none 0 0, .int .i64 0, .slice none 0 0, .int .i64 0, .int .i64 0, .int .i64 0, .slice none 0 0, .int .i64 0, .int .i64 0, .int .i64 0, .slice none 0 0, .int .i64 0, .int .i64 0, .int .i64 0, .slice none 0 0]), 17, 216) := by kernel_rfl
theorem MBx.range (h : MBx w b F) : w.rangeAt b 0 [.int .i64 (F.N : Int), .int .i64 F.Z, .slice F.wa F.wW F.wc, .int .i64 (F.R.n : Int), .slice F.R.a F.R.m F.R.c, .int .i64 (F.R.cn : Int), .int .i64 (F.R.cW : Int), .int .i64 (F.R.cL : Int), .slice F.R.a2 F.R.m2 F.R.c2, .int .i64 (F.S.n : Int), .int .i64 (F.S.W : Int), .int .i64 (F.S.L : Int), .slice F.S.a F.S.m F.S.c, .int .i64 (F.P.n : Int), .int .i64 (F.P.W : Int), .int .i64 (F.P.L : Int), .slice F.P.a F.P.m F.P.c] := by
  intro j v hj
  rw [Nat.zero_add]
  obtain ⟨c0, c1, c2, c3, c4, c5, c6, c7, c8, c9, c10, c11, c12, c13, c14, c15, c16⟩ := h
  match j, hj with
  | 0, hj => cases hj; exact c0
  | 1, hj => cases hj; exact c1
  | 2, hj => cases hj; exact c2
  | 3, hj => cases hj; exact c3
  | 4, hj => cases hj; exact c4
  | 5, hj => cases hj; exact c5
  | 6, hj => cases hj; exact c6
  | 7, hj => cases hj; exact c7
  | 8, hj => cases hj; exact c8
  | 9, hj => cases hj; exact c9
  | 10, hj => cases hj; exact c10
  | 11, hj => cases hj; exact c11
  | 12, hj => cases hj; exact c12
  | 13, hj => cases hj; exact c13
  | 14, hj => cases hj; exact c14
  | 15, hj => cases hj; exact c15
  | 16, hj => cases hj; exact c16
  | j + 17, hj => simp at hj
theorem MBx.load (h : MBx w b F) : (Instr.loadAt 37 (.pointer (some ⟨b, 0, none⟩))).run Tryz.prog w = .ok (.agg #[.int .i64 (F.N : Int), .int .i64 F.Z, .slice F.wa F.wW F.wc, .int .i64 (F.R.n : Int), .slice F.R.a F.R.m F.R.c, .int .i64 (F.R.cn : Int), .int .i64 (F.R.cW : Int), .int .i64 (F.R.cL : Int), .slice F.R.a2 F.R.m2 F.R.c2, .int .i64 (F.S.n : Int), .int .i64 (F.S.W : Int), .int .i64 (F.S.L : Int), .slice F.S.a F.S.m F.S.c, .int .i64 (F.P.n : Int), .int .i64 (F.P.W : Int), .int .i64 (F.P.L : Int), .slice F.P.a F.P.m F.P.c]) w := run_loadAt_mid w b 0 37 _ _ h.range Tryz.underlying37 rfl (by kernel_rfl)
theorem MBx.from (h : MBx w b F) : (loadCellsFrom ⟨b, 0, none⟩ 0 17 #[]).run Tryz.prog w = .ok #[.int .i64 (F.N : Int), .int .i64 F.Z, .slice F.wa F.wW F.wc, .int .i64 (F.R.n : Int), .slice F.R.a F.R.m F.R.c, .int .i64 (F.R.cn : Int), .int .i64 (F.R.cW : Int), .int .i64 (F.R.cL : Int), .slice F.R.a2 F.R.m2 F.R.c2, .int .i64 (F.S.n : Int), .int .i64 (F.S.W : Int), .int .i64 (F.S.L : Int), .slice F.S.a F.S.m F.S.c, .int .i64 (F.P.n : Int), .int .i64 (F.P.W : Int), .int .i64 (F.P.L : Int), .slice F.P.a F.P.m F.P.c] w := by
  have := run_loadCells_list (P := Tryz.prog) w ⟨b, 0, none⟩ [.int .i64 (F.N : Int), .int .i64 F.Z, .slice F.wa F.wW F.wc, .int .i64 (F.R.n : Int), .slice F.R.a F.R.m F.R.c, .int .i64 (F.R.cn : Int), .int .i64 (F.R.cW : Int), .int .i64 (F.R.cL : Int), .slice F.R.a2 F.R.m2 F.R.c2, .int .i64 (F.S.n : Int), .int .i64 (F.S.W : Int), .int .i64 (F.S.L : Int), .slice F.S.a F.S.m F.S.c, .int .i64 (F.P.n : Int), .int .i64 (F.P.W : Int), .int .i64 (F.P.L : Int), .slice F.P.a F.P.m F.P.c] (fun j v hv => by rw [Addr.add_mid]; exact h.range j v hv)
  unfold loadCells at this
  exact this
/-- The whole of a box as one step of a walk. -/
theorem load36 {ops : Array Oper} {rest : List Oper} {op : Oper} {a : Act} {Q : Exit → Act → World → Prop} (h : MBx w b F) (x : Operand) (ho : op.op = .load 37 x) (hw : Region.wanted op (yielded ops a.tmps) = true)
    (hx : a.eval x = .pointer (some ⟨b, 0, none⟩)) (k : wpList Tryz.prog ops Q rest (a.put op.dst (.agg #[.int .i64 (F.N : Int), .int .i64 F.Z, .slice F.wa F.wW F.wc, .int .i64 (F.R.n : Int), .slice F.R.a F.R.m F.R.c, .int .i64 (F.R.cn : Int), .int .i64 (F.R.cW : Int), .int .i64 (F.R.cL : Int), .slice F.R.a2 F.R.m2 F.R.c2, .int .i64 (F.S.n : Int), .int .i64 (F.S.W : Int), .int .i64 (F.S.L : Int), .slice F.S.a F.S.m F.S.c, .int .i64 (F.P.n : Int), .int .i64 (F.P.W : Int), .int .i64 (F.P.L : Int), .slice F.P.a F.P.m F.P.c])) w) : wpList Tryz.prog ops Q (op :: rest) a w :=
  wpList_step fun K hK => by
    rw [if_pos hw]
    exact wp_load_mid 37 x ho b 0 hx _ _ h.range Tryz.underlying37 rfl (by kernel_rfl) (hK _ _ k)

/-! ## Counts in the row turned -/
theorem wav_take (l : List Int) (i : Nat) : (wavL l).take i = ((turnL l).take i).map (· + 1) := by unfold wavL; rw [List.map_take]
theorem wav_lt (l : List Int) (c : Int) (hc : 0 ≤ c) : ltN (wavL l) (c + 1).toNat = (turnL l).countP fun x => decide (x < c) := by
  unfold ltN wavL
  rw [countP_map']
  refine List.countP_congr fun x _ => ?_
  simp only [decide_eq_true_eq]
  omega
theorem wav_eq (l : List Int) (c : Int) (hc : 0 ≤ c) (i : Nat) : eqN ((wavL l).take i) (c + 1).toNat = ((turnL l).take i).countP fun x => decide (x = c) := by
  rw [wav_take]
  unfold eqN
  rw [countP_map']
  refine List.countP_congr fun x _ => ?_
  simp only [decide_eq_true_eq]
  omega
theorem lo_at (n i : Nat) (h : i ≤ n) : lo n (i : Int) = i := by unfold lo; omega
theorem hi_at (n f t : Nat) (h : f ≤ t) (ht : t ≤ n) : hi n (f : Int) (t : Int) = t := by unfold hi lo; omega
theorem bel_cnt (h : FMI w F l size) (c : Int) (hc : 0 ≤ c) (hs : c < size) (i : Nat) (hi : i ≤ F.N) : belN (wavL l) F.Z (c + 1) (F.N : Int) + cntN (wavL l) F.Z (c + 1) 0 (i : Int) = lfN l c i := by
  have hN := h.N
  have hZ := h.Z
  have hll := wavL_len l
  unfold belN cntN lfN
  rw [if_neg (by omega), if_neg (by omega), if_pos (by unfold hasB; rw [decide_eq_true_eq]; omega), lo_at _ _ (by omega), hi_zero, lo_at _ i (by omega), show lo (wavL l).length 0 = 0 by unfold lo; omega, rng_zero, rng_zero, wav_eq l c hc, List.take_of_length_le (by omega), wav_lt l c hc]
theorem cnt_more (h : FMI w F l size) (c : Int) (hc : 0 ≤ c) (hs : c < size) (f t : Nat) (hft : f ≤ t) (ht : t ≤ F.N) : lfN l c f + cntN (wavL l) F.Z (c + 1) (f : Int) (t : Int) = lfN l c t := by
  have hN := h.N
  have hZ := h.Z
  have hll := wavL_len l
  unfold cntN lfN
  rw [if_pos (by unfold hasB; rw [decide_eq_true_eq]; omega), lo_at _ _ (by omega), hi_at _ _ _ hft (by omega), ← wav_eq l c hc, ← wav_eq l c hc]
  have e : (wavL l).take t = (wavL l).take f ++ rng (wavL l) f t := by
    unfold rng
    conv => lhs; rw [← List.take_append_drop f ((wavL l).take t)]
    rw [List.take_take, Nat.min_eq_left hft]
  rw [e]
  unfold eqN
  rw [List.countP_append]
  omega
theorem lfN_le (l : List Int) (c : Int) (i : Nat) : lfN l c i ≤ l.length + 1 := by
  have h1 : ∀ xs : List Int, xs.countP (fun x => decide (x < c)) + xs.countP (fun x => decide (x = c)) ≤ xs.length := by
    intro xs
    induction xs with
    | nil => simp
    | cons x xs ih =>
      rw [List.countP_cons, List.countP_cons, List.length_cons]
      by_cases e : x < c
      · rw [if_pos (by simpa using e), if_neg (by simp; omega)]; omega
      · rw [if_neg (by simpa using e)]
        split <;> omega
  have h2 := h1 (turnL l)
  rw [turnL_len] at h2
  have h3 : ((turnL l).take i).countP (fun x => decide (x = c)) ≤ (turnL l).countP (fun x => decide (x = c)) := (List.take_sublist i _).countP_le
  unfold lfN
  omega

/-! ## The wave's contracts -/
theorem wlen_mx (h : MX w b F l size u) : Calls Tryz.prog 58 #[.agg #[.int .i64 (F.N : Int), .int .i64 F.Z, .slice F.wa F.wW F.wc]] u fun e u' => e = .returned (.int .i64 (F.N : Int)) ∧ MX w b F l size u' :=
  (wlen_any (F.N : Int) F.Z (.slice F.wa F.wW F.wc) u).mono fun _ _ hh => ⟨hh.1, h.kept hh.2⟩
theorem wsize_mx (h : MX w b F l size u) : Calls Tryz.prog 44 #[.agg #[.int .i64 (F.N : Int), .int .i64 F.Z, .slice F.wa F.wW F.wc]] u fun e u' => e = .returned (.int .i64 F.Z) ∧ MX w b F l size u' :=
  (wsize_any (F.N : Int) F.Z (.slice F.wa F.wW F.wc) u).mono fun _ _ hh => ⟨hh.1, h.kept hh.2⟩
theorem FMI.wl (h : FMI w F l size) : (F.N : Int) = ((wavL l).length : Int) := by rw [wavL_len, h.N]
theorem cnt_mx (c f t : Int) (h : MX w b F l size u) : Calls Tryz.prog 82 #[.agg #[.int .i64 (F.N : Int), .int .i64 F.Z, .slice F.wa F.wW F.wc], .int .i64 c, .int .i64 f, .int .i64 t] u fun e u' => e = .returned (.int .i64 (cntN (wavL l) F.Z c f t : Nat)) ∧ MX w b F l size u' := by
  have := wcount_any (wavL l) F.wW F.wa F.wc F.Z c f t u h.fm.wx h.fm.pw
  rw [← h.fm.wl] at this
  exact this.mono fun _ _ hh => ⟨hh.1, h.kept hh.2⟩
theorem rk_mx (c i : Int) (h : MX w b F l size u) : Calls Tryz.prog 61 #[.agg #[.int .i64 (F.N : Int), .int .i64 F.Z, .slice F.wa F.wW F.wc], .int .i64 c, .int .i64 i] u fun e u' => e = .returned (.int .i64 (cntN (wavL l) F.Z c 0 i : Nat)) ∧ MX w b F l size u' := by
  have := wrk_any (wavL l) F.wW F.wa F.wc F.Z c i u h.fm.wx h.fm.pw
  rw [← h.fm.wl] at this
  exact this.mono fun _ _ hh => ⟨hh.1, h.kept hh.2⟩
theorem bel_mx (c i : Int) (h : MX w b F l size u) : Calls Tryz.prog 60 #[.agg #[.int .i64 (F.N : Int), .int .i64 F.Z, .slice F.wa F.wW F.wc], .int .i64 c, .int .i64 i] u fun e u' => e = .returned (.int .i64 (belN (wavL l) F.Z c i : Nat)) ∧ MX w b F l size u' := by
  have := wbel_any (wavL l) F.wW F.wa F.wc F.Z c i u h.fm.wx h.fm.pw
  rw [← h.fm.wl] at this
  exact this.mono fun _ _ hh => ⟨hh.1, h.kept hh.2⟩
theorem at_mx (j : Nat) (hj : j ≤ l.length) (h : MX w b F l size u) : Calls Tryz.prog 43 #[.agg #[.int .i64 (F.N : Int), .int .i64 F.Z, .slice F.wa F.wW F.wc], .int .i64 (j : Int)] u fun e u' => e = .returned (.int .i64 ((turnL l).getD j 0 + 1)) ∧ MX w b F l size u' := by
  have hW : WL u u.heap.size F.N (wavL l) F.wW F.wa F.wc F.Z (u.alloc (.cells #[.int .i64 (F.N : Int), .int .i64 F.Z, .slice F.wa F.wW F.wc] 28)) := ⟨WBx.new u _ _ _, h.fm.wx.kept (wbel u _ _ _), by rw [wavL_len, h.fm.N], h.fm.pw, by rw [h.fm.Z]; exact wav_in h.fm.sy, wbel u _ _ _⟩
  have hB := wbel u (.int .i64 (F.N : Int)) (.int .i64 F.Z) (.slice F.wa F.wW F.wc)
  have h2 := get_wl j (by rw [h.fm.N]; omega) hW
  rw [wav_at l hj] at h2
  have HG := Lib.hid (And.intro h2 hB)
  have HH := Lib.hid h
  clear h hW hB h2
  generalize (turnL l).getD j 0 + 1 = x at *
  go_enter Tryz.func43, Tryz.ntmps43
  go_wp2_with fail
  refine HG.out.1.mono ?_
  rintro e u1 ⟨rfl, -, hb⟩
  have HB1 := Lib.hid (HH.out.kept (HG.out.2.trans (hb.mono HG.out.2.size)))
  clear hb
  go_wp2
  go_ret
  exact ⟨rfl, HB1.out⟩

/-! ## Len, Size -/
theorem flen_any (h : FMI u F l size) : Calls Tryz.prog 36 #[.agg #[.int .i64 (F.N : Int), .int .i64 F.Z, .slice F.wa F.wW F.wc, .int .i64 (F.R.n : Int), .slice F.R.a F.R.m F.R.c, .int .i64 (F.R.cn : Int), .int .i64 (F.R.cW : Int), .int .i64 (F.R.cL : Int), .slice F.R.a2 F.R.m2 F.R.c2, .int .i64 (F.S.n : Int), .int .i64 (F.S.W : Int), .int .i64 (F.S.L : Int), .slice F.S.a F.S.m F.S.c, .int .i64 (F.P.n : Int), .int .i64 (F.P.W : Int), .int .i64 (F.P.L : Int), .slice F.P.a F.P.m F.P.c]] u fun e u' => e = .returned (.int .i64 (l.length : Int)) ∧ Below u.heap.size u u' := by
  have hA := MX.new h
  have hN := h.N
  have hl := h.len
  have HA := Lib.hid hA
  obtain ⟨x0, x1, x2, -⟩ := hA.box.cells
  generalize l.length = n at *
  clear hA h
  have q1 : IntKind.i64.wrap ((F.N : Int) - 1) = (n : Int) := by rw [show (F.N : Int) - 1 = (n : Int) by omega]; exact IntWalk.i64_in _ (by omega)
  have q2 : ¬ (n : Int) < 0 := by omega
  clear hN
  go_enter Tryz.func36, Tryz.ntmps36
  go_wp2_with fail
  refine (wlen_mx HA.out).mono ?_
  clear x0 x1 x2
  rintro e u1 ⟨rfl, hA⟩
  have HB := Lib.hid hA.bel
  clear hA
  go_wp2
  go_ret
  exact ⟨ret_int (by omega), HB.out⟩

theorem fsize_any (h : FMI u F l size) : Calls Tryz.prog 24 #[.agg #[.int .i64 (F.N : Int), .int .i64 F.Z, .slice F.wa F.wW F.wc, .int .i64 (F.R.n : Int), .slice F.R.a F.R.m F.R.c, .int .i64 (F.R.cn : Int), .int .i64 (F.R.cW : Int), .int .i64 (F.R.cL : Int), .slice F.R.a2 F.R.m2 F.R.c2, .int .i64 (F.S.n : Int), .int .i64 (F.S.W : Int), .int .i64 (F.S.L : Int), .slice F.S.a F.S.m F.S.c, .int .i64 (F.P.n : Int), .int .i64 (F.P.W : Int), .int .i64 (F.P.L : Int), .slice F.P.a F.P.m F.P.c]] u fun e u' => e = .returned (.int .i64 (size : Int)) ∧ Below u.heap.size u u' := by
  have hA := MX.new h
  have hZ := h.Z
  have hf := h.few
  have HA := Lib.hid hA
  obtain ⟨x0, x1, x2, -⟩ := hA.box.cells
  clear hA h
  have q1 : IntKind.i64.wrap (F.Z - 1) = (size : Int) := by rw [show F.Z - 1 = (size : Int) by omega]; exact IntWalk.i64_in _ (by omega)
  have q2 : ¬ (size : Int) < 0 := by omega
  clear hZ
  go_enter Tryz.func24, Tryz.ntmps24
  go_wp2_with fail
  refine (wsize_mx HA.out).mono ?_
  clear x0 x1 x2
  rintro e u1 ⟨rfl, hA⟩
  have HB := Lib.hid hA.bel
  clear hA
  go_wp2
  go_ret
  exact ⟨ret_int (by omega), HB.out⟩

/-! ## border, ahead -/
theorem border_low (h : FMI u F l size) (c : Int) (hc : c < 0) : Calls Tryz.prog 87 #[.agg #[.int .i64 (F.N : Int), .int .i64 F.Z, .slice F.wa F.wW F.wc, .int .i64 (F.R.n : Int), .slice F.R.a F.R.m F.R.c, .int .i64 (F.R.cn : Int), .int .i64 (F.R.cW : Int), .int .i64 (F.R.cL : Int), .slice F.R.a2 F.R.m2 F.R.c2, .int .i64 (F.S.n : Int), .int .i64 (F.S.W : Int), .int .i64 (F.S.L : Int), .slice F.S.a F.S.m F.S.c, .int .i64 (F.P.n : Int), .int .i64 (F.P.W : Int), .int .i64 (F.P.L : Int), .slice F.P.a F.P.m F.P.c], .int .i64 c] u fun e u' => e = .returned (.int .i64 1) ∧ Below u.heap.size u u' := by
  have hA := MX.new h
  have hN := h.N
  have HA := Lib.hid hA
  obtain ⟨x0, x1, x2, -⟩ := hA.box.cells
  clear hA h
  have q2 : ¬ (F.N : Int) < 1 := by omega
  clear hN
  go_enter Tryz.func87, Tryz.ntmps87
  go_wp2_with fail
  refine (wlen_mx HA.out).mono ?_
  clear x0 x1 x2
  rintro e u1 ⟨rfl, hA⟩
  have HB := Lib.hid hA.bel
  clear hA
  go_wp2
  go_ret
  exact ⟨ret_int (by omega), HB.out⟩
theorem border_high (h : FMI u F l size) (c : Int) (hc : ¬ c < 0) : Calls Tryz.prog 87 #[.agg #[.int .i64 (F.N : Int), .int .i64 F.Z, .slice F.wa F.wW F.wc, .int .i64 (F.R.n : Int), .slice F.R.a F.R.m F.R.c, .int .i64 (F.R.cn : Int), .int .i64 (F.R.cW : Int), .int .i64 (F.R.cL : Int), .slice F.R.a2 F.R.m2 F.R.c2, .int .i64 (F.S.n : Int), .int .i64 (F.S.W : Int), .int .i64 (F.S.L : Int), .slice F.S.a F.S.m F.S.c, .int .i64 (F.P.n : Int), .int .i64 (F.P.W : Int), .int .i64 (F.P.L : Int), .slice F.P.a F.P.m F.P.c], .int .i64 c] u fun e u' => e = .returned (.int .i64 (F.N : Int)) ∧ Below u.heap.size u u' := by
  have hA := MX.new h
  have HA := Lib.hid hA
  obtain ⟨x0, x1, x2, -⟩ := hA.box.cells
  clear hA h
  go_enter Tryz.func87, Tryz.ntmps87
  go_wp2_with fail
  refine (wlen_mx HA.out).mono ?_
  clear x0 x1 x2
  rintro e u1 ⟨rfl, hA⟩
  have HB := Lib.hid hA.bel
  clear hA
  go_wp2
  go_ret
  exact ⟨rfl, HB.out⟩

set_option maxHeartbeats 2000000 in
theorem ahead_any (h : FMI u F l size) (c d : Int) (hd : d = c + 1) (hc : 0 ≤ c) (hs : c < size) (i : Nat) (hi : i ≤ F.N) : Calls Tryz.prog 42 #[.agg #[.int .i64 (F.N : Int), .int .i64 F.Z, .slice F.wa F.wW F.wc, .int .i64 (F.R.n : Int), .slice F.R.a F.R.m F.R.c, .int .i64 (F.R.cn : Int), .int .i64 (F.R.cW : Int), .int .i64 (F.R.cL : Int), .slice F.R.a2 F.R.m2 F.R.c2, .int .i64 (F.S.n : Int), .int .i64 (F.S.W : Int), .int .i64 (F.S.L : Int), .slice F.S.a F.S.m F.S.c, .int .i64 (F.P.n : Int), .int .i64 (F.P.W : Int), .int .i64 (F.P.L : Int), .slice F.P.a F.P.m F.P.c], .int .i64 d, .int .i64 (i : Int)] u fun e u' => e = .returned (.int .i64 (lfN l c i : Nat)) ∧ Below u.heap.size u u' := by
  have hA := MX.new h
  have hsum := bel_cnt h c hc hs i hi
  rw [← hd] at hsum
  have hle := lfN_le l c i
  have hl := h.len
  have h1 := fun u' (hu : MX u u.heap.size F l size u') => bel_mx d (F.N : Int) hu
  have h2 := fun u' (hu : MX u u.heap.size F l size u') => rk_mx d (i : Int) hu
  obtain ⟨x, hx⟩ : ∃ x, belN (wavL l) F.Z d (F.N : Int) = x := ⟨_, rfl⟩
  obtain ⟨y, hy⟩ : ∃ y, cntN (wavL l) F.Z d 0 (i : Int) = y := ⟨_, rfl⟩
  obtain ⟨z, hz⟩ : ∃ z, lfN l c i = z := ⟨_, rfl⟩
  rw [hx, hy, hz] at hsum
  rw [hx] at h1
  rw [hy] at h2
  rw [hz] at hle ⊢
  have q1 : IntKind.i64.wrap ((x : Int) + (y : Int)) = (z : Int) := by rw [show (x : Int) + (y : Int) = (z : Int) by omega]; exact IntWalk.i64_in _ (by omega)
  have H1 := Lib.hid h1
  have H2 := Lib.hid h2
  clear h hsum hle hl h1 h2 hx hy hz hc hs hi hd
  go_enter Tryz.func42, Tryz.ntmps42
  go_wp2
  generalize u.alloc (.cells #[.int .i64 (F.N : Int), .int .i64 F.Z, .slice F.wa F.wW F.wc, .int .i64 (F.R.n : Int), .slice F.R.a F.R.m F.R.c, .int .i64 (F.R.cn : Int), .int .i64 (F.R.cW : Int), .int .i64 (F.R.cL : Int), .slice F.R.a2 F.R.m2 F.R.c2, .int .i64 (F.S.n : Int), .int .i64 (F.S.W : Int), .int .i64 (F.S.L : Int), .slice F.S.a F.S.m F.S.c, .int .i64 (F.P.n : Int), .int .i64 (F.P.W : Int), .int .i64 (F.P.L : Int), .slice F.P.a F.P.m F.P.c] 37) = w1 at *
  obtain ⟨bx, hbx⟩ : ∃ bx, u.heap.size = bx := ⟨_, rfl⟩
  rw [hbx] at hA H1 H2
  simp only [hbx]
  obtain ⟨x0, x1, x2, -⟩ := hA.box.cells
  go_region_held3 (fun w' => w'.cell? ⟨bx, 0, none⟩ = some (.int .i64 (F.N : Int)) ∧ w'.cell? ⟨bx, 1, none⟩ = some (.int .i64 F.Z) ∧ w'.cell? ⟨bx, 2, none⟩ = some (.slice F.wa F.wW F.wc))
    (first
      | go_keep
      | exact ⟨hA.box.c0, hA.box.c1, hA.box.c2⟩)
    (first
      | (go_at_call 58; (with_reducible refine (wlen_mx hA).mono ?_); rintro e u ⟨rfl, hA⟩)
      | (go_at_call 58; (with_reducible refine (wlen_mx hA.drew).mono ?_); rintro e u ⟨rfl, hA⟩)
      | (go_at_call 60; (with_reducible refine (H1.out _ hA).mono ?_); rintro e u ⟨rfl, hA⟩)
      | (go_at_call 60; (with_reducible refine (H1.out _ hA.drew).mono ?_); rintro e u ⟨rfl, hA⟩)
      | (go_at_call 61; (with_reducible refine (H2.out _ hA).mono ?_); rintro e u ⟨rfl, hA⟩)
      | (go_at_call 61; (with_reducible refine (H2.out _ hA.drew).mono ?_); rintro e u ⟨rfl, hA⟩))
  all_goals
    have HB := Lib.hid hA.bel
    clear hA
    go_wp2
    go_ret
    exact ⟨ret_int (by omega), HB.out⟩

end Go.Proofs.YtpnjccomngdblaaGreat
