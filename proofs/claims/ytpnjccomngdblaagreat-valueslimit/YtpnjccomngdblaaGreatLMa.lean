/- The contract of New: texts that are too long. -/
import Derived.Test.YtpnjccomngdblaaGreatLLa
set_option maxRecDepth 100000
namespace Go.Proofs.YtpnjccomngdblaaGreat
open Go.RowKit
open M
attribute [local go_sem ↓] Go.wp_at_zero Go.wp_at_succ

variable {w u w' : World} {b c : Nat} {F : FQ} {E : Option Addr} {ss : List ByteArray} {l : List Int} {s : Nat}
theorem load40z {n : Nat} {ops : Array Oper} {rest : List Oper} {op : Oper} {a : Act} {Q : Exit → Act → World → Prop} (h : u.rangeAt b 0 [.int .i64 (F.N : Int), .int .i64 F.Z, .slice F.wa F.wW F.wc, .int .i64 (F.R.n : Int), .slice F.R.a F.R.m F.R.c, .int .i64 (F.R.cn : Int), .int .i64 (F.R.cW : Int), .int .i64 (F.R.cL : Int), .slice F.R.a2 F.R.m2 F.R.c2, .int .i64 (F.S.n : Int), .int .i64 (F.S.W : Int), .int .i64 (F.S.L : Int), .slice F.S.a F.S.m F.S.c, .int .i64 (F.P.n : Int), .int .i64 (F.P.W : Int), .int .i64 (F.P.L : Int), .slice F.P.a F.P.m F.P.c, .slice E n c]) (x : Operand) (ho : op.op = .load 40 x) (hw : Region.wanted op (yielded ops a.tmps) = true)
    (hx : a.eval x = .pointer (some ⟨b, 0, none⟩)) (k : wpList Tryz.prog ops Q rest (a.put op.dst (.agg #[.int .i64 (F.N : Int), .int .i64 F.Z, .slice F.wa F.wW F.wc, .int .i64 (F.R.n : Int), .slice F.R.a F.R.m F.R.c, .int .i64 (F.R.cn : Int), .int .i64 (F.R.cW : Int), .int .i64 (F.R.cL : Int), .slice F.R.a2 F.R.m2 F.R.c2, .int .i64 (F.S.n : Int), .int .i64 (F.S.W : Int), .int .i64 (F.S.L : Int), .slice F.S.a F.S.m F.S.c, .int .i64 (F.P.n : Int), .int .i64 (F.P.W : Int), .int .i64 (F.P.L : Int), .slice F.P.a F.P.m F.P.c, .slice E n c])) u) : wpList Tryz.prog ops Q (op :: rest) a u :=
  wpList_step fun K hK => by
    rw [if_pos hw]
    exact wp_load_mid 40 x ho b 0 hx _ _ h Tryz.underlying40 rfl (by kernel_rfl) (hK _ _ k)
theorem kept_no (A : Option Addr) (c : Nat) (ss : List ByteArray) (w : World) (hA : StrsAt w A ss) (hl : ss.length = 2) (hs : 1048574 < (tV ss 0).size) :
    Calls Tryz.prog 34 #[.slice A 2 c] w fun e u => e = .returned (.bool false) ∧ u = w := by
  obtain ⟨bb, off, hAe, hbl, hcs⟩ := str_all hA (by omega)
  have hc := hcs 0 (by omega) w (Below.refl _ _)
  obtain ⟨t, ht⟩ : ∃ t, tV ss 0 = t := ⟨_, rfl⟩
  rw [ht] at hc hs
  rw [Nat.add_zero] at hc
  subst hAe
  clear hcs hA hl ht
  go_enter Tryz.func34, Tryz.ntmps34
  go_wp2
  go_loopw [3, 5, 11] (fun v3 _ v11 wr => v11 = .int .i64 0 ∧ v3 = .int .i64 1048574 ∧ wr = w) (fun _ _ _ _ => 0)
  case atStart => exact ⟨rfl, rfl, rfl⟩
  case round =>
    obtain ⟨rfl, rfl, rfl⟩ := hrel
    have q3 : (1048574 : Int) < (t.size : Int) := by omega
    go_wp2
    go_ret
    exact ⟨rfl, rfl⟩
set_option maxHeartbeats 4000000 in
theorem vnew_no (A : Option Addr) (c : Nat) (ss : List ByteArray) (w : World) (hA : StrsAt w A ss) (hl : ss.length = 2) (hs : 1048574 < (tV ss 0).size) :
    Calls Tryz.prog 12 #[.slice A 2 c] w fun e u => e = .returned (.tuple #[.agg #[.int .i64 0, .int .i64 0, .slice none 0 0, .int .i64 0, .slice none 0 0, .int .i64 0, .int .i64 0, .int .i64 0, .slice none 0 0, .int .i64 0, .int .i64 0, .int .i64 0, .slice none 0 0, .int .i64 0, .int .i64 0, .int .i64 0, .slice none 0 0, .slice none 0 0], .int .i64 18]) ∧ Below w.heap.size w u := by
  obtain ⟨w1, hw1⟩ : ∃ w1, w1 = w.alloc (.cells #[.int .i64 0, .int .i64 0, .slice none 0 0, .int .i64 0, .slice none 0 0, .int .i64 0, .int .i64 0, .int .i64 0, .slice none 0 0, .int .i64 0, .int .i64 0, .int .i64 0, .slice none 0 0, .int .i64 0, .int .i64 0, .int .i64 0, .slice none 0 0, .slice none 0 0] 40) := ⟨_, rfl⟩
  have b1 : Below w.heap.size w w1 := by rw [hw1]; exact al w _
  have th1 : w1.there w.heap.size 0 18 := by rw [hw1]; exact there18 w
  have hkp := kept_no A c ss w1 (hA.kept b1) hl hs
  have HX := Lib.hid hkp
  have H1 := Lib.hid (And.intro b1 th1)
  clear hkp hA b1 th1 hl hs
  go_enter Tryz.func12, Tryz.ntmps12
  go_upto_region 1 with fail
  rw [← hw1]
  clear hw1
  obtain ⟨r, hr⟩ : ∃ r, w.heap.size = r := ⟨_, rfl⟩
  rw [hr] at H1
  simp only [hr]
  go_wp2_with fail
  (with_reducible refine HX.out.mono ?_)
  rintro e u ⟨rfl, rfl⟩
  obtain ⟨w1, rfl⟩ : ∃ w1, w1 = u := ⟨_, rfl⟩
  go_wp2_with (refine store40 (op := ⟨none, .store 40 (.tmp 2) (.tmp 13), _, _, _, _⟩) FQZ none 0 0 r (.tmp 2) (.tmp 13) rfl rfl rfl rfl H1.out.2 ?_)
  have hrange := World.rangeAt_setCells_same w1 r 0 [.int .i64 (FQZ.N : Int), .int .i64 FQZ.Z, .slice FQZ.wa FQZ.wW FQZ.wc, .int .i64 (FQZ.R.n : Int), .slice FQZ.R.a FQZ.R.m FQZ.R.c, .int .i64 (FQZ.R.cn : Int), .int .i64 (FQZ.R.cW : Int), .int .i64 (FQZ.R.cL : Int), .slice FQZ.R.a2 FQZ.R.m2 FQZ.R.c2, .int .i64 (FQZ.S.n : Int), .int .i64 (FQZ.S.W : Int), .int .i64 (FQZ.S.L : Int), .slice FQZ.S.a FQZ.S.m FQZ.S.c, .int .i64 (FQZ.P.n : Int), .int .i64 (FQZ.P.W : Int), .int .i64 (FQZ.P.L : Int), .slice FQZ.P.a FQZ.P.m FQZ.P.c, .slice none 0 0] H1.out.2
  have hb8 : Below r w (w1.setCells r 0 [.int .i64 (FQZ.N : Int), .int .i64 FQZ.Z, .slice FQZ.wa FQZ.wW FQZ.wc, .int .i64 (FQZ.R.n : Int), .slice FQZ.R.a FQZ.R.m FQZ.R.c, .int .i64 (FQZ.R.cn : Int), .int .i64 (FQZ.R.cW : Int), .int .i64 (FQZ.R.cL : Int), .slice FQZ.R.a2 FQZ.R.m2 FQZ.R.c2, .int .i64 (FQZ.S.n : Int), .int .i64 (FQZ.S.W : Int), .int .i64 (FQZ.S.L : Int), .slice FQZ.S.a FQZ.S.m FQZ.S.c, .int .i64 (FQZ.P.n : Int), .int .i64 (FQZ.P.W : Int), .int .i64 (FQZ.P.L : Int), .slice FQZ.P.a FQZ.P.m FQZ.P.c, .slice none 0 0]) := Below.setCells' (Nat.le_refl _) _ 0 H1.out.1
  refine bodyPost_ret (v := .tuple #[.agg #[.int .i64 0, .int .i64 0, .slice none 0 0, .int .i64 0, .slice none 0 0, .int .i64 0, .int .i64 0, .int .i64 0, .slice none 0 0, .int .i64 0, .int .i64 0, .int .i64 0, .slice none 0 0, .int .i64 0, .int .i64 0, .int .i64 0, .slice none 0 0, .slice none 0 0], .int .i64 18]) (results_v2 (b := r) (F := FQZ) Tryz.results12 _ ?hp ?hq hrange) ?hd ?_
  case hp => rfl
  case hq => rfl
  case hd => rfl
  exact ⟨rfl, by rw [hr]; exact hb8⟩

end Go.Proofs.YtpnjccomngdblaaGreat
