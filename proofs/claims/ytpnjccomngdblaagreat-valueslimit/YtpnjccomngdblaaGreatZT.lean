/- The calls on a boxed one; the chapter's examples: the contract of awake. -/
import Derived.Test.YtpnjccomngdblaaGreatZR
import Derived.Test.YtpnjccomngdblaaGreatZM
import Derived.Test.YtpnjccomngdblaaGreatZP
set_option maxRecDepth 100000
namespace Go.Proofs.YtpnjccomngdblaaGreat
open Go.RowKit
open M
attribute [local go_sem ↓] Go.wp_at_zero Go.wp_at_succ

variable {w u : World} {b : Nat} {F : FQ} {l : List Int} {size : Nat}

theorem marked_said : MarkedSaid := fun A n c l w h1 h2 h3 h4 h5 => marked_any A n c l w h1 h2 h3 h4 h5
theorem find_mx (h : MX w b F l size u) (A : Option Addr) (np cp : Nat) (p : List Int) (hP : NumsAt .i64 u A p) (hp : p.length = np) (hnp : np ≤ 1000000) :
    Calls Tryz.prog 46 #[.agg #[.int .i64 (F.N : Int), .int .i64 F.Z, .slice F.wa F.wW F.wc, .int .i64 (F.R.n : Int), .slice F.R.a F.R.m F.R.c, .int .i64 (F.R.cn : Int), .int .i64 (F.R.cW : Int), .int .i64 (F.R.cL : Int), .slice F.R.a2 F.R.m2 F.R.c2, .int .i64 (F.S.n : Int), .int .i64 (F.S.W : Int), .int .i64 (F.S.L : Int), .slice F.S.a F.S.m F.S.c, .int .i64 (F.P.n : Int), .int .i64 (F.P.W : Int), .int .i64 (F.P.L : Int), .slice F.P.a F.P.m F.P.c], .slice A np cp] u fun e u' => ∃ B c, e = .returned (.slice B (fndL l p).length c) ∧ NumsAt .i64 u' B (fndL l p) ∧ Below u.heap.size u u' ∧ MX w b F l size u' :=
  (find_any h.fm A np cp p hP hp hnp).mono fun _ _ ⟨B, c, h1, h2, h3⟩ => ⟨B, c, h1, h2, h3, h.kept h3⟩
theorem extract_mx (h : MX w b F l size u) (i m : Int) (hm : m ≤ 9223372036854775807) (hm2 : -9223372036854775808 ≤ m) : Calls Tryz.prog 20 #[.agg #[.int .i64 (F.N : Int), .int .i64 F.Z, .slice F.wa F.wW F.wc, .int .i64 (F.R.n : Int), .slice F.R.a F.R.m F.R.c, .int .i64 (F.R.cn : Int), .int .i64 (F.R.cW : Int), .int .i64 (F.R.cL : Int), .slice F.R.a2 F.R.m2 F.R.c2, .int .i64 (F.S.n : Int), .int .i64 (F.S.W : Int), .int .i64 (F.S.L : Int), .slice F.S.a F.S.m F.S.c, .int .i64 (F.P.n : Int), .int .i64 (F.P.W : Int), .int .i64 (F.P.L : Int), .slice F.P.a F.P.m F.P.c], .int .i64 i, .int .i64 m] u fun e u' =>
    ∃ D, e = .returned (.slice (some ⟨D, 0, none⟩) (exL l i m).length (exL l i m).length) ∧ NumsAt .i64 u' (some ⟨D, 0, none⟩) (exL l i m) ∧ Below u.heap.size u u' ∧ MX w b F l size u' :=
  (extract_any h.fm i m hm hm2).mono fun _ _ ⟨D, h1, h2, h3⟩ => ⟨D, h1, h2, h3, h.kept h3⟩
theorem count_mx (h : MX w b F l size u) (A : Option Addr) (np cp : Nat) (p : List Int) (hP : NumsAt .i64 u A p) (hp : p.length = np) (hnp : np ≤ 1000000) :
    Calls Tryz.prog 50 #[.agg #[.int .i64 (F.N : Int), .int .i64 F.Z, .slice F.wa F.wW F.wc, .int .i64 (F.R.n : Int), .slice F.R.a F.R.m F.R.c, .int .i64 (F.R.cn : Int), .int .i64 (F.R.cW : Int), .int .i64 (F.R.cL : Int), .slice F.R.a2 F.R.m2 F.R.c2, .int .i64 (F.S.n : Int), .int .i64 (F.S.W : Int), .int .i64 (F.S.L : Int), .slice F.S.a F.S.m F.S.c, .int .i64 (F.P.n : Int), .int .i64 (F.P.W : Int), .int .i64 (F.P.L : Int), .slice F.P.a F.P.m F.P.c], .slice A np cp] u fun e u' => e = .returned (.int .i64 ((fndL l p).length : Nat)) ∧ Below u.heap.size u u' ∧ MX w b F l size u' :=
  (count_any h.fm A np cp p hP hp hnp).mono fun _ _ ⟨h1, h3⟩ => ⟨by rw [h1, fndL_len h.fm.i64 h.fm.nn], h3, h.kept h3⟩
theorem range_mx (h : MX w b F l size u) (A : Option Addr) (np cp : Nat) (p : List Int) (hP : NumsAt .i64 u A p) (hp : p.length = np) (hnp : np ≤ 1000000) :
    Calls Tryz.prog 63 #[.agg #[.int .i64 (F.N : Int), .int .i64 F.Z, .slice F.wa F.wW F.wc, .int .i64 (F.R.n : Int), .slice F.R.a F.R.m F.R.c, .int .i64 (F.R.cn : Int), .int .i64 (F.R.cW : Int), .int .i64 (F.R.cL : Int), .slice F.R.a2 F.R.m2 F.R.c2, .int .i64 (F.S.n : Int), .int .i64 (F.S.W : Int), .int .i64 (F.S.L : Int), .slice F.S.a F.S.m F.S.c, .int .i64 (F.P.n : Int), .int .i64 (F.P.W : Int), .int .i64 (F.P.L : Int), .slice F.P.a F.P.m F.P.c], .slice A np cp] u fun e u' => e = .returned (.tuple #[.int .i64 (frN l false p : Nat), .int .i64 (frN l true p : Nat)]) ∧ Below u.heap.size u u' ∧ MX w b F l size u' :=
  (range_any h.fm A np cp p hP hp hnp).mono fun _ _ ⟨h1, h3⟩ => ⟨h1, h3, h.kept h3⟩
theorem MX.boxed (h : FMI u F l size) (hb : Below w.heap.size w u) : MX w u.heap.size F l size (u.alloc (.cells #[.int .i64 (F.N : Int), .int .i64 F.Z, .slice F.wa F.wW F.wc, .int .i64 (F.R.n : Int), .slice F.R.a F.R.m F.R.c, .int .i64 (F.R.cn : Int), .int .i64 (F.R.cW : Int), .int .i64 (F.R.cL : Int), .slice F.R.a2 F.R.m2 F.R.c2, .int .i64 (F.S.n : Int), .int .i64 (F.S.W : Int), .int .i64 (F.S.L : Int), .slice F.S.a F.S.m F.S.c, .int .i64 (F.P.n : Int), .int .i64 (F.P.W : Int), .int .i64 (F.P.L : Int), .slice F.P.a F.P.m F.P.c] 37)) := ⟨MBx.new u F, h.kept (mbel u F), hb.alloc hb.size _⟩

def A6 : List Int := [2, 1, 3, 1, 3, 1]
theorem a6_sy : ∀ x ∈ A6, 0 ≤ x ∧ x < ((4 : Nat) : Int) := by decide
theorem a6_find : fndL A6 [1, 3] = [1, 3] := by decide
theorem a6_ext : exL A6 1 3 = [1, 3, 1] := by decide

end Go.Proofs.YtpnjccomngdblaaGreat
