/- What the laws of ranks share: the row that comes in, the list, its bits, its rank. -/
import Derived.Test.YtfhlcclbjagdmaaKL
import Derived.Lib.SmallJoins
namespace Go.Proofs.Ytfhlcclbjagdmaa
open Go.RowKit
open M

theorem cells25 : Try.prog.cellsOf 25 = 2 := by kernel_rfl

/-- A row that comes in. -/
theorem row_in {H : Type} {enc : TypeId × Value → H} {W : World} {r : Reach} {b0 : Nat} {v : Value} {x : DataW H} {pl : List MemPlace}
    (hv : Value.okWide Try.prog W r b0 25 v) (h : DataW.Trod enc Try.prog W 0 (fun _ => true) true 25 v x pl) :
    ∃ (A : Option Addr) (n c : Nat) (B : Option Addr) (m d : Nat) (bs : List Bool) (ts : List Int), v = .agg #[.slice A n c, .slice B m d] ∧ BoolsAt W A bs ∧ bs.length = n ∧ NumsAt .i64 W B ts ∧ ts.length = m := by
  obtain ⟨v0, v1, y0, y1, fuel, rfl, -, -, h0, h1⟩ := Go.Joins.open_agg2 Try.underlying25 (by kernel_rfl) cells25 hv h
  have e0 : ∃ A n c, v0 = .slice A n c := by
    rcases Deep.open_bools Try.underlying22 Try.underlying4 cells4 h0 with ⟨hcs, _⟩ | ⟨a, l, c, B, hcs, _⟩
    · simp at hcs; exact ⟨_, _, _, hcs⟩
    · simp at hcs; exact ⟨_, _, _, hcs⟩
  have e1 : ∃ A n c, v1 = .slice A n c := by
    rcases Go.ChangeShapes.open_ints Try.underlying23 Try.underlying3 cells3 h1 with ⟨hcs, _⟩ | ⟨a, l, c, B, hcs, _⟩
    · simp at hcs; exact ⟨_, _, _, hcs⟩
    · simp at hcs; exact ⟨_, _, _, hcs⟩
  obtain ⟨A, n, c, rfl⟩ := e0
  obtain ⟨B, m, d, rfl⟩ := e1
  obtain ⟨bs, hb1, -, -, hb2⟩ := bools_in (enc := enc) (W := W) (a0 := A) (len := n) (cap := c) (x := y0.1) (pl := y0.2) ⟨fuel, h0⟩
  obtain ⟨ts, ht1, -, -, ht2, -⟩ := nums_in2 (enc := enc) (W := W) (a0 := B) (len := m) (cap := d) (x := y1.1) (pl := y1.2) Try.underlying23 Try.underlying3 cells3 ⟨fuel, h1⟩
  exact ⟨A, n, c, B, m, d, bs, ts, rfl, hb2, hb1, ht2, ht1⟩

/-- The list l in memory, in a call that began at w. -/
structure LS (w : World) (a : Option Addr) (N cap : Nat) (l : List Bool) (u : World) : Prop where
  so : SliceOf u a N cap l
  len : l.length = N
  le : N ≤ 1500
  bel : Below w.heap.size w u

theorem LS.kept {w u u' : World} {a : Option Addr} {N cap : Nat} {l : List Bool} (h : LS w a N cap l u) (hb : Below u.heap.size u u') : LS w a N cap l u' :=
  ⟨h.so.kept hb, h.len, h.le, h.bel.trans (hb.mono h.bel.size)⟩
theorem LS.bools {w u : World} {a : Option Addr} {N cap : Nat} {l : List Bool} (h : LS w a N cap l u) : BoolsAt u a l := h.so.2.2.2.1

def LsEnd (w : World) (e : Ending) (u' : World) : Prop := ∃ (a : Option Addr) (N cap : Nat) (l : List Bool), e = .returned (.slice a N cap) ∧ LS w a N cap l u'

/-- What the first lines of a law do: awake, then list. -/
theorem list_ls {w u : World} (A : Option Addr) (n c : Nat) (B : Option Addr) (m d : Nat) (bs : List Bool) (ts : List Int) (hA : BoolsAt w A bs) (hbs : bs.length = n) (hB : NumsAt .i64 w B ts) (hts : ts.length = m) (hb : Below w.heap.size w u) :
    Calls Try.prog 10 #[.agg #[.slice A n c, .slice B m d]] u (LsEnd w) := by
  refine (list_any A n c B m d bs ts u (hA.kept hb) hbs (hB.kept hb) hts).mono ?_
  rintro e u' ⟨a, cap, l, rfl, hs, hl, hb2⟩
  exact ⟨a, l.length, cap, l, rfl, hs, rfl, hl, hb.trans (hb2.mono hb.size)⟩

def MkEnd (w : World) (a : Option Addr) (N cap : Nat) (l : List Bool) (e : Ending) (u' : World) : Prop :=
  ∃ g m, e = .returned (.agg #[.int .i64 (N : Int), .slice (some ⟨g, 0, none⟩) m m]) ∧ RowAt u' (.slice (some ⟨g, 0, none⟩) m m) l ∧ LS w a N cap l u'

theorem mk_ls {w u : World} {a : Option Addr} {N cap : Nat} {l : List Bool} (h : LS w a N cap l u) : Calls Try.prog 11 #[.slice a N cap] u (MkEnd w a N cap l) := by
  have hm := make_any a cap l u h.bools (by rw [h.len]; have := h.le; omega)
  rw [h.len] at hm
  refine hm.mono ?_
  rintro e u' ⟨rfl, hr, hb⟩
  exact ⟨_, _, rfl, hr, h.kept hb⟩

def NwEnd (w : World) (a : Option Addr) (N cap : Nat) (l : List Bool) (a2 : Option Addr) (m2 c2 : Nat) (e : Ending) (u' : World) : Prop :=
  ∃ R : RP, e = .returned (.agg #[.int .i64 (R.n : Int), .slice R.a R.m R.c, .int .i64 (R.cn : Int), .int .i64 (R.cW : Int), .int .i64 (R.cL : Int), .slice R.a2 R.m2 R.c2]) ∧ RK u' R l ∧ R.n = N ∧ R.a = a2 ∧ R.m = m2 ∧ R.c = c2 ∧ LS w a N cap l u'

theorem new_ls {w u : World} {a : Option Addr} {N cap : Nat} {l : List Bool} {a2 : Option Addr} {m2 c2 : Nat} (h : LS w a N cap l u) (hr : RowAt u (.slice a2 m2 c2) l) :
    Calls Try.prog 12 #[.agg #[.int .i64 (N : Int), .slice a2 m2 c2]] u (NwEnd w a N cap l a2 m2 c2) := by
  have hm := rnew_any a2 m2 c2 l u hr (by rw [h.len]; have := h.le; omega)
  rw [h.len] at hm
  refine hm.mono ?_
  rintro e u' ⟨R, rfl, hk, ⟨h1, h2, h3⟩, hb⟩
  exact ⟨R, rfl, hk, by rw [← hk.len]; exact h.len, h1, h2, h3, h.kept hb⟩

/-- The list, and its rank in a box at b. -/
structure LA (w : World) (b : Nat) (R : RP) (a : Option Addr) (N cap : Nat) (l : List Bool) (u : World) : Prop where
  box : RBx u b R
  rk : RK u R l
  nn : R.n = N
  ls : LS w a N cap l u

theorem LA.kept {w u u' : World} {b : Nat} {R : RP} {a : Option Addr} {N cap : Nat} {l : List Bool} (h : LA w b R a N cap l u) (hb : Below u.heap.size u u') : LA w b R a N cap l u' :=
  ⟨h.box.kept hb, h.rk.kept hb, h.nn, h.ls.kept hb⟩
theorem LA.drew {w u : World} {b : Nat} {R : RP} {a : Option Addr} {N cap : Nat} {l : List Bool} (h : LA w b R a N cap l u) : LA w b R a N cap l u.drew := h.kept ((Below.refl _ _).drew)
theorem LA.new {w u : World} {R : RP} {a : Option Addr} {N cap : Nat} {l : List Bool} (h : LS w a N cap l u) (hk : RK u R l) (hn : R.n = N) : LA w u.heap.size R a N cap l (u.alloc (.cells #[.int .i64 (R.n : Int), .slice R.a R.m R.c, .int .i64 (R.cn : Int), .int .i64 (R.cW : Int), .int .i64 (R.cL : Int), .slice R.a2 R.m2 R.c2] 35)) :=
  ⟨RBx.new u R, hk.kept (rbel u R), hn, h.kept (rbel u R)⟩

variable {w u : World} {b : Nat} {R : RP} {a : Option Addr} {N cap : Nat} {l : List Bool}

theorem len_la (h : LA w b R a N cap l u) : Calls Try.prog 13 #[.agg #[.int .i64 (R.n : Int), .slice R.a R.m R.c, .int .i64 (R.cn : Int), .int .i64 (R.cW : Int), .int .i64 (R.cL : Int), .slice R.a2 R.m2 R.c2]] u fun e u' => e = .returned (.int .i64 (N : Int)) ∧ LA w b R a N cap l u' :=
  (rlen_any R l u h.rk).mono fun _ _ hh => ⟨hh.1.trans (ret_int (by rw [h.nn])), h.kept hh.2⟩
theorem ones_la (h : LA w b R a N cap l u) : Calls Try.prog 14 #[.agg #[.int .i64 (R.n : Int), .slice R.a R.m R.c, .int .i64 (R.cn : Int), .int .i64 (R.cW : Int), .int .i64 (R.cL : Int), .slice R.a2 R.m2 R.c2]] u fun e u' => e = .returned (.int .i64 (rkN true l N : Nat)) ∧ LA w b R a N cap l u' :=
  (rones_any R l u h.rk).mono fun _ _ hh => ⟨hh.1.trans (ret_int (by rw [h.ls.len])), h.kept hh.2⟩
theorem rank1_la (i : Int) (h : LA w b R a N cap l u) : Calls Try.prog 16 #[.agg #[.int .i64 (R.n : Int), .slice R.a R.m R.c, .int .i64 (R.cn : Int), .int .i64 (R.cW : Int), .int .i64 (R.cL : Int), .slice R.a2 R.m2 R.c2], .int .i64 i] u fun e u' => e = .returned (.int .i64 (rk1 l i : Nat)) ∧ LA w b R a N cap l u' :=
  (rank1_any R l i u h.rk).mono fun _ _ hh => ⟨hh.1, h.kept hh.2⟩
theorem rank0_la (i : Int) (h : LA w b R a N cap l u) : Calls Try.prog 17 #[.agg #[.int .i64 (R.n : Int), .slice R.a R.m R.c, .int .i64 (R.cn : Int), .int .i64 (R.cW : Int), .int .i64 (R.cL : Int), .slice R.a2 R.m2 R.c2], .int .i64 i] u fun e u' => e = .returned (.int .i64 (rk0 l i : Nat)) ∧ LA w b R a N cap l u' :=
  (rank0_any R l i u h.rk).mono fun _ _ hh => ⟨hh.1, h.kept hh.2⟩
theorem one_la (i : Int) (h : LA w b R a N cap l u) : Calls Try.prog 18 #[.agg #[.int .i64 (R.n : Int), .slice R.a R.m R.c, .int .i64 (R.cn : Int), .int .i64 (R.cW : Int), .int .i64 (R.cL : Int), .slice R.a2 R.m2 R.c2], .int .i64 i] u fun e u' => e = .returned (.int .i64 (oneI l i)) ∧ LA w b R a N cap l u' :=
  (rone_any R l i u h.rk).mono fun _ _ hh => ⟨hh.1, h.kept hh.2⟩
theorem bits_la (h : LA w b R a N cap l u) : Calls Try.prog 19 #[.agg #[.int .i64 (R.n : Int), .slice R.a R.m R.c, .int .i64 (R.cn : Int), .int .i64 (R.cW : Int), .int .i64 (R.cL : Int), .slice R.a2 R.m2 R.c2]] u fun e u' => e = .returned (.agg #[.int .i64 (R.n : Int), .slice R.a R.m R.c]) ∧ LA w b R a N cap l u' :=
  (rbits_any R u).mono fun _ _ hh => ⟨hh.1, h.kept hh.2⟩
theorem sel1_la (k : Int) (h : LA w b R a N cap l u) : Calls Try.prog 22 #[.agg #[.int .i64 (R.n : Int), .slice R.a R.m R.c, .int .i64 (R.cn : Int), .int .i64 (R.cW : Int), .int .i64 (R.cL : Int), .slice R.a2 R.m2 R.c2], .int .i64 k] u fun e u' => e = .returned (.int .i64 (selN true l k)) ∧ LA w b R a N cap l u' :=
  (sel1_any R l k u h.rk).mono fun _ _ hh => ⟨hh.1, h.kept hh.2⟩
theorem sel0_la (k : Int) (h : LA w b R a N cap l u) : Calls Try.prog 23 #[.agg #[.int .i64 (R.n : Int), .slice R.a R.m R.c, .int .i64 (R.cn : Int), .int .i64 (R.cW : Int), .int .i64 (R.cL : Int), .slice R.a2 R.m2 R.c2], .int .i64 k] u fun e u' => e = .returned (.int .i64 (selN false l k)) ∧ LA w b R a N cap l u' :=
  (sel0_any R l k u h.rk).mono fun _ _ hh => ⟨hh.1, h.kept hh.2⟩
theorem next_la (i : Int) (h : LA w b R a N cap l u) : Calls Try.prog 24 #[.agg #[.int .i64 (R.n : Int), .slice R.a R.m R.c, .int .i64 (R.cn : Int), .int .i64 (R.cW : Int), .int .i64 (R.cL : Int), .slice R.a2 R.m2 R.c2], .int .i64 i] u fun e u' => e = .returned (.int .i64 (nextN l i)) ∧ LA w b R a N cap l u' :=
  (next_any R l i u h.rk).mono fun _ _ hh => ⟨hh.1, h.kept hh.2⟩
theorem prev_la (i : Int) (hi : -9223372036854775808 ≤ i) (h : LA w b R a N cap l u) : Calls Try.prog 26 #[.agg #[.int .i64 (R.n : Int), .slice R.a R.m R.c, .int .i64 (R.cn : Int), .int .i64 (R.cW : Int), .int .i64 (R.cL : Int), .slice R.a2 R.m2 R.c2], .int .i64 i] u fun e u' => e = .returned (.int .i64 (prevN l i)) ∧ LA w b R a N cap l u' :=
  (prev_any R l i u h.rk hi).mono fun _ _ hh => ⟨hh.1, h.kept hh.2⟩
theorem lrank_la (t : Bool) (i : Int) (h : LA w b R a N cap l u) : Calls Try.prog 15 #[.slice a N cap, .bool t, .int .i64 i] u fun e u' => e = .returned (.int .i64 (rkN t l (lo N i) : Nat)) ∧ LA w b R a N cap l u' :=
  (rrank_any t a N cap l i u h.ls.bools h.ls.len (by have := h.ls.le; omega)).mono fun _ _ hh => ⟨hh.1, hh.2 ▸ h⟩
theorem lsel_la (t : Bool) (k : Int) (hk : 0 ≤ k) (hk2 : k ≤ 9223372036854775807) (h : LA w b R a N cap l u) : Calls Try.prog 21 #[.slice a N cap, .bool t, .int .i64 k] u fun e u' => e = .returned (.int .i64 (selN t l k)) ∧ LA w b R a N cap l u' :=
  (rselect_any t a N cap l k u h.ls.bools h.ls.len (by have := h.ls.le; omega) hk hk2).mono fun _ _ hh => ⟨hh.1, hh.2 ▸ h⟩
theorem lnext_la (i : Int) (hi : i ≤ 9223372036854775807) (h : LA w b R a N cap l u) : Calls Try.prog 25 #[.slice a N cap, .int .i64 i] u fun e u' => e = .returned (.int .i64 (nextN l i)) ∧ LA w b R a N cap l u' :=
  (rnext_any a N cap l i u h.ls.bools h.ls.len (by have := h.ls.le; omega) hi).mono fun _ _ hh => ⟨hh.1, hh.2 ▸ h⟩
theorem lprev_la (i : Int) (hi : -9223372036854775808 ≤ i) (h : LA w b R a N cap l u) : Calls Try.prog 27 #[.slice a N cap, .int .i64 i] u fun e u' => e = .returned (.int .i64 (prevN l i)) ∧ LA w b R a N cap l u' :=
  (rprev_any a N cap l i u h.ls.bools h.ls.len (by have := h.ls.le; omega) hi).mono fun _ _ hh => ⟨hh.1, hh.2 ▸ h⟩

end Go.Proofs.Ytfhlcclbjagdmaa
