/- Rows of which their transform is kept, in memory: their parts; what belongs to a row. -/
import Derived.Test.YtpnjccomngdblaaGreatZA
import Derived.Test.YtpnjccomngdblaaGreatWW
set_option maxRecDepth 100000
namespace Go.Proofs.YtpnjccomngdblaaGreat
open Go.RowKit
open M

/-- What a row of numbers of one width is made of. -/
structure IP where
  n : Nat
  W : Nat
  L : Nat
  a : Option Addr
  m : Nat
  c : Nat
/-- What an FM is made of. -/
structure FQ where
  N : Nat
  Z : Int
  wa : Option Addr
  wW : Nat
  wc : Nat
  R : RP
  S : IP
  P : IP
/-- The row turned, each number one more; which places are marked; where the marked suffixes begin; their places, the longest first. -/
def wavL (l : List Int) : List Int := (turnL l).map (· + 1)
def mkB (n p : Nat) : Bool := decide (p % 8 = 0) || decide (p = n)
def mkL (l : List Int) : List Bool := (List.range (l.length + 1)).map fun j => mkB l.length (plA l j)
def smN (l : List Int) (k : Nat) : List Int := (((List.range k).map (plA l)).filter (mkB l.length)).map Int.ofNat
def smL (l : List Int) : List Int := smN l (l.length + 1)
def mfN (p : Nat) : Nat := (p + 7) / 8
def pcL (l : List Int) : List Int := (List.range (mfN l.length + 1)).map fun t => (plR l (min (8 * t) l.length) : Int)
theorem wavL_len (l : List Int) : (wavL l).length = l.length + 1 := by simp [wavL, turnL_len]
theorem mkL_len (l : List Int) : (mkL l).length = l.length + 1 := by simp [mkL]
theorem pcL_len (l : List Int) : (pcL l).length = mfN l.length + 1 := by simp [pcL]

/-- The cells of a boxed one. -/
structure MBx (w : World) (b : Nat) (F : FQ) : Prop where
  c0 : w.cell? ⟨b, 0, none⟩ = some (.int .i64 (F.N : Int))
  c1 : w.cell? ⟨b, 1, none⟩ = some (.int .i64 F.Z)
  c2 : w.cell? ⟨b, 2, none⟩ = some (.slice F.wa F.wW F.wc)
  c3 : w.cell? ⟨b, 3, none⟩ = some (.int .i64 (F.R.n : Int))
  c4 : w.cell? ⟨b, 4, none⟩ = some (.slice F.R.a F.R.m F.R.c)
  c5 : w.cell? ⟨b, 5, none⟩ = some (.int .i64 (F.R.cn : Int))
  c6 : w.cell? ⟨b, 6, none⟩ = some (.int .i64 (F.R.cW : Int))
  c7 : w.cell? ⟨b, 7, none⟩ = some (.int .i64 (F.R.cL : Int))
  c8 : w.cell? ⟨b, 8, none⟩ = some (.slice F.R.a2 F.R.m2 F.R.c2)
  c9 : w.cell? ⟨b, 9, none⟩ = some (.int .i64 (F.S.n : Int))
  c10 : w.cell? ⟨b, 10, none⟩ = some (.int .i64 (F.S.W : Int))
  c11 : w.cell? ⟨b, 11, none⟩ = some (.int .i64 (F.S.L : Int))
  c12 : w.cell? ⟨b, 12, none⟩ = some (.slice F.S.a F.S.m F.S.c)
  c13 : w.cell? ⟨b, 13, none⟩ = some (.int .i64 (F.P.n : Int))
  c14 : w.cell? ⟨b, 14, none⟩ = some (.int .i64 (F.P.W : Int))
  c15 : w.cell? ⟨b, 15, none⟩ = some (.int .i64 (F.P.L : Int))
  c16 : w.cell? ⟨b, 16, none⟩ = some (.slice F.P.a F.P.m F.P.c)
variable {w u w' : World} {b : Nat} {F : FQ} {l : List Int} {size : Nat}
theorem MBx.lt (h : MBx w b F) : b < w.heap.size := World.block_lt_of_cell? w _ h.c0
theorem MBx.kept (h : MBx w b F) (hb : Below w.heap.size w w') : MBx w' b F := by
  have cl : ∀ o, w'.cell? ⟨b, o, none⟩ = w.cell? ⟨b, o, none⟩ := fun o => hb.cell (p := ⟨b, o, none⟩) h.lt
  exact ⟨by rw [cl]; exact h.c0, by rw [cl]; exact h.c1, by rw [cl]; exact h.c2, by rw [cl]; exact h.c3, by rw [cl]; exact h.c4, by rw [cl]; exact h.c5, by rw [cl]; exact h.c6, by rw [cl]; exact h.c7, by rw [cl]; exact h.c8, by rw [cl]; exact h.c9, by rw [cl]; exact h.c10, by rw [cl]; exact h.c11, by rw [cl]; exact h.c12, by rw [cl]; exact h.c13, by rw [cl]; exact h.c14, by rw [cl]; exact h.c15, by rw [cl]; exact h.c16⟩
theorem MBx.new (w : World) (F : FQ) : MBx (w.alloc (.cells #[.int .i64 (F.N : Int), .int .i64 F.Z, .slice F.wa F.wW F.wc, .int .i64 (F.R.n : Int), .slice F.R.a F.R.m F.R.c, .int .i64 (F.R.cn : Int), .int .i64 (F.R.cW : Int), .int .i64 (F.R.cL : Int), .slice F.R.a2 F.R.m2 F.R.c2, .int .i64 (F.S.n : Int), .int .i64 (F.S.W : Int), .int .i64 (F.S.L : Int), .slice F.S.a F.S.m F.S.c, .int .i64 (F.P.n : Int), .int .i64 (F.P.W : Int), .int .i64 (F.P.L : Int), .slice F.P.a F.P.m F.P.c] 37)) w.heap.size F :=
  ⟨by simp, by simp, by simp, by simp, by simp, by simp, by simp, by simp, by simp, by simp, by simp, by simp, by simp, by simp, by simp, by simp, by simp⟩
theorem mbel (w : World) (F : FQ) : Below w.heap.size w (w.alloc (.cells #[.int .i64 (F.N : Int), .int .i64 F.Z, .slice F.wa F.wW F.wc, .int .i64 (F.R.n : Int), .slice F.R.a F.R.m F.R.c, .int .i64 (F.R.cn : Int), .int .i64 (F.R.cW : Int), .int .i64 (F.R.cL : Int), .slice F.R.a2 F.R.m2 F.R.c2, .int .i64 (F.S.n : Int), .int .i64 (F.S.W : Int), .int .i64 (F.S.L : Int), .slice F.S.a F.S.m F.S.c, .int .i64 (F.P.n : Int), .int .i64 (F.P.W : Int), .int .i64 (F.P.L : Int), .slice F.P.a F.P.m F.P.c] 37)) := (Below.refl _ _).alloc (Nat.le_refl _) _
theorem MBx.cells (h : MBx w' b F) : w'.cell? ⟨b, 0, none⟩ = some (.int .i64 (F.N : Int)) ∧ w'.cell? ⟨b, 1, none⟩ = some (.int .i64 F.Z) ∧ w'.cell? ⟨b, 2, none⟩ = some (.slice F.wa F.wW F.wc) ∧ w'.cell? ⟨b, 3, none⟩ = some (.int .i64 (F.R.n : Int)) ∧ w'.cell? ⟨b, 4, none⟩ = some (.slice F.R.a F.R.m F.R.c) ∧ w'.cell? ⟨b, 5, none⟩ = some (.int .i64 (F.R.cn : Int)) ∧ w'.cell? ⟨b, 6, none⟩ = some (.int .i64 (F.R.cW : Int)) ∧ w'.cell? ⟨b, 7, none⟩ = some (.int .i64 (F.R.cL : Int)) ∧ w'.cell? ⟨b, 8, none⟩ = some (.slice F.R.a2 F.R.m2 F.R.c2) ∧ w'.cell? ⟨b, 9, none⟩ = some (.int .i64 (F.S.n : Int)) ∧ w'.cell? ⟨b, 10, none⟩ = some (.int .i64 (F.S.W : Int)) ∧ w'.cell? ⟨b, 11, none⟩ = some (.int .i64 (F.S.L : Int)) ∧ w'.cell? ⟨b, 12, none⟩ = some (.slice F.S.a F.S.m F.S.c) ∧ w'.cell? ⟨b, 13, none⟩ = some (.int .i64 (F.P.n : Int)) ∧ w'.cell? ⟨b, 14, none⟩ = some (.int .i64 (F.P.W : Int)) ∧ w'.cell? ⟨b, 15, none⟩ = some (.int .i64 (F.P.L : Int)) ∧ w'.cell? ⟨b, 16, none⟩ = some (.slice F.P.a F.P.m F.P.c) := ⟨h.c0, h.c1, h.c2, h.c3, h.c4, h.c5, h.c6, h.c7, h.c8, h.c9, h.c10, h.c11, h.c12, h.c13, h.c14, h.c15, h.c16⟩

/-- It is that of the row l of symbols of that size. -/
structure FMI (w : World) (F : FQ) (l : List Int) (size : Nat) : Prop where
  wx : WX w (wavL l) F.wW F.wa
  N : F.N = l.length + 1
  Z : F.Z = (size : Int) + 1
  pw : F.Z ≤ 2 ^ F.wW
  sy : ∀ x ∈ l, 0 ≤ x ∧ x < (size : Int)
  len : l.length ≤ 1000
  few : size ≤ 65535
  rk : RK w F.R (mkL l)
  smp : IRow w F.S.n F.S.W F.S.L F.S.a F.S.m F.S.c (smL l)
  plc : IRow w F.P.n F.P.W F.P.L F.P.a F.P.m F.P.c (pcL l)
  sW : F.S.W = wid (mostI (smL l)).toNat
theorem FMI.kept (h : FMI w F l size) (hb : Below w.heap.size w w') : FMI w' F l size :=
  { h with wx := h.wx.kept hb, rk := h.rk.kept hb, smp := h.smp.kept hb, plc := h.plc.kept hb }
theorem FMI.nn (h : FMI w F l size) : Nn l := fun x hx => (h.sy x hx).1
theorem FMI.i64 (h : FMI w F l size) : I64s l := fun x hx => by have := h.sy x hx; have := h.few; omega
theorem sy_nn (h : ∀ x ∈ l, 0 ≤ x ∧ x < (size : Int)) : Nn l := fun x hx => (h x hx).1
theorem sy_64 (h : ∀ x ∈ l, 0 ≤ x ∧ x < (size : Int)) (hs : size ≤ 65535) : I64s l := fun x hx => by have := h x hx; omega
theorem wav_in (h : ∀ x ∈ l, 0 ≤ x ∧ x < (size : Int)) : ∀ x ∈ wavL l, 0 ≤ x ∧ x < (size : Int) + 1 := by
  intro x hx
  unfold wavL at hx
  obtain ⟨y, hy, rfl⟩ := List.mem_map.1 hx
  have := (turn_perm l).mem_iff.1 hy
  rcases List.mem_cons.1 this with rfl | hy
  · show (0 : Int) ≤ -1 + 1 ∧ (-1 : Int) + 1 < _
    omega
  · have := h y hy
    show (0 : Int) ≤ y + 1 ∧ y + 1 < _
    omega
theorem wav_at (l : List Int) {j : Nat} (hj : j ≤ l.length) : (wavL l).getD j 0 = (turnL l).getD j 0 + 1 := by
  have : j < (turnL l).length := by rw [turnL_len]; omega
  simp [wavL, List.getD_eq_getElem?_getD, this]

/-- A boxed one in a call that entered at w. -/
structure MX (w : World) (b : Nat) (F : FQ) (l : List Int) (size : Nat) (u : World) : Prop where
  box : MBx u b F
  fm : FMI u F l size
  bel : Below w.heap.size w u
theorem MX.kept {u' : World} (h : MX w b F l size u) (hb : Below u.heap.size u u') : MX w b F l size u' := ⟨h.box.kept hb, h.fm.kept hb, h.bel.trans (hb.mono h.bel.size)⟩
theorem MX.drew (h : MX w b F l size u) : MX w b F l size u.drew := h.kept ((Below.refl _ _).drew)
theorem MX.new (h : FMI w F l size) : MX w w.heap.size F l size (w.alloc (.cells #[.int .i64 (F.N : Int), .int .i64 F.Z, .slice F.wa F.wW F.wc, .int .i64 (F.R.n : Int), .slice F.R.a F.R.m F.R.c, .int .i64 (F.R.cn : Int), .int .i64 (F.R.cW : Int), .int .i64 (F.R.cL : Int), .slice F.R.a2 F.R.m2 F.R.c2, .int .i64 (F.S.n : Int), .int .i64 (F.S.W : Int), .int .i64 (F.S.L : Int), .slice F.S.a F.S.m F.S.c, .int .i64 (F.P.n : Int), .int .i64 (F.P.W : Int), .int .i64 (F.P.L : Int), .slice F.P.a F.P.m F.P.c] 37)) := ⟨MBx.new w F, h.kept (mbel w F), mbel w F⟩

/-! ## The samples -/
theorem mkL_at (l : List Int) {j : Nat} (hj : j ≤ l.length) : (mkL l).getD j false = mkB l.length (plA l j) := by
  have : j < l.length + 1 := by omega
  simp [mkL, List.getD_eq_getElem?_getD, this]
theorem smN_succ (l : List Int) (k : Nat) : smN l (k + 1) = smN l k ++ if mkB l.length (plA l k) = true then [(plA l k : Int)] else [] := by
  unfold smN
  rw [List.range_succ, List.map_append, List.filter_append, List.map_append, List.map_singleton]
  congr 1
  by_cases h : mkB l.length (plA l k) = true
  · rw [if_pos h]; simp [List.filter, h]
  · rw [if_neg h]; simp [List.filter, h]
theorem smN_len (l : List Int) : ∀ k, k ≤ l.length + 1 → (smN l k).length = rkN true (mkL l) k := by
  intro k
  induction k with
  | zero => intro _; rw [rkN_zero]; rfl
  | succ k ih =>
    intro hk
    rw [smN_succ, List.length_append, ih (by omega), rkN_succ _ _ _ (by rw [mkL_len]; omega), mkL_at l (by omega)]
    by_cases h : mkB l.length (plA l k) = true
    · rw [if_pos h, if_pos h]; rfl
    · rw [if_neg h, if_neg (by simpa using h)]; rfl
theorem smN_le (l : List Int) (k : Nat) : (smN l k).length ≤ k := by
  unfold smN
  rw [List.length_map]
  refine Nat.le_trans (List.length_filter_le _ _) ?_
  simp
theorem smN_more (l : List Int) (k : Nat) : ∀ d, ∃ r, smN l (k + d) = smN l k ++ r := by
  intro d
  induction d with
  | zero => exact ⟨[], by simp⟩
  | succ d ih =>
    obtain ⟨r, e⟩ := ih
    rw [← Nat.add_assoc, smN_succ, e, List.append_assoc]
    exact ⟨_, rfl⟩
/-- What is told of a marked place. -/
theorem smL_at (l : List Int) {j : Nat} (hj : j ≤ l.length) (hm : mkB l.length (plA l j) = true) : rkN true (mkL l) j < (smL l).length ∧ (smL l).getD (rkN true (mkL l) j) 0 = (plA l j : Int) := by
  rw [← smN_len l j (by omega)]
  obtain ⟨r, e⟩ := smN_more l (j + 1) (l.length - j)
  have e1 : smL l = smN l j ++ ([(plA l j : Int)] ++ r) := by
    unfold smL
    rw [show l.length + 1 = j + 1 + (l.length - j) by omega, e, smN_succ, if_pos hm, List.append_assoc]
  rw [e1]
  refine ⟨by simp, ?_⟩
  simp [List.getD_eq_getElem?_getD]
theorem smL_in (h : I64s l) (hn : Nn l) : ∀ x ∈ smL l, 0 ≤ x ∧ x ≤ (l.length : Int) := by
  intro x hx
  unfold smL smN at hx
  obtain ⟨y, hy, rfl⟩ := List.mem_map.1 hx
  obtain ⟨j, hj, rfl⟩ := List.mem_map.1 (List.mem_filter.1 hy).1
  have := (allA_at h hn (j := j) (by have := List.mem_range.1 hj; omega)).2
  show (0 : Int) ≤ (plA l j : Int) ∧ (plA l j : Int) ≤ _
  omega
theorem pcL_at (l : List Int) {t : Nat} (ht : t ≤ mfN l.length) : (pcL l).getD t 0 = (plR l (min (8 * t) l.length) : Int) := by
  have : t < mfN l.length + 1 := by omega
  simp [pcL, List.getD_eq_getElem?_getD, this]

end Go.Proofs.YtpnjccomngdblaaGreat
