/- Facts for the walk of IntsRows: a pair and a row of numbers in their boxes. -/
import Derived.Test.YtilfjdmgeflagaaRowsA
namespace Go.Proofs.Ytilfjdmgeflagaa
open Go.RowKit
open M

theorem i64s_take {xs : List Int} (h : I64s xs) (n : Nat) : I64s (xs.take n) := fun x hx => h x (List.mem_of_mem_take hx)

theorem cut_num (z : Int) (W : Nat) (hW : W ≤ 62) : ∃ y : Int, bits .and .i64 z (((2 ^ W - 1 : Nat)) : Int) = y ∧ 0 ≤ y ∧ y ≤ 9223372036854775807 := by
  have h := mask_lt z W
  have hp : (2 : Nat) ^ W ≤ 2 ^ 62 := Nat.pow_le_pow_right (by decide) hW
  have e : ((2 : Int) ^ W) = ((2 ^ W : Nat) : Int) := by simp
  rw [e] at h
  exact ⟨_, and_mask z W hW, h.1, by omega⟩

/-- A pair in its box, and a row of numbers in its box. -/
structure RK (w : World) (x y : Int) (b n W L : Nat) (a : Option Addr) (m c : Nat) (u : World) : Prop where
  s : SS w x y (.slice none 0 0) (.slice none 0 0) [] [] u
  b : IBx u b n W L (.slice a m c)
theorem RK.kept {w u u' : World} {x y : Int} {b n W L : Nat} {a : Option Addr} {m c : Nat} (h : RK w x y b n W L a m c u) (hb : Below u.heap.size u u') : RK w x y b n W L a m c u' := ⟨h.s.kept hb, h.b.kept hb⟩
theorem RK.drew {w u : World} {x y : Int} {b n W L : Nat} {a : Option Addr} {m c : Nat} (h : RK w x y b n W L a m c u) : RK w x y b n W L a m c u.drew := h.kept ((Below.refl _ _).drew)
theorem RK.cells {w u : World} {x y : Int} {b n W L : Nat} {a : Option Addr} {m c : Nat} (h : RK w x y b n W L a m c u) :
    u.cell? ⟨w.heap.size, 1, none⟩ = some (.int .i64 y) ∧ u.cell? ⟨b, 0, none⟩ = some (.int .i64 (n : Int)) ∧ u.cell? ⟨b, 1, none⟩ = some (.int .i64 (W : Int)) ∧ u.cell? ⟨b, 2, none⟩ = some (.int .i64 (L : Int)) ∧ u.cell? ⟨b, 3, none⟩ = some (.slice a m c) := ⟨h.s.c1, h.b.c0, h.b.c1, h.b.c2, h.b.c3⟩
theorem len_rk {w u : World} {x y : Int} {b : Nat} (h : RK w x y b 0 0 0 none 0 0 u) : Calls Try.prog 13 #[.agg #[.int .i64 0, .int .i64 0, .int .i64 0, .slice none 0 0]] u fun e w' => e = .returned (.int .i64 0) ∧ RK w x y b 0 0 0 none 0 0 w' :=
  (ilen_any 0 0 0 none 0 0 u).mono fun _ _ hh => ⟨hh.1, h.kept hh.2⟩
theorem width_rk {y : Int} (hy : y ≤ 9223372036854775807) (V : Nat) (hV : wid y.toNat = V) (u : World) : Calls Try.prog 14 #[.int .i64 y] u fun e w' => e = .returned (.int .i64 (V : Int)) ∧ u = w' := by
  subst hV; exact width_any y u hy
theorem rwidth_rk {y : Int} (hy : y ≤ 9223372036854775807) (V : Nat) (hV : wid y.toNat = V) (u : World) : Calls Try.prog 15 #[.int .i64 y] u fun e w' => e = .returned (.int .i64 (V : Int)) ∧ u = w' := by
  subst hV; exact rwidth_any y u hy

theorem pack_irow (a0 : Option Addr) (n cap : Nat) (xs : List Int) (W : Nat) (w : World) (hx : NumsAt .i64 w a0 xs) (hn : xs.length = n) (hW : W ≤ 62) (hn' : n ≤ 10000000) (hfit : Fits xs W) :
    Calls Try.prog 11 #[.slice a0 n cap, .int .i64 (W : Int)] w fun e w' => ∃ g L m : Nat, e = .returned (.tuple #[.agg #[.int .i64 (n : Int), .int .i64 (W : Int), .int .i64 (L : Int), .slice (some ⟨g, 0, none⟩) m m], .int .i64 0]) ∧
      IRow w' n W L (some ⟨g, 0, none⟩) m m xs ∧ Below w.heap.size w w' := by
  refine (pack_ok a0 n cap xs W w hx hn hW hn' hfit).mono ?_
  rintro e w' ⟨g, rfl, hr, -, hb⟩
  exact ⟨g, n * W, nw (n * W), rfl, ⟨hr, hn, rfl, hfit, hW, hn'⟩, hb⟩

/-- The pair in its box, the row in its box, and the numbers themselves. -/
structure RI (w : World) (x y : Int) (b n W L g m : Nat) (p : List Int) (a8 : Option Addr) (u : World) : Prop where
  k : RK w x y b n W L (some ⟨g, 0, none⟩) m m u
  r : IRow u n W L (some ⟨g, 0, none⟩) m m p
  q : NumsAt .i64 u a8 p

variable {w u u' : World} {x y : Int} {b n W L g m : Nat} {p : List Int} {a8 : Option Addr}
theorem RI.kept (h : RI w x y b n W L g m p a8 u) (hb : Below u.heap.size u u') : RI w x y b n W L g m p a8 u' := ⟨h.k.kept hb, h.r.kept hb, h.q.kept hb⟩
theorem RI.cells (h : RI w x y b n W L g m p a8 u) : u.cell? ⟨w.heap.size, 0, none⟩ = some (.int .i64 x) ∧ u.cell? ⟨w.heap.size, 1, none⟩ = some (.int .i64 y) ∧ u.cell? ⟨b, 0, none⟩ = some (.int .i64 (n : Int)) ∧ u.cell? ⟨b, 1, none⟩ = some (.int .i64 (W : Int)) ∧ u.cell? ⟨b, 2, none⟩ = some (.int .i64 (L : Int)) ∧ u.cell? ⟨b, 3, none⟩ = some (.slice (some ⟨g, 0, none⟩) m m) :=
  ⟨h.k.s.c0, h.k.s.c1, h.k.b.c0, h.k.b.c1, h.k.b.c2, h.k.b.c3⟩
theorem len_ri (h : RI w x y b n W L g m p a8 u) : Calls Try.prog 13 #[.agg #[.int .i64 (n : Int), .int .i64 (W : Int), .int .i64 (L : Int), .slice (some ⟨g, 0, none⟩) m m]] u fun e w' => e = .returned (.int .i64 (n : Int)) ∧ RI w x y b n W L g m p a8 w' :=
  (ilen_any n W L _ m m u).mono fun _ _ hh => ⟨hh.1, h.kept hh.2⟩
theorem width_ri (h : RI w x y b n W L g m p a8 u) : Calls Try.prog 19 #[.agg #[.int .i64 (n : Int), .int .i64 (W : Int), .int .i64 (L : Int), .slice (some ⟨g, 0, none⟩) m m]] u fun e w' => e = .returned (.int .i64 (W : Int)) ∧ RI w x y b n W L g m p a8 w' :=
  (iwidth_any n W L _ m m u).mono fun _ _ hh => ⟨hh.1, h.kept hh.2⟩
theorem at_ri (h : RI w x y b n W L g m p a8 u) (i v : Int) (hv : atI p i = v) : Calls Try.prog 20 #[.agg #[.int .i64 (n : Int), .int .i64 (W : Int), .int .i64 (L : Int), .slice (some ⟨g, 0, none⟩) m m], .int .i64 i] u fun e w' => e = .returned (.int .i64 v) ∧ RI w x y b n W L g m p a8 w' := by
  subst hv
  exact (iat_any n W L _ m m p i u h.r).mono fun _ _ hh => ⟨hh.1, h.kept hh.2⟩
theorem bytes_ri (h : RI w x y b n W L g m p a8 u) (str : ByteArray) (hs : strOfNums (bytI (rowB p W) (p8 L)) = str) : Calls Try.prog 21 #[.agg #[.int .i64 (n : Int), .int .i64 (W : Int), .int .i64 (L : Int), .slice (some ⟨g, 0, none⟩) m m]] u fun e w' => e = .returned (.string str) ∧ RI w x y b n W L g m p a8 w' := by
  subst hs
  exact (ibytes_any n W L _ m m (rowB p W) u h.r.row (by rw [rowB_length, h.r.len, h.r.mul]) h.r.lb).mono fun _ _ hh => ⟨hh.1, h.kept hh.2⟩
theorem get_ri (h : RI w x y b n W L g m p a8 u) (i v E : Int) (hv : (0 ≤ i ∧ i < n ∧ v = p.getD i.toNat 0 ∧ E = 0) ∨ ((i < 0 ∨ (n : Int) ≤ i) ∧ v = 0 ∧ E = 13)) : Calls Try.prog 18 #[.agg #[.int .i64 (n : Int), .int .i64 (W : Int), .int .i64 (L : Int), .slice (some ⟨g, 0, none⟩) m m], .int .i64 i] u fun e w' => e = .returned (.tuple #[.int .i64 v, .int .i64 E]) ∧ RI w x y b n W L g m p a8 w' := by
  rcases hv with ⟨h1, h2, rfl, rfl⟩ | ⟨h1, rfl, rfl⟩
  · obtain ⟨k, rfl⟩ := Int.eq_ofNat_of_zero_le h1
    have hn := h.r.hn
    exact (iget_in n W L _ m m p k u h.r.row h.r.len h.r.mul h.r.lb (by omega) h.r.hW h.r.fit (by omega)).mono fun _ _ hh => ⟨hh.1, h.kept hh.2⟩
  · exact (iget_out n W L _ m m i u h1).mono fun _ _ hh => ⟨hh.1, h.kept hh.2⟩
theorem RI.drew (h : RI w x y b n W L g m p a8 u) : RI w x y b n W L g m p a8 u.drew := h.kept ((Below.refl _ _).drew)
theorem rrow_ri (h : RI w x y b n W L g m p a8 u) (d8 : Nat) (h100 : n ≤ 100) : Calls Try.prog 23 #[.slice a8 n d8, .int .i64 (W : Int)] u fun e w' => ∃ a c, e = .returned (.slice a L c) ∧ BoolsAt w' a (rowB p W) ∧ RI w x y b n W L g m p a8 w' := by
  refine (rrow_any a8 n d8 p W u h.q h.r.len h100 h.r.hW h.r.fit).mono ?_
  rintro e w' ⟨a, c, rfl, h1, h2⟩
  rw [h.r.mul]
  exact ⟨a, c, rfl, h1, h.kept h2⟩
theorem rbytes_ri (h : RI w x y b n W L g m p a8 u) (a : Option Addr) (c : Nat) (hbl : BoolsAt u a (rowB p W)) (str : ByteArray) (hs : strOfNums (bytI (rowB p W) (p8 L)) = str) : Calls Try.prog 22 #[.slice a L c] u fun e w' => e = .returned (.string str) ∧ RI w x y b n W L g m p a8 w' := by
  subst hs
  exact (rbytes_any a c L (rowB p W) u hbl (by rw [rowB_length, h.r.len, h.r.mul]) h.r.lb).mono fun _ _ hh => ⟨hh.1, h.kept hh.2⟩
theorem list_ri (h : RI w x y b n W L g m p a8 u) : Calls Try.prog 17 #[.agg #[.int .i64 (n : Int), .int .i64 (W : Int), .int .i64 (L : Int), .slice (some ⟨g, 0, none⟩) m m]] u fun e w' => ∃ g', e = .returned (.slice (some ⟨g', 0, none⟩) n n) ∧ NumsAt .i64 w' (some ⟨g', 0, none⟩) p ∧ RI w x y b n W L g m p a8 w' := by
  refine (ilist_any n W L _ m m p u h.r).mono ?_
  rintro e w' ⟨g', rfl, -, hown, hb⟩
  obtain ⟨a', c', hv, hn, -⟩ := nums_of_own hown
  simp only [Value.slice.injEq] at hv
  obtain ⟨rfl, -, rfl⟩ := hv
  exact ⟨g', rfl, hn, h.kept hb⟩

end Go.Proofs.Ytilfjdmgeflagaa
