/- The contracts of Same, Find, Tight and List of rows of numbers. -/
import Derived.Test.YtfhlcclbjagdmaaID
namespace Go.Proofs.Ytfhlcclbjagdmaa
open Go.RowKit
open M

theorem fits_num (x : Int) (W : Nat) (h : 0 ≤ x ∧ x < 2 ^ W) : (num (bitsOf x.toNat W) : Int) = x := by
  have e : ((2 : Int) ^ W) = ((2 ^ W : Nat) : Int) := by simp
  rw [e] at h
  rw [num_bitsOf _ _ (by omega)]
  omega

theorem rowB_inj (W : Nat) : ∀ (xs ys : List Int), xs.length = ys.length → Fits xs W → Fits ys W → rowB xs W = rowB ys W → xs = ys
  | [], [], _, _, _, _ => rfl
  | x :: xs, y :: ys, hl, hx, hy, h => by
    rw [rowB_cons, rowB_cons] at h
    obtain ⟨h1, h2⟩ := List.append_inj h (by rw [bitsOf_length, bitsOf_length])
    have e : x = y := by
      rw [← fits_num x W (hx x (by simp)), ← fits_num y W (hy y (by simp)), h1]
    rw [e, rowB_inj W xs ys (by simpa using hl) (fun z hz => hx z (by simp [hz])) (fun z hz => hy z (by simp [hz])) h2]

/-- The first place whose number is x or more; the length, if there is none. -/
def findN (xs : List Int) (x : Int) : Nat := xs.findIdx fun y => decide (x ≤ y)

/-- The row does not fall. -/
def Rises (xs : List Int) : Prop := ∀ i j, i ≤ j → j < xs.length → xs.getD i 0 ≤ xs.getD j 0

theorem findN_eq (xs : List Int) (x : Int) (k : Nat) (hk : k ≤ xs.length) (h1 : ∀ j, j < k → xs.getD j 0 < x) (h2 : k < xs.length → x ≤ xs.getD k 0) : findN xs x = k := by
  unfold findN
  rcases Nat.lt_or_ge k xs.length with h | h
  · rw [List.findIdx_eq h]
    refine ⟨?_, ?_⟩
    · have := h2 h
      simpa [List.getD_eq_getElem?_getD, h] using this
    · intro j hj
      have := h1 j hj
      have hj2 : j < xs.length := by omega
      simp [List.getD_eq_getElem?_getD, hj2] at this
      simp; omega
  · have e : k = xs.length := by omega
    rw [e, List.findIdx_eq_length]
    intro y hy
    obtain ⟨j, hj, rfl⟩ := List.getElem_of_mem hy
    have := h1 j (by omega)
    simp [List.getD_eq_getElem?_getD, hj] at this
    simp; omega

/-- The four cells of a boxed row of numbers. -/
structure IBx (w : World) (b n W L : Nat) (s : Value) : Prop where
  c0 : w.cell? ⟨b, 0, none⟩ = some (.int .i64 (n : Int))
  c1 : w.cell? ⟨b, 1, none⟩ = some (.int .i64 (W : Int))
  c2 : w.cell? ⟨b, 2, none⟩ = some (.int .i64 (L : Int))
  c3 : w.cell? ⟨b, 3, none⟩ = some s
theorem IBx.lt {w : World} {b n W L : Nat} {s : Value} (h : IBx w b n W L s) : b < w.heap.size := World.block_lt_of_cell? w _ h.c0
theorem IBx.kp {X : Nat → Prop} {w w' : World} {b n W L : Nat} {s : Value} (h : IBx w b n W L s) (hb : Kp X w w') (hx : ¬ X b) : IBx w' b n W L s :=
  ⟨by rw [hb.cell (p := ⟨b, 0, none⟩) h.lt hx]; exact h.c0, by rw [hb.cell (p := ⟨b, 1, none⟩) h.lt hx]; exact h.c1, by rw [hb.cell (p := ⟨b, 2, none⟩) h.lt hx]; exact h.c2, by rw [hb.cell (p := ⟨b, 3, none⟩) h.lt hx]; exact h.c3⟩
theorem IBx.kept {w w' : World} {b n W L : Nat} {s : Value} (h : IBx w b n W L s) (hb : Below w.heap.size w w') : IBx w' b n W L s := h.kp (Below.kp hb) id
theorem IBx.new (w : World) (n W L : Nat) (s : Value) : IBx (w.alloc (.cells #[.int .i64 (n : Int), .int .i64 (W : Int), .int .i64 (L : Int), s] 33)) w.heap.size n W L s := ⟨by simp, by simp, by simp, by simp⟩

/-- What holds while Find looks: numbers ahead of p are below x, that at q isn't. -/
structure FN (w : World) (n W L : Nat) (a : Option Addr) (m c : Nat) (xs : List Int) (x : Int) (p q : Nat) (u : World) : Prop where
  box : IBx u w.heap.size n W L (.slice a m c)
  row : IRow u n W L a m c xs
  bel : Below w.heap.size w u
  pq : p ≤ q
  qn : q ≤ n
  low : ∀ j, j < p → xs.getD j 0 < x
  high : q < n → x ≤ xs.getD q 0

theorem FN.kept {w u u' : World} {n W L : Nat} {a : Option Addr} {m c : Nat} {xs : List Int} {x : Int} {p q : Nat} (h : FN w n W L a m c xs x p q u) (hb : Below u.heap.size u u') : FN w n W L a m c xs x p q u' :=
  { h with box := h.box.kept hb, row := h.row.kept hb, bel := h.bel.trans (hb.mono h.bel.size) }

theorem atI_in (xs : List Int) (k : Nat) (h : k < xs.length) : atI xs (k : Int) = xs.getD k 0 := by
  unfold atI; rw [if_pos (by omega)]; simp

/-- The greatest of the numbers and 0. -/
def mostI (xs : List Int) : Int := xs.foldl max 0

theorem mostI_snoc (xs : List Int) (x : Int) : mostI (xs ++ [x]) = max (mostI xs) x := by simp [mostI, List.foldl_append]

theorem foldl_max (xs : List Int) (y : Int) : y ≤ xs.foldl max y ∧ (∀ x ∈ xs, x ≤ xs.foldl max y) ∧ (xs.foldl max y = y ∨ xs.foldl max y ∈ xs) := by
  induction xs generalizing y with
  | nil => simp
  | cons x xs ih =>
    obtain ⟨h1, h2, h3⟩ := ih (max y x)
    simp only [List.foldl_cons]
    refine ⟨by omega, ?_, ?_⟩
    · intro z hz
      rcases List.mem_cons.1 hz with e | e
      · subst e; omega
      · exact h2 z e
    · rcases h3 with e | e
      · rcases Int.le_total y x with h | h
        · right; rw [e, Int.max_eq_right h]; simp
        · left; rw [e, Int.max_eq_left h]
      · right; simp [e]

theorem mostI_ge (xs : List Int) : 0 ≤ mostI xs ∧ ∀ x ∈ xs, x ≤ mostI xs := ⟨(foldl_max xs 0).1, (foldl_max xs 0).2.1⟩
theorem mostI_mem (xs : List Int) : mostI xs = 0 ∨ mostI xs ∈ xs := (foldl_max xs 0).2.2

/-- What Tight holds while it looks for the greatest. -/
structure TG (w : World) (a : Option Addr) (xs : List Int) (u : World) : Prop where
  r0 : u.cell? ⟨w.heap.size, 0, none⟩ = some (.int .i64 0)
  r1 : u.cell? ⟨w.heap.size, 1, none⟩ = some (.int .i64 0)
  r2 : u.cell? ⟨w.heap.size, 2, none⟩ = some (.int .i64 0)
  r3 : u.cell? ⟨w.heap.size, 3, none⟩ = some (.slice none 0 0)
  z0 : u.frozen? ⟨w.heap.size, 0, none⟩ = false
  z1 : u.frozen? ⟨w.heap.size, 1, none⟩ = false
  z2 : u.frozen? ⟨w.heap.size, 2, none⟩ = false
  z3 : u.frozen? ⟨w.heap.size, 3, none⟩ = false
  nums : NumsAt .i64 u a xs
  bel : Below w.heap.size w u

theorem TG.kept {w u u' : World} {a : Option Addr} {xs : List Int} (h : TG w a xs u) (hb : Below u.heap.size u u') : TG w a xs u' := by
  have l := World.block_lt_of_cell? u _ h.r0
  simp only at l
  exact ⟨by rw [hb.cell (p := ⟨w.heap.size, 0, none⟩) l]; exact h.r0, by rw [hb.cell (p := ⟨w.heap.size, 1, none⟩) l]; exact h.r1, by rw [hb.cell (p := ⟨w.heap.size, 2, none⟩) l]; exact h.r2, by rw [hb.cell (p := ⟨w.heap.size, 3, none⟩) l]; exact h.r3,
    by rw [hb.frozen (p := ⟨w.heap.size, 0, none⟩) l]; exact h.z0, by rw [hb.frozen (p := ⟨w.heap.size, 1, none⟩) l]; exact h.z1, by rw [hb.frozen (p := ⟨w.heap.size, 2, none⟩) l]; exact h.z2, by rw [hb.frozen (p := ⟨w.heap.size, 3, none⟩) l]; exact h.z3,
    h.nums.kept hb, h.bel.trans (hb.mono h.bel.size)⟩

theorem TG.start (w : World) (a : Option Addr) (xs : List Int) (h : NumsAt .i64 w a xs) : TG w a xs (w.alloc (.cells #[.int .i64 0, .int .i64 0, .int .i64 0, .slice none 0 0] 33)) := by
  have hal : Below w.heap.size w (w.alloc (.cells #[.int .i64 0, .int .i64 0, .int .i64 0, .slice none 0 0] 33)) := (Below.refl _ _).alloc (Nat.le_refl _) _
  exact ⟨by simp, by simp, by simp, by simp, by simp, by simp, by simp, by simp, h.kept hal, hal⟩

theorem below_set4 {w u : World} {b : Nat} (h : Below w.heap.size w u) (hb : w.heap.size ≤ b) (v0 v1 v2 v3 : Value) :
    Below w.heap.size w ((((u.setCell ⟨b, 0, none⟩ v0).setCell ⟨b, 1, none⟩ v1).setCell ⟨b, 2, none⟩ v2).setCell ⟨b, 3, none⟩ v3) :=
  (((h.setCell hb _).setCell hb _).setCell hb _).setCell hb _

theorem row_set4 {u : World} {b g m c : Nat} {l : List Bool} (h : RowAt u (.slice (some ⟨g, 0, none⟩) m c) l) (hg : g ≠ b) (v0 v1 v2 v3 : Value) :
    RowAt ((((u.setCell ⟨b, 0, none⟩ v0).setCell ⟨b, 1, none⟩ v1).setCell ⟨b, 2, none⟩ v2).setCell ⟨b, 3, none⟩ v3) (.slice (some ⟨g, 0, none⟩) m c) l := by
  have hk : Kp (fun k => k = b) u ((((u.setCell ⟨b, 0, none⟩ v0).setCell ⟨b, 1, none⟩ v1).setCell ⟨b, 2, none⟩ v2).setCell ⟨b, 3, none⟩ v3) :=
    Kp.setCell (p := ⟨b, 3, none⟩) (Kp.setCell (p := ⟨b, 2, none⟩) (Kp.setCell (p := ⟨b, 1, none⟩) (Kp.setCell (p := ⟨b, 0, none⟩) (Kp.refl (fun k => k = b) u) (.inl rfl) _) (.inl rfl) _) (.inl rfl) _) (.inl rfl) _
  refine row_kp h hk ?_
  intro k e
  simp only [Value.ownBlock, Option.some.injEq] at e
  omega

set_option maxHeartbeats 1000000 in
theorem tight_ok (a0 : Option Addr) (n cap : Nat) (xs : List Int) (W : Nat) (w : World) (hx : NumsAt .i64 w a0 xs) (hn : xs.length = n) (hn' : n ≤ 10000000) (h64 : I64s xs) (hW : wid (mostI xs).toNat = W) (hW2 : W ≤ 62) (hfit : Fits xs W) :
    Calls Try.prog 31 #[.slice a0 n cap] w fun e w' => ∃ g, e = .returned (.tuple #[intsV n W (n * W) (.slice (some ⟨g, 0, none⟩) (nw (n * W)) (nw (n * W))), .int .i64 0]) ∧
      RowAt w' (.slice (some ⟨g, 0, none⟩) (nw (n * W)) (nw (n * W))) (rowB xs W) ∧ w.heap.size ≤ g ∧ Below w.heap.size w w' := by
  have HX := Lib.hid (And.intro (TG.start w a0 xs hx) (And.intro hn (And.intro h64 (And.intro hW hfit))))
  clear hx hn h64 hW hfit
  go_enter Try.func31, Try.ntmps31
  go_wp2
  go_loopw [4, 9] (fun v4 v9 wr => ∃ i : Nat, i ≤ n ∧ v9 = .int .i64 (i : Int) ∧ v4 = .int .i64 (mostI (xs.take i)) ∧ TG w a0 xs wr) (fun _ v9 _ => n - (intOf v9).toNat)
  case atStart => exact ⟨0, Nat.zero_le _, rfl, rfl, HX.out.1⟩
  case round =>
    obtain ⟨i, hi, rfl, rfl, hk⟩ := hrel
    obtain ⟨-, hn, h64, hW, hfit⟩ := HX.out
    by_cases hlt : i < n
    · rcases hk.nums with hnil | ⟨b, off, rfl, hbs, hcs⟩
      · subst hnil; simp at hn; omega
      have hcb := hcs i (by omega)
      have q1 : (i : Int) < (n : Int) := by omega
      have q2 : (0 : Int) ≤ (i : Int) := by omega
      have hsn := mostI_snoc (xs.take i) (xs.getD i 0)
      rw [← takeI_snoc xs i (by omega)] at hsn
      have HC := Lib.hid (And.intro hsn hk)
      clear hcs hk hn hfit h64 hW hsn
      generalize xs.getD i 0 = x at *
      generalize mostI (xs.take i) = y at *
      go_wp2
      go_roundw
      case rel => exact ⟨i + 1, by omega, by go_num, by rw [HC.out.1]; simp only [Value.int.injEq, true_and]; split <;> omega, HC.out.2⟩
      case measure => simp [intOf]; omega
    · obtain rfl : i = n := by omega
      have hti : xs.take i = xs := by rw [← hn]; simp
      rw [hti]
      have hm := mostI_mem xs
      have hmx : mostI xs ≤ 9223372036854775807 := by
        rcases hm with e | e
        · omega
        · exact (h64 _ e).2
      have hwd := fun u => width_any (mostI xs) u hmx
      rw [hW] at hwd
      have hpk := pack_ok a0 i cap xs W wr hk.nums hn hW2 hn' hfit
      have HW := Lib.hid (And.intro hwd (And.intro hpk hk))
      clear hwd hpk hk hti hm hmx hn h64 hW hfit
      generalize mostI xs = y at *
      go_wp2_with fail
      refine (HW.out.1 _).mono ?_
      rintro e w4 ⟨rfl, rfl⟩
      go_wp2_with fail
      refine HW.out.2.1.mono ?_
      rintro e w5 ⟨g, rfl, hrow, hg, hb⟩
      have hk := HW.out.2.2
      have hsz := hk.bel.size
      have l0 := World.block_lt_of_cell? wr _ hk.r0
      obtain ⟨r0, r1, r2, r3, z0, z1, z2, z3, -, hbel⟩ := hk.kept hb
      have HF := Lib.hid (And.intro hrow (And.intro hg (And.intro hbel (And.intro hsz l0))))
      clear hrow hg hb hbel hk HW hsz l0
      unfold intsV
      generalize hNN : i * W = N at *
      have HNN := Lib.hid hNN
      clear hNN
      go_wp2
      refine bodyPost_ret (v := .tuple #[intsV i W N (.slice (some ⟨g, 0, none⟩) (nw N) (nw N)), .int .i64 0]) (by simp [results, Try.results31, go_sem, r0, r1, r2, r3, intsV]) rfl ?_
      clear r0 r1 r2 r3 z0 z1 z2 z3
      obtain ⟨hrow, hg, hbel, hsz, l0⟩ := HF.out
      obtain rfl := HNN.out
      exact ⟨g, rfl, row_set4 hrow (by omega) _ _ _ _, by omega, below_set4 hbel (Nat.le_refl _) _ _ _ _⟩

set_option maxHeartbeats 1000000 in
theorem tight_bad (a0 : Option Addr) (n cap : Nat) (xs : List Int) (w : World) (hx : NumsAt .i64 w a0 xs) (hn : xs.length = n) (hn' : n ≤ 10000000) (h64 : I64s xs) (hW2 : wid (mostI xs).toNat ≤ 62) (hfit : ¬ Fits xs (wid (mostI xs).toNat)) :
    Calls Try.prog 31 #[.slice a0 n cap] w fun e w' => e = .returned (.tuple #[noInts, .int .i64 1]) ∧ Below w.heap.size w w' := by
  have HX := Lib.hid (And.intro (TG.start w a0 xs hx) (And.intro hn (And.intro h64 (And.intro hW2 hfit))))
  clear hx hn h64 hW2 hfit
  go_enter Try.func31, Try.ntmps31
  go_wp2
  go_loopw [4, 9] (fun v4 v9 wr => ∃ i : Nat, i ≤ n ∧ v9 = .int .i64 (i : Int) ∧ v4 = .int .i64 (mostI (xs.take i)) ∧ TG w a0 xs wr) (fun _ v9 _ => n - (intOf v9).toNat)
  case atStart => exact ⟨0, Nat.zero_le _, rfl, rfl, HX.out.1⟩
  case round =>
    obtain ⟨i, hi, rfl, rfl, hk⟩ := hrel
    obtain ⟨-, hn, h64, hW2, hfit⟩ := HX.out
    by_cases hlt : i < n
    · rcases hk.nums with hnil | ⟨b, off, rfl, hbs, hcs⟩
      · subst hnil; simp at hn; omega
      have hcb := hcs i (by omega)
      have q1 : (i : Int) < (n : Int) := by omega
      have q2 : (0 : Int) ≤ (i : Int) := by omega
      have hsn := mostI_snoc (xs.take i) (xs.getD i 0)
      rw [← takeI_snoc xs i (by omega)] at hsn
      have HC := Lib.hid (And.intro hsn hk)
      clear hcs hk hn hfit h64 hW2 hsn
      generalize xs.getD i 0 = x at *
      generalize mostI (xs.take i) = y at *
      go_wp2
      go_roundw
      case rel => exact ⟨i + 1, by omega, by go_num, by rw [HC.out.1]; simp only [Value.int.injEq, true_and]; split <;> omega, HC.out.2⟩
      case measure => simp [intOf]; omega
    · obtain rfl : i = n := by omega
      have hti : xs.take i = xs := by rw [← hn]; simp
      rw [hti]
      have hm := mostI_mem xs
      have hmx : mostI xs ≤ 9223372036854775807 := by
        rcases hm with e | e
        · omega
        · exact (h64 _ e).2
      have hwd := fun u => width_any (mostI xs) u hmx
      have hpk := pack_bad a0 i cap xs (wid (mostI xs).toNat) wr hk.nums hn hW2 hn' h64 hfit
      have HW := Lib.hid (And.intro hwd (And.intro hpk hk))
      clear hwd hpk hk hti hm hmx hn h64 hfit hW2
      generalize hW : wid (mostI xs).toNat = W at *
      clear hW
      generalize mostI xs = y at *
      go_wp2_with fail
      refine (HW.out.1 _).mono ?_
      rintro e w4 ⟨rfl, rfl⟩
      go_wp2_with fail
      refine HW.out.2.1.mono ?_
      rintro e w5 ⟨rfl, hb⟩
      obtain ⟨r0, r1, r2, r3, z0, z1, z2, z3, -, hbel⟩ := HW.out.2.2.kept hb
      have HF := Lib.hid hbel
      clear hb hbel HW
      unfold noInts
      go_wp2
      refine bodyPost_ret (v := .tuple #[noInts, .int .i64 1]) (by simp [results, Try.results31, go_sem, r0, r1, r2, r3, noInts]) rfl ?_
      exact ⟨rfl, below_set4 HF.out (Nat.le_refl _) _ _ _ _⟩

end Go.Proofs.Ytfhlcclbjagdmaa
