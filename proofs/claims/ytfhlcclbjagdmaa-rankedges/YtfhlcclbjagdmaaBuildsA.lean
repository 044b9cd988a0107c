/- Facts for the walk of BitsBuilds: a script's calls; the contract of the document's Put; a builder, two slices of bits and a row in its box, apart from each other. -/
import Derived.Test.YtfhlcclbjagdmaaBackA
import Derived.Deep.Slices
namespace Go.Proofs.Ytfhlcclbjagdmaa
open Go.RowKit
open M

/-- The calls os lie at a, three cells each. -/
def OpsAt (w : World) (a : Option Addr) (os : List (Bool × Int × Int)) : Prop :=
  os = [] ∨ ∃ b off, a = some ⟨b, off, none⟩ ∧ b < w.heap.size ∧ ∀ j, j < os.length → w.cell? ⟨b, off + j * 3, none⟩ = some (.bool (os.getD j (false, 0, 0)).1) ∧
    w.cell? ⟨b, off + j * 3 + 1, none⟩ = some (.int .u64 (os.getD j (false, 0, 0)).2.1) ∧ w.cell? ⟨b, off + j * 3 + 2, none⟩ = some (.int .i64 (os.getD j (false, 0, 0)).2.2)

theorem OpsAt.kept {w w' : World} {a : Option Addr} {os : List (Bool × Int × Int)} (h : OpsAt w a os) (hb : Below w.heap.size w w') : OpsAt w' a os := by
  rcases h with h | ⟨b, off, h1, h2, h3⟩
  · exact .inl h
  · refine .inr ⟨b, off, h1, Nat.lt_of_lt_of_le h2 hb.size, fun j hj => ?_⟩
    rw [hb.cell (p := ⟨b, off + j * 3, none⟩) h2, hb.cell (p := ⟨b, off + j * 3 + 1, none⟩) h2, hb.cell (p := ⟨b, off + j * 3 + 2, none⟩) h2]
    exact h3 j hj

theorem cellsOf3 : Try.prog.cellsOf 3 = 1 := by kernel_rfl
theorem cellsOf34 : Try.prog.cellsOf 47 = 1 := by kernel_rfl

theorem add_mk (b off j : Nat) : (⟨b, off, none⟩ : Addr).add j = ⟨b, off + j, none⟩ := by
  simp only [Addr.add]; split
  · rename_i h; simp_all
  · rfl

theorem bitsOf_snoc (x i : Nat) : bitsOf x (i + 1) = bitsOf x i ++ [x.testBit i] := by
  apply List.ext_getElem
  · simp [bitsOf_length]
  · intro j h1 h2
    rw [bitsOf_length] at h1
    have e1 := bitsOf_getD x (i + 1) j h1
    rw [List.getD_eq_getElem?_getD, List.getElem?_eq_getElem (by rw [bitsOf_length]; exact h1), Option.getD_some] at e1
    rw [e1, List.getElem_append]
    split
    · rename_i h3
      rw [bitsOf_length] at h3
      have e2 := bitsOf_getD x i j h3
      rw [List.getD_eq_getElem?_getD, List.getElem?_eq_getElem (by rw [bitsOf_length]; exact h3), Option.getD_some] at e2
      exact e2.symm
    · rename_i h3
      rw [bitsOf_length] at h3
      obtain rfl : j = i := by omega
      simp [bitsOf_length]

theorem own_mono {w : World} {base base' : Nat} {e : TypeId} {z : Nat} {s : Value} {n : Nat} {xs : List Value} (h : w.ownsRow base e z s n xs) (hb : base' ≤ base) : w.ownsRow base' e z s n xs :=
  ⟨h.1, h.2.imp id fun ⟨g, cap, cur, e1, hg, r⟩ => ⟨g, cap, cur, e1, Nat.le_trans hb hg, r⟩⟩

/-- Two values that have no block in common. -/
def Dj (a b : Value) : Prop := ∀ k, a.ownBlock = some k → b.ownBlock ≠ some k
theorem Dj.symm {a b : Value} (h : Dj a b) : Dj b a := fun k hb ha => h k ha hb
/-- a' has a's block, or one that b cannot have. -/
theorem Dj.fresh {a a' b : Value} {n : Nat} (h : Dj a b) (ha : ∀ k, a'.ownBlock = some k → a.ownBlock = some k ∨ n ≤ k) (hb : ∀ k, b.ownBlock = some k → k < n) : Dj a' b := by
  intro k hk e
  rcases ha k hk with e1 | e1
  · exact h k e1 e
  · have := hb k e; omega
theorem ne_fresh {a a' : Value} {n z : Nat} (h : a.ownBlock ≠ some z) (ha : ∀ k, a'.ownBlock = some k → a.ownBlock = some k ∨ n ≤ k) (hz : z < n) : a'.ownBlock ≠ some z := by
  intro e
  rcases ha z e with e1 | e1
  · exact h e1
  · omega

/-- The builder zb has the bits L, with its words at s; v5 is a slice with the bits P and v7 one with W, both the call's own; the box hb has the row R, with its words at hs. No two of them share memory. -/
structure HD (w : World) (zb hb : Nat) (v5 v7 : Value) (L P W R : List Bool) (s hs : Value) (u : World) : Prop where
  bld : BuildAt u zb s L
  r5 : u.ownsRow w.heap.size 4 1 v5 P.length (P.map Value.bool)
  r7 : u.ownsRow w.heap.size 4 1 v7 W.length (W.map Value.bool)
  bx : Bx u hb R.length hs
  z0 : u.frozen? ⟨hb, 0, none⟩ = false
  z1 : u.frozen? ⟨hb, 1, none⟩ = false
  row : RowAt u hs R
  sb : s.ownBlock ≠ some hb
  s5 : Dj s v5
  s7 : Dj s v7
  sh : Dj s hs
  sw : ∀ k, s.ownBlock = some k → w.heap.size ≤ k
  a5z : v5.ownBlock ≠ some zb
  a5b : v5.ownBlock ≠ some hb
  a57 : Dj v5 v7
  a5h : Dj v5 hs
  a7z : v7.ownBlock ≠ some zb
  a7b : v7.ownBlock ≠ some hb
  a7h : Dj v7 hs
  hz : hs.ownBlock ≠ some zb
  hb' : hs.ownBlock ≠ some hb
  zh : zb ≠ hb
  bel : Below w.heap.size w u
  wz : w.heap.size ≤ zb
  wh : w.heap.size ≤ hb

variable {w u u' : World} {zb hb : Nat} {v5 v7 s hs : Value} {L P W R : List Bool}

theorem HD.kept (h : HD w zb hb v5 v7 L P W R s hs u) (hb2 : Below u.heap.size u u') : HD w zb hb v5 v7 L P W R s hs u' :=
  { h with
    bld := h.bld.kept hb2
    r5 := own_kept h.r5 hb2
    r7 := own_kept h.r7 hb2
    bx := h.bx.kept hb2
    z0 := by rw [hb2.frozen (p := ⟨hb, 0, none⟩) h.bx.lt]; exact h.z0
    z1 := by rw [hb2.frozen (p := ⟨hb, 1, none⟩) h.bx.lt]; exact h.z1
    row := h.row.kept hb2
    bel := h.bel.trans (hb2.mono h.bel.size) }

theorem HD.alloc (h : HD w zb hb v5 v7 L P W R s hs u) (o : Obj) : HD w zb hb v5 v7 L P W R s hs (u.alloc o) := h.kept ((Below.refl _ _).alloc (Nat.le_refl _) _)

theorem HD.lt5 (h : HD w zb hb v5 v7 L P W R s hs u) : ∀ k, v5.ownBlock = some k → k < u.heap.size := fun k hk => (h.r5.lt k hk).2
theorem HD.lt7 (h : HD w zb hb v5 v7 L P W R s hs u) : ∀ k, v7.ownBlock = some k → k < u.heap.size := fun k hk => (h.r7.lt k hk).2
theorem HD.lth (h : HD w zb hb v5 v7 L P W R s hs u) : ∀ k, hs.ownBlock = some k → k < u.heap.size := row_lt h.row
theorem HD.lts (h : HD w zb hb v5 v7 L P W R s hs u) : ∀ k, s.ownBlock = some k → k < u.heap.size := row_lt h.bld.2.2.2.2.1

theorem HD.put {L' : List Bool} (h : HD w zb hb v5 v7 L P W R s hs u) (hp : PutPost u zb s L' u') : ∃ s', HD w zb hb v5 v7 L' P W R s' hs u' := by
  obtain ⟨s', k1, k2, k3⟩ := hp
  have X5 : ∀ k, v5.ownBlock = some k → ¬ PX zb s k := by
    rintro k hk (rfl | e)
    · exact h.a5z hk
    · exact h.s5 k e hk
  have X7 : ∀ k, v7.ownBlock = some k → ¬ PX zb s k := by
    rintro k hk (rfl | e)
    · exact h.a7z hk
    · exact h.s7 k e hk
  have Xh : ∀ k, hs.ownBlock = some k → ¬ PX zb s k := by
    rintro k hk (rfl | e)
    · exact h.hz hk
    · exact h.sh k e hk
  have Xb : ¬ PX zb s hb := by
    rintro (e | e)
    · exact h.zh e.symm
    · exact h.sb e
  refine ⟨s', { h with
    bld := k1
    r5 := own_kp h.r5 k3 X5
    r7 := own_kp h.r7 k3 X7
    bx := h.bx.kp k3 Xb
    z0 := by rw [k3.frozen (p := ⟨hb, 0, none⟩) h.bx.lt Xb]; exact h.z0
    z1 := by rw [k3.frozen (p := ⟨hb, 1, none⟩) h.bx.lt Xb]; exact h.z1
    row := row_kp h.row k3 Xh
    sb := ne_fresh h.sb k2 h.bx.lt
    s5 := h.s5.fresh k2 h.lt5
    s7 := h.s7.fresh k2 h.lt7
    sh := h.sh.fresh k2 h.lth
    sw := ?_
    bel := h.bel.trans (k3.toBelow h.bel.size ?_) }⟩
  · intro k hk
    rcases k2 k hk with e | e
    · exact h.sw k e
    · have := h.bel.size; omega
  · rintro k hk (e | e)
    · have := h.wz; omega
    · have := h.sw k e; omega

/-- A new slice in v5's place. -/
theorem HD.new5 {v' : Value} {P' : List Bool} (h : HD w zb hb v5 v7 L P W R s hs u) (hown : u'.ownsRow u.heap.size 4 1 v' P'.length (P'.map Value.bool)) (hb2 : Below u.heap.size u u') : HD w zb hb v' v7 L P' W R s hs u' := by
  have hf : ∀ k, v'.ownBlock = some k → v5.ownBlock = some k ∨ u.heap.size ≤ k := fun k hk => .inr (hown.lt k hk).1
  have g := h.kept hb2
  exact { g with
    r5 := own_mono hown h.bel.size
    s5 := (h.s5.symm.fresh hf h.lts).symm
    a5z := ne_fresh h.a5z hf h.bld.lt
    a5b := ne_fresh h.a5b hf h.bx.lt
    a57 := h.a57.fresh hf h.lt7
    a5h := h.a5h.fresh hf h.lth }

theorem HD.app5 {v' : Value} {P' : List Bool} (h : HD w zb hb v5 v7 L P W R s hs u) (hown : u'.ownsRow w.heap.size 4 1 v' P'.length (P'.map Value.bool)) (hg : u.grownBy u' v5.ownBlock) (hat : v'.ownBlock = v5.ownBlock ∨ v'.ownBlock = some u.heap.size) : HD w zb hb v' v7 L P' W R s hs u' := by
  have hk : Kp (fun k => v5.ownBlock = some k) u u' := (Kp.refl _ u).grown hg (fun k hk _ => hk)
  have hf : ∀ k, v'.ownBlock = some k → v5.ownBlock = some k ∨ u.heap.size ≤ k := by
    intro k hk
    rcases hat with e | e
    · exact .inl (e ▸ hk)
    · rw [e] at hk; simp at hk; exact .inr (by omega)
  exact { h with
    bld := h.bld.kp hk h.a5z (fun k e e5 => h.s5 k e e5)
    r5 := hown
    r7 := own_kp h.r7 hk (fun k e e5 => h.a57 k e5 e)
    bx := h.bx.kp hk h.a5b
    z0 := by rw [hk.frozen (p := ⟨hb, 0, none⟩) h.bx.lt h.a5b]; exact h.z0
    z1 := by rw [hk.frozen (p := ⟨hb, 1, none⟩) h.bx.lt h.a5b]; exact h.z1
    row := row_kp h.row hk (fun k e e5 => h.a5h k e5 e)
    s5 := (h.s5.symm.fresh hf h.lts).symm
    a5z := ne_fresh h.a5z hf h.bld.lt
    a5b := ne_fresh h.a5b hf h.bx.lt
    a57 := h.a57.fresh hf h.lt7
    a5h := h.a5h.fresh hf h.lth
    bel := h.bel.trans (hk.toBelow h.bel.size (fun k hlt e => by have := (h.r5.lt k e).1; omega)) }

theorem HD.app7 {v' : Value} {W' : List Bool} (h : HD w zb hb v5 v7 L P W R s hs u) (hown : u'.ownsRow w.heap.size 4 1 v' W'.length (W'.map Value.bool)) (hg : u.grownBy u' v7.ownBlock) (hat : v'.ownBlock = v7.ownBlock ∨ v'.ownBlock = some u.heap.size) : HD w zb hb v5 v' L P W' R s hs u' := by
  have hk : Kp (fun k => v7.ownBlock = some k) u u' := (Kp.refl _ u).grown hg (fun k hk _ => hk)
  have hf : ∀ k, v'.ownBlock = some k → v7.ownBlock = some k ∨ u.heap.size ≤ k := by
    intro k hk
    rcases hat with e | e
    · exact .inl (e ▸ hk)
    · rw [e] at hk; simp at hk; exact .inr (by omega)
  exact { h with
    bld := h.bld.kp hk h.a7z (fun k e e7 => h.s7 k e e7)
    r5 := own_kp h.r5 hk (fun k e e7 => h.a57 k e e7)
    r7 := hown
    bx := h.bx.kp hk h.a7b
    z0 := by rw [hk.frozen (p := ⟨hb, 0, none⟩) h.bx.lt h.a7b]; exact h.z0
    z1 := by rw [hk.frozen (p := ⟨hb, 1, none⟩) h.bx.lt h.a7b]; exact h.z1
    row := row_kp h.row hk (fun k e e7 => h.a7h k e7 e)
    s7 := (h.s7.symm.fresh hf h.lts).symm
    a57 := (h.a57.symm.fresh hf h.lt5).symm
    a7z := ne_fresh h.a7z hf h.bld.lt
    a7b := ne_fresh h.a7b hf h.bx.lt
    a7h := h.a7h.fresh hf h.lth
    bel := h.bel.trans (hk.toBelow h.bel.size (fun k hlt e => by have := (h.r7.lt k e).1; omega)) }

/-- A new row in the box. -/
theorem HD.seth {hs' : Value} {R' : List Bool} (h : HD w zb hb v5 v7 L P W R s hs u) (hrow : RowAt u' hs' R') (hb2 : Below u.heap.size u u') (hf : ∀ k, hs'.ownBlock = some k → u.heap.size ≤ k) :
    HD w zb hb v5 v7 L P W R' s hs' ((u'.setCell ⟨hb, 0, none⟩ (.int .i64 (R'.length : Int))).setCell ⟨hb, 1, none⟩ hs') := by
  have g := h.kept hb2
  have hk : Kp (fun k => k = hb) u' ((u'.setCell ⟨hb, 0, none⟩ (.int .i64 (R'.length : Int))).setCell ⟨hb, 1, none⟩ hs') := Kp.setCell (p := ⟨hb, 1, none⟩) (Kp.setCell (p := ⟨hb, 0, none⟩) (Kp.refl (fun k => k = hb) u') (.inl rfl) _) (.inl rfl) _
  have c1 : (u'.setCell ⟨hb, 0, none⟩ (.int .i64 (R'.length : Int))).cell? ⟨hb, 1, none⟩ = some hs := by
    rw [World.cell?_setCell_other _ _ _ _ (by simp)]; exact g.bx.2
  have hlt := h.bx.lt
  have hne : ∀ {a : Value}, (∀ k, a.ownBlock = some k → k < u.heap.size) → Dj a hs' := fun ha k e1 e2 => by
    have := ha k e1; have := hf k e2; omega
  exact { g with
    bld := g.bld.kp hk h.zh (fun k e ek => h.sb (ek ▸ e))
    r5 := own_kp g.r5 hk (fun k e ek => h.a5b (ek ▸ e))
    r7 := own_kp g.r7 hk (fun k e ek => h.a7b (ek ▸ e))
    bx := ⟨by rw [World.cell?_setCell_other _ _ _ _ (by simp)]; exact World.cell?_setCell_same' _ _ _ (by rw [g.bx.1]; rfl), World.cell?_setCell_same' _ _ _ (by rw [c1]; rfl)⟩
    z0 := by simpa using g.z0
    z1 := by simpa using g.z1
    row := row_kp hrow hk (fun k e ek => by have := hf k e; omega)
    sh := hne h.lts
    a5h := hne h.lt5
    a7h := hne h.lt7
    hz := fun e => by have := hf _ e; have := h.bld.lt; omega
    hb' := fun e => by have := hf _ e; omega
    bel := g.bel.trans (hk.toBelow g.bel.size (fun k hk2 e => by have := h.wh; omega)) }

theorem HD.start (hB : BuildAt u zb (.slice none 0 0) []) (hbel : Below w.heap.size w u) (hz : w.heap.size ≤ zb) : HD w zb u.heap.size (.slice none 0 0) (.slice none 0 0) [] [] [] [] (.slice none 0 0) (.slice none 0 0) (u.alloc (.cells #[.int .i64 0, .slice none 0 0] 30)) := by
  have hal : Below u.heap.size u (u.alloc (.cells #[.int .i64 0, .slice none 0 0] 30)) := (Below.refl _ _).alloc (Nat.le_refl _) _
  have hlt := hB.lt
  have hd : ∀ a : Value, Dj (.slice none 0 0) a := fun a k e => by simp [Value.ownBlock] at e
  have hn : ∀ n : Nat, (Value.slice none 0 0).ownBlock ≠ some n := fun n e => by simp [Value.ownBlock] at e
  exact ⟨hB.kept hal, World.ownsRow_nil _ _ _ _, World.ownsRow_nil _ _ _ _, Bx.new u 0 _, by simp, by simp, Row_nil _, hn _, hd _, hd _, hd _, fun k e => absurd e (hn k), hn _, hn _, hd _, hd _, hn _, hn _, hd _, hn _, hn _, by omega, hbel.trans (hal.mono hbel.size), hz, hbel.size⟩

theorem put_hd (h : HD w zb hb v5 v7 L P W R s hs u) (bs : List Bool) (x : Int) (n : Nat) (hx : x = (num bs : Int)) (hn : bs.length = n) (hn64 : n ≤ 64) (hl : L.length ≤ 10000) :
    Calls Try.prog 51 #[.pointer (some ⟨zb, 0, none⟩), .int .u64 x, .int .i64 (n : Int)] u fun e w' => e = .returned (.int .i64 0) ∧ ∃ s', HD w zb hb v5 v7 (L ++ bs) P W R s' hs w' := by
  obtain ⟨a, m, c, rfl⟩ := h.bld.form
  exact (put_ok zb a m c L bs x n u h.bld hx hn hn64 (by omega)).mono fun e u' hh => ⟨hh.1, h.put hh.2⟩

theorem bits_hd (h : HD w zb hb v5 v7 L P W R s hs u) (N g : Nat) (hN : L.length = N) (hl : N ≤ 10000) (hg : u.heap.size + 1 = g) :
    Calls Try.prog 52 #[.pointer (some ⟨zb, 0, none⟩)] u fun e w' => e = .returned (.agg #[.int .i64 (N : Int), .slice (some ⟨g, 0, none⟩) (nw N) (nw N)]) ∧
      RowAt w' (.slice (some ⟨g, 0, none⟩) (nw N) (nw N)) L ∧ Below u.heap.size u w' := by
  subst hN hg
  obtain ⟨a, m, c, rfl⟩ := h.bld.form
  exact bits_any zb a m c L u h.bld (by omega)

/-- A call's own copy of one of the script's calls. -/
def Ox (ob : Nat) (b : Bool) (x y : Int) (u : World) : Prop := u.cell? ⟨ob, 0, none⟩ = some (.bool b) ∧ u.cell? ⟨ob, 1, none⟩ = some (.int .u64 x) ∧ u.cell? ⟨ob, 2, none⟩ = some (.int .i64 y)
theorem Ox.lt {ob : Nat} {b : Bool} {x y : Int} {u : World} (h : Ox ob b x y u) : ob < u.heap.size := World.block_lt_of_cell? u _ h.1
theorem Ox.kp {X : Nat → Prop} {ob : Nat} {b : Bool} {x y : Int} {u u' : World} (h : Ox ob b x y u) (hb : Kp X u u') (hx : ¬ X ob) : Ox ob b x y u' :=
  ⟨by rw [hb.cell (p := ⟨ob, 0, none⟩) h.lt hx]; exact h.1, by rw [hb.cell (p := ⟨ob, 1, none⟩) h.lt hx]; exact h.2.1, by rw [hb.cell (p := ⟨ob, 2, none⟩) h.lt hx]; exact h.2.2⟩
theorem Ox.kept {ob : Nat} {b : Bool} {x y : Int} {u u' : World} (h : Ox ob b x y u) (hb : Below u.heap.size u u') : Ox ob b x y u' :=
  h.kp (X := fun _ => False) ⟨hb.os, hb.tape, hb.output, hb.size, fun k hk _ => hb.block k hk⟩ id
end Go.Proofs.Ytfhlcclbjagdmaa
