/- Facts for the walks of BitsBack and BitsBuilds: slices of numbers; a builder beside two rows of the call's own. -/
import Derived.Test.YtfhlcclbjagdmaaX
import Derived.ChangeSlices
namespace Go.Proofs.Ytfhlcclbjagdmaa
open Go.RowKit
open M

/-- The numbers xs lie at a. -/
def NumsAt (k : IntKind) (w : World) (a : Option Addr) (xs : List Int) : Prop :=
  xs = [] ∨ ∃ b off, a = some ⟨b, off, none⟩ ∧ b < w.heap.size ∧ ∀ j, j < xs.length → w.cell? ⟨b, off + j, none⟩ = some (.int k (xs.getD j 0))

theorem NumsAt.kept {k : IntKind} {w w' : World} {a : Option Addr} {xs : List Int} (h : NumsAt k w a xs) (hb : Below w.heap.size w w') : NumsAt k w' a xs := by
  rcases h with h | ⟨b, off, h1, h2, h3⟩
  · exact .inl h
  · refine .inr ⟨b, off, h1, Nat.lt_of_lt_of_le h2 hb.size, fun j hj => ?_⟩
    rw [hb.cell (p := ⟨b, off + j, none⟩) h2]
    exact h3 j hj

theorem nums_in {H : Type} {enc : TypeId × Value → H} {W : World} {a0 : Option Addr} {len cap : Nat} {x : DataW H} {pl : List MemPlace} {t e : TypeId} {k : IntKind}
    (ht : Try.prog.underlying t = some (.slice e)) (he : Try.prog.underlying e = some (.int k)) (hc : Try.prog.cellsOf e = 1)
    (h : DataW.Trod enc Try.prog W 0 (fun _ => true) true t (.slice a0 len cap) x pl) : ∃ xs : List Int, xs.length = len ∧ len ≤ maxLen ∧ NumsAt k W a0 xs ∧ ∀ n ∈ xs, (Lit.int k n).wf = true := by
  obtain ⟨fuel, hf⟩ := h
  rcases Go.ChangeShapes.open_ints ht he hc hf with ⟨hcs, _⟩ | ⟨a, l, c, zs, hcs, _, hl, hm, hz, _, hcell, hwf⟩
  · simp [Value.cells] at hcs
    obtain ⟨rfl, rfl, rfl⟩ := hcs
    exact ⟨[], rfl, by unfold maxLen; omega, .inl rfl, by simp⟩
  · simp [Value.cells] at hcs
    obtain ⟨rfl, rfl, rfl⟩ := hcs
    simp only [if_true] at hz
    refine ⟨zs.take len, by simp; omega, by omega, ?_, fun n hn => hwf n (List.mem_of_mem_take hn)⟩
    by_cases h0 : len = 0
    · subst h0; exact .inl rfl
    · obtain ⟨b, off, spot⟩ := a
      have hc0 := hcell 0 (by omega)
      have hspot : spot = none := by simpa [Addr.add] using World.cell?_spot hc0
      subst hspot
      have hlt := World.block_lt_of_cell? W _ hc0
      refine .inr ⟨b, off, rfl, by simpa [Addr.add] using hlt, fun j hj => ?_⟩
      have hj' : j < len := by simp at hj; omega
      have := hcell j (by omega)
      simp only [Addr.add] at this
      have e : (⟨b, off + j, none⟩ : Addr) = if j = 0 then ⟨b, off, none⟩ else ⟨b, off + j, none⟩ := by split <;> simp_all
      rw [e]
      simpa [List.getD_eq_getElem?_getD, List.getElem?_take, hj'] using this

theorem own_kp {w w' : World} {X : Nat → Prop} {base : Nat} {e : TypeId} {z : Nat} {s : Value} {n : Nat} {xs : List Value} (h : w.ownsRow base e z s n xs) (hb : Kp X w w') (hx : ∀ k, s.ownBlock = some k → ¬ X k) : w'.ownsRow base e z s n xs := by
  obtain ⟨h1, h2⟩ := h
  refine ⟨h1, ?_⟩
  rcases h2 with h2 | ⟨g, cap, cur, rfl, hg, hh, r⟩
  · exact .inl h2
  · have hlt : g < w.heap.size := by
      rcases Nat.lt_or_ge g w.heap.size with h | h
      · exact h
      · rw [Array.getElem?_eq_none h] at hh; simp at hh
    exact .inr ⟨g, cap, cur, rfl, hg, by rw [hb.block g hlt (hx g rfl)]; exact hh, r⟩

theorem own_kept {w w' : World} {base : Nat} {e : TypeId} {z : Nat} {s : Value} {n : Nat} {xs : List Value} (h : w.ownsRow base e z s n xs) (hb : Below w.heap.size w w') : w'.ownsRow base e z s n xs :=
  own_kp (X := fun _ => False) h ⟨hb.os, hb.tape, hb.output, hb.size, fun k hk _ => hb.block k hk⟩ (fun _ _ => id)

theorem BuildAt.kp {X : Nat → Prop} {w w' : World} {pb : Nat} {s : Value} {l : List Bool} (h : BuildAt w pb s l) (hb : Kp X w w') (hp : ¬ X pb) (hx : ∀ k, s.ownBlock = some k → ¬ X k) : BuildAt w' pb s l := by
  have hlt := h.lt
  obtain ⟨b1, b2, b3, b4, b5, b6⟩ := h
  exact ⟨by rw [hb.cell (p := ⟨pb, 0, none⟩) hlt hp]; exact b1, by rw [hb.cell (p := ⟨pb, 1, none⟩) hlt hp]; exact b2, by rw [hb.frozen (p := ⟨pb, 0, none⟩) hlt hp]; exact b3, by rw [hb.frozen (p := ⟨pb, 1, none⟩) hlt hp]; exact b4, row_kp b5 hb hx, b6⟩

/-- The builder zb has the bits L; beside it two rows of the call's own, p and q, that share no memory with it. -/
def BG (w : World) (zb : Nat) (e7 e8 : TypeId) (v7 v8 : Value) (L : List Bool) (p q : List Value) (u : World) : Prop :=
  ∃ s, BuildAt u zb s L ∧ u.ownsRow (zb + 1) e7 1 v7 p.length p ∧ u.ownsRow (zb + 1) e8 1 v8 q.length q ∧ (∀ k, s.ownBlock = some k → zb < k ∧ v7.ownBlock ≠ some k ∧ v8.ownBlock ≠ some k) ∧
    (∀ k, v7.ownBlock = some k → v8.ownBlock ≠ some k) ∧ Below w.heap.size w u ∧ w.heap.size ≤ zb

theorem BG.kept {w u u' : World} {zb : Nat} {e7 e8 : TypeId} {v7 v8 : Value} {L : List Bool} {p q : List Value} (h : BG w zb e7 e8 v7 v8 L p q u) (hb : Below u.heap.size u u') : BG w zb e7 e8 v7 v8 L p q u' := by
  obtain ⟨s, h1, h2, h3, h4, h5, h6, h7⟩ := h
  exact ⟨s, h1.kept hb, own_kept h2 hb, own_kept h3 hb, h4, h5, h6.trans (hb.mono h6.size), h7⟩

theorem BG.alloc {w u : World} {zb : Nat} {e7 e8 : TypeId} {v7 v8 : Value} {L : List Bool} {p q : List Value} (h : BG w zb e7 e8 v7 v8 L p q u) (o : Obj) : BG w zb e7 e8 v7 v8 L p q (u.alloc o) := h.kept ((Below.refl _ _).alloc (Nat.le_refl _) _)

theorem BG.below {w u : World} {zb : Nat} {e7 e8 : TypeId} {v7 v8 : Value} {L : List Bool} {p q : List Value} (h : BG w zb e7 e8 v7 v8 L p q u) : Below w.heap.size w u := h.choose_spec.2.2.2.2.2.1

theorem BG.row7 {w u : World} {zb : Nat} {e7 e8 : TypeId} {v7 v8 : Value} {L : List Bool} {p q : List Value} (h : BG w zb e7 e8 v7 v8 L p q u) : u.ownsRow (zb + 1) e7 1 v7 p.length p := h.choose_spec.2.1
theorem BG.row8 {w u : World} {zb : Nat} {e7 e8 : TypeId} {v7 v8 : Value} {L : List Bool} {p q : List Value} (h : BG w zb e7 e8 v7 v8 L p q u) : u.ownsRow (zb + 1) e8 1 v8 q.length q := h.choose_spec.2.2.1
theorem BG.zlt {w u : World} {zb : Nat} {e7 e8 : TypeId} {v7 v8 : Value} {L : List Bool} {p q : List Value} (h : BG w zb e7 e8 v7 v8 L p q u) : zb < u.heap.size := h.choose_spec.1.lt

theorem BG.put {w u u' : World} {zb : Nat} {e7 e8 : TypeId} {v7 v8 s : Value} {L' : List Bool} {p q : List Value} (h2 : u.ownsRow (zb + 1) e7 1 v7 p.length p) (h3 : u.ownsRow (zb + 1) e8 1 v8 q.length q)
    (h4 : ∀ k, s.ownBlock = some k → zb < k ∧ v7.ownBlock ≠ some k ∧ v8.ownBlock ≠ some k) (h5 : ∀ k, v7.ownBlock = some k → v8.ownBlock ≠ some k) (h6 : Below w.heap.size w u) (h7 : w.heap.size ≤ zb) (hz : zb < u.heap.size)
    (hp : PutPost u zb s L' u') : BG w zb e7 e8 v7 v8 L' p q u' := by
  obtain ⟨s', k1, k2, k3⟩ := hp
  have n7 : ∀ k, v7.ownBlock = some k → ¬ PX zb s k := by
    rintro k hk (e | e)
    · have := (h2.lt k hk).1; omega
    · exact (h4 k e).2.1 hk
  have n8 : ∀ k, v8.ownBlock = some k → ¬ PX zb s k := by
    rintro k hk (e | e)
    · have := (h3.lt k hk).1; omega
    · exact (h4 k e).2.2 hk
  refine ⟨s', k1, own_kp h2 k3 n7, own_kp h3 k3 n8, ?_, h5, h6.trans (k3.toBelow h6.size ?_), h7⟩
  · intro k hk
    rcases k2 k hk with e | e
    · exact h4 k e
    · refine ⟨by omega, fun e7 => ?_, fun e8 => ?_⟩
      · have := (h2.lt k e7).2; omega
      · have := (h3.lt k e8).2; omega
  · rintro k hk (e | e)
    · omega
    · have := (h4 k e).1; omega

theorem put_bg {w u : World} {zb : Nat} {e7 e8 : TypeId} {v7 v8 : Value} {L bs : List Bool} {p q : List Value} (h : BG w zb e7 e8 v7 v8 L p q u) (x : Int) (n : Nat) (hx : x = (num bs : Int)) (hn : bs.length = n) (hn64 : n ≤ 64) (hl : L.length ≤ 10000) :
    Calls Try.prog 51 #[.pointer (some ⟨zb, 0, none⟩), .int .u64 x, .int .i64 (n : Int)] u fun e w' => e = .returned (.int .i64 0) ∧ BG w zb e7 e8 v7 v8 (L ++ bs) p q w' := by
  obtain ⟨s, h1, h2, h3, h4, h5, h6, h7⟩ := h
  obtain ⟨a, m, c, rfl⟩ := h1.form
  refine (put_ok zb a m c L bs x n u h1 hx hn hn64 (by omega)).mono ?_
  rintro e u' ⟨rfl, hp⟩
  exact ⟨rfl, BG.put h2 h3 h4 h5 h6 h7 h1.lt hp⟩

theorem bits_bg {w u : World} {zb : Nat} {e7 e8 : TypeId} {v7 v8 : Value} {L : List Bool} {p q : List Value} (h : BG w zb e7 e8 v7 v8 L p q u) (hl : L.length ≤ 10000) :
    Calls Try.prog 52 #[.pointer (some ⟨zb, 0, none⟩)] u fun e w' => e = .returned (.agg #[.int .i64 (L.length : Int), .slice (some ⟨u.heap.size + 1, 0, none⟩) (nw L.length) (nw L.length)]) ∧
      RowAt w' (.slice (some ⟨u.heap.size + 1, 0, none⟩) (nw L.length) (nw L.length)) L ∧ BG w zb e7 e8 v7 v8 L p q w' ∧ Below u.heap.size u w' := by
  obtain ⟨s, h1, hr⟩ := id h
  obtain ⟨a, m, c, rfl⟩ := h1.form
  exact (bits_any zb a m c L u h1 (by omega)).mono fun e w' hh => ⟨hh.1, hh.2.1, h.kept hh.2.2, hh.2.2⟩

theorem BG.app7 {w u u' : World} {zb : Nat} {e7 e8 : TypeId} {v7 v8 v7' : Value} {L : List Bool} {p p' q : List Value} (h : BG w zb e7 e8 v7 v8 L p q u) (hown : u'.ownsRow (zb + 1) e7 1 v7' p'.length p')
    (hg : u.grownBy u' v7.ownBlock) (hat : v7'.ownBlock = v7.ownBlock ∨ v7'.ownBlock = some u.heap.size) : BG w zb e7 e8 v7' v8 L p' q u' := by
  obtain ⟨s, h1, h2, h3, h4, h5, h6, h7⟩ := h
  have hz := h1.lt
  have hk : Kp (fun k => v7.ownBlock = some k) u u' := (Kp.refl _ u).grown hg (fun k hk _ => hk)
  refine ⟨s, h1.kp hk (fun e => ?_) (fun k hk e => (h4 k hk).2.1 e), hown, own_kp h3 hk (fun k hk e => h5 k e hk), ?_, ?_, h6.trans (hk.toBelow h6.size ?_), h7⟩
  · have := (h2.lt zb e).1; omega
  · intro k hk
    refine ⟨(h4 k hk).1, fun e => ?_, (h4 k hk).2.2⟩
    rcases hat with ha | ha
    · exact (h4 k hk).2.1 (ha ▸ e)
    · rw [ha] at e; have := row_lt h1.2.2.2.2.1 k hk; simp at e; omega
  · intro k hk e
    rcases hat with ha | ha
    · exact h5 k (ha ▸ hk) e
    · rw [ha] at hk; have := (h3.lt k e).2; simp at hk; omega
  · intro k hk e
    have := (h2.lt k e).1; omega

theorem BG.app8 {w u u' : World} {zb : Nat} {e7 e8 : TypeId} {v7 v8 v8' : Value} {L : List Bool} {p q q' : List Value} (h : BG w zb e7 e8 v7 v8 L p q u) (hown : u'.ownsRow (zb + 1) e8 1 v8' q'.length q')
    (hg : u.grownBy u' v8.ownBlock) (hat : v8'.ownBlock = v8.ownBlock ∨ v8'.ownBlock = some u.heap.size) : BG w zb e7 e8 v7 v8' L p q' u' := by
  obtain ⟨s, h1, h2, h3, h4, h5, h6, h7⟩ := h
  have hz := h1.lt
  have hk : Kp (fun k => v8.ownBlock = some k) u u' := (Kp.refl _ u).grown hg (fun k hk _ => hk)
  refine ⟨s, h1.kp hk (fun e => ?_) (fun k hk e => (h4 k hk).2.2 e), own_kp h2 hk (fun k hk e => h5 k hk e), hown, ?_, ?_, h6.trans (hk.toBelow h6.size ?_), h7⟩
  · have := (h3.lt zb e).1; omega
  · intro k hk
    refine ⟨(h4 k hk).1, (h4 k hk).2.1, fun e => ?_⟩
    rcases hat with ha | ha
    · exact (h4 k hk).2.2 (ha ▸ e)
    · rw [ha] at e; have := row_lt h1.2.2.2.2.1 k hk; simp at e; omega
  · intro k hk e
    rcases hat with ha | ha
    · exact h5 k hk (ha ▸ e)
    · rw [ha] at e; have := (h2.lt k hk).2; simp at e; omega
  · intro k hk e
    have := (h3.lt k e).1; omega

theorem BG.start {w u : World} {zb : Nat} (e7 e8 : TypeId) (h : BuildAt u zb (.slice none 0 0) []) (hb : Below w.heap.size w u) (hz : w.heap.size ≤ zb) : BG w zb e7 e8 (.slice none 0 0) (.slice none 0 0) [] [] [] u :=
  ⟨_, h, World.ownsRow_nil _ _ _ _, World.ownsRow_nil _ _ _ _, fun k hk => by simp [Value.ownBlock] at hk, fun k hk => by simp [Value.ownBlock] at hk, hb, hz⟩

/-- The bytes of a row, read again. -/
theorem back_str (l : List Bool) : (strOfNums (bytI l (p8 l.length))).size = p8 l.length ∧ sBits (strOfNums (bytI l (p8 l.length))) l.length = l ∧ Clean (strOfNums (bytI l (p8 l.length))) l.length := by
  have e : bytI l (p8 l.length) = ((List.range (p8 l.length)).map (byt l)).map fun k : Nat => (k : Int) := by simp [bytI]
  have hS := (str_list (strOfNums (bytI l (p8 l.length))) ((List.range (p8 l.length)).map (byt l)) (by
    intro x hx
    obtain ⟨k, -, rfl⟩ := List.mem_map.1 hx
    exact byt_lt _ _)).1 (by rw [← e])
  have hsz : (strOfNums (bytI l (p8 l.length))).size = p8 l.length := by
    have := congrArg List.length hS
    simpa using this.symm
  rw [hsz] at hS
  have hb : ∀ k, k < p8 l.length → sB (strOfNums (bytI l (p8 l.length))) k = byt l k := by
    intro k hk
    have := congrArg (fun x => x[k]?) hS
    simpa [hk] using this.symm
  have hbits : sBits (strOfNums (bytI l (p8 l.length))) l.length = l := by
    apply List.ext_getElem
    · rw [sBits_length]
    · intro i h1 h2
      have hi8 : i / 8 < p8 l.length := by unfold p8; omega
      simp only [sBits, List.getElem_map, List.getElem_range]
      rw [hb _ hi8, byt_bit, if_pos (by omega), show 8 * (i / 8) + i % 8 = i by omega]
      simp [List.getD_eq_getElem?_getD, h2]
  refine ⟨hsz, hbits, ?_⟩
  rw [← clean_str _ _ hsz, hbits]

theorem flat_step (bs : List (List Bool)) (i : Nat) (h : i < bs.length) :
    ((bs.flatten).drop ((bs.take i).flatten.length)).take (bs.getD i []).length = bs.getD i [] ∧ (bs.take (i + 1)).flatten.length = (bs.take i).flatten.length + (bs.getD i []).length ∧ (bs.take i).flatten.length + (bs.getD i []).length ≤ bs.flatten.length := by
  have hg : bs.getD i [] = bs[i] := by simp [List.getD_eq_getElem?_getD, h]
  have e : bs = bs.take i ++ bs[i] :: bs.drop (i + 1) := by
    rw [← List.drop_eq_getElem_cons h, List.take_append_drop]
  have ef : bs.flatten = (bs.take i).flatten ++ (bs[i] ++ (bs.drop (i + 1)).flatten) := by
    have := congrArg List.flatten e
    rw [List.flatten_append, List.flatten_cons] at this
    exact this
  refine ⟨?_, ?_, ?_⟩
  · rw [hg, ef]; simp
  · rw [List.take_succ_eq_append_getElem h, hg, List.flatten_append, List.length_append]
    simp only [List.flatten_cons, List.flatten_nil, List.append_nil]
  · rw [hg, ef]; simp

theorem flat_le (bs : List (List Bool)) (h : ∀ b ∈ bs, b.length ≤ 64) : bs.flatten.length ≤ 64 * bs.length := by
  induction bs with
  | nil => simp
  | cons b bs ih =>
    have h1 := h b (by simp)
    have h2 := ih (fun x hx => h x (by simp [hx]))
    simp only [List.flatten_cons, List.length_append, List.length_cons]
    omega

end Go.Proofs.Ytfhlcclbjagdmaa
