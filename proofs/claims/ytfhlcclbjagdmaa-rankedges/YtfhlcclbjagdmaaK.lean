/- The contract of put: what a builder holds. -/
import Derived.Test.YtfhlcclbjagdmaaJ
namespace Go.Proofs.Ytfhlcclbjagdmaa
open Go.RowKit
open M

/-- A builder at block pb that has the bits l; its words lie at s. -/
def BuildAt (w : World) (pb : Nat) (s : Value) (l : List Bool) : Prop :=
  w.cell? ⟨pb, 0, none⟩ = some (.int .i64 (l.length : Int)) ∧ w.cell? ⟨pb, 1, none⟩ = some s ∧ w.frozen? ⟨pb, 0, none⟩ = false ∧ w.frozen? ⟨pb, 1, none⟩ = false ∧ RowAt w s l ∧ s.ownBlock ≠ some pb

/-- The blocks that a put may turn. -/
def PX (pb : Nat) (s : Value) (k : Nat) : Prop := k = pb ∨ s.ownBlock = some k

/-- What holds while bits are put: w the world as the call began, s0 the words then, s the words now. -/
def PutI (w : World) (pb : Nat) (s0 s : Value) (l bs : List Bool) (m p : Nat) (wr : World) : Prop :=
  wr.cell? ⟨w.heap.size, 0, none⟩ = some (.pointer (some ⟨pb, 0, none⟩)) ∧ wr.cell? ⟨pb, 0, none⟩ = some (.int .i64 (l.length : Int)) ∧ wr.cell? ⟨pb, 1, none⟩ = some s ∧ wr.frozen? ⟨pb, 0, none⟩ = false ∧ wr.frozen? ⟨pb, 1, none⟩ = false ∧
  wr.cell? ⟨w.heap.size + 1, 0, none⟩ = some (.int .u64 (num (bs.drop (p - l.length)) : Nat)) ∧ wr.frozen? ⟨w.heap.size + 1, 0, none⟩ = false ∧
  wr.ownsRow 0 47 1 s m (wlN (l ++ bs.take (p - l.length)) m) ∧ Kp (PX pb s0) w wr

theorem orW (l b : List Bool) (k q : Nat) (hk : k = l.length / 64) (hq : q = l.length % 64) (hb : q + b.length ≤ 64) : bits .or .u64 (wd l k : Int) (IntKind.u64.wrap ((num b : Int) * 2 ^ q)) = (wd (l ++ b) k : Int) := by
  have e : (num b : Int) * 2 ^ q = ((num b * 2 ^ q : Nat) : Int) := by simp
  have h1 : num b * 2 ^ q < 2 ^ 64 := by
    have h3 : num b * 2 ^ q < 2 ^ b.length * 2 ^ q := Nat.mul_lt_mul_of_pos_right (num_lt b) (Nat.pow_pos (by decide))
    rw [← Nat.pow_add] at h3
    exact Nat.lt_of_lt_of_le h3 (Nat.pow_le_pow_right (by decide) (by omega))
  rw [e, wrapU _ h1, bits_or_u64_nat _ _ (wd_lt l k) h1, wd_append l b k (by omega), if_pos hk, hq]

theorem andW (b : List Bool) (n : Nat) (hb : b.length ≤ 64) (hn : n ≤ b.length) : bits .and .u64 (num b : Int) (((2 ^ n - 1 : Nat) : Int)) = (num (b.take n) : Int) := by
  have h1 : num b < 2 ^ 64 := Nat.lt_of_lt_of_le (num_lt b) (Nat.pow_le_pow_right (by decide) hb)
  have h2 : 2 ^ n - 1 < 2 ^ 64 := by
    have : (2 : Nat) ^ n ≤ 2 ^ 64 := Nat.pow_le_pow_right (by decide) (by omega)
    have : (0 : Nat) < 2 ^ n := Nat.pow_pos (by decide)
    omega
  rw [andU _ _ h1 h2, Nat.and_two_pow_sub_one_eq_mod, (num_take b n hn).1]

theorem put_step (w : World) (pb : Nat) (s0 s : Value) (l bs : List Bool) (m : Nat) (hpb : pb < w.heap.size) (hm : m = nw (l.length + bs.length)) (hb : bs.length ≤ 64)
    (hs : s.ownBlock ≠ some pb) (hs1 : s.ownBlock ≠ some w.heap.size) (hs2 : s.ownBlock ≠ some (w.heap.size + 1)) (hss : ∀ k, s.ownBlock = some k → k < w.heap.size → s0.ownBlock = some k) :
    Step 55 #[.pointer (some ⟨w.heap.size, 0, none⟩), .pointer (some ⟨w.heap.size + 1, 0, none⟩)] (PutI w pb s0 s l bs m) l.length (l.length + bs.length) := by
  intro p n wr x y z h1 h2 h3 h4 hI hx hy hz
  subst hx hy hz
  obtain ⟨i1, i2, i3, i4, i5, i6, i7, i8, i9⟩ := hI
  have hpm : p / 64 < m := by rw [hm]; unfold nw; omega
  have i8' := i8
  obtain ⟨j1, j2⟩ := i8
  rcases j2 with ⟨-, j2⟩ | ⟨g, cap, cur, rfl, -, -, -, -, -, -⟩
  · omega
  · have hlen : (l ++ bs.take (p - l.length)).length = p := by simp; omega
    have hc : wr.cell? ⟨g, p / 64, none⟩ = some (.int .u64 (wd (l ++ bs.take (p - l.length)) (p / 64) : Nat)) := by
      rw [i8'.cellAt (p / 64) (by omega)]; simp [wlN, hpm]
    have hg1 : g ≠ pb := fun e => hs (by rw [e]; rfl)
    have hg2 : g ≠ w.heap.size := fun e => hs1 (by rw [e]; rfl)
    have hg3 : g ≠ w.heap.size + 1 := fun e => hs2 (by rw [e]; rfl)
    have hdl : (bs.drop (p - l.length)).length = bs.length - (p - l.length) := by simp
    have hX : PX pb s0 g ∨ w.heap.size ≤ g := by
      by_cases e : g < w.heap.size
      · exact .inl (.inr (hss g rfl e))
      · exact .inr (by omega)
    refine (put1_any w.heap.size (w.heap.size + 1) pb g m cap (p / 64) n (p % 64) _ _ _ _ wr i1 i3 hc (i8'.frozenAt _) i6 i7 hg3 hpm (by omega) (by omega)
      (andW (bs.drop (p - l.length)) n (by omega) (by omega)) (orW (l ++ bs.take (p - l.length)) ((bs.drop (p - l.length)).take n) (p / 64) (p % 64) (by rw [hlen]) (by rw [hlen]) (by simp; omega))).mono ?_
    rintro e w' ⟨rfl, rfl⟩
    have hnum : ((num (bs.drop (p - l.length)) : Nat) : Int) / 2 ^ n = ((num (bs.drop (p + n - l.length)) : Nat) : Int) := by
      have e1 := (num_take (bs.drop (p - l.length)) n (by omega)).2
      rw [List.drop_drop, show p - l.length + n = p + n - l.length by omega] at e1
      rw [e1, Int.natCast_ediv]; simp
    have hlist : l ++ bs.take (p - l.length) ++ (bs.drop (p - l.length)).take n = l ++ bs.take (p + n - l.length) := by
      rw [List.append_assoc, ← List.take_add, show p - l.length + n = p + n - l.length by omega]
    rw [hnum, hlist]
    have cell2 : ∀ (a : Addr) (u v v1 v2 : Value), wr.cell? a = some u → a ≠ ⟨g, p / 64, none⟩ → a ≠ ⟨w.heap.size + 1, 0, none⟩ → ((wr.drew.setCell ⟨g, p / 64, none⟩ v1).setCell ⟨w.heap.size + 1, 0, none⟩ v2).cell? a = some u := by
      intro a u v v1 v2 ha n1 n2
      rw [World.cell?_setCell_other _ _ _ _ (Ne.symm n2), World.cell?_setCell_other _ _ _ _ (Ne.symm n1)]; simpa using ha
    refine ⟨rfl, ?_, ?_, ?_, ?_, ?_, ?_, ?_, ?_, ?_⟩
    · exact cell2 _ _ (.int .u64 0) _ _ i1 (by simp) (by simp)
    · exact cell2 _ _ (.int .u64 0) _ _ i2 (by simp) (by intro e; simp at e)
    · exact cell2 _ _ (.int .u64 0) _ _ i3 (by simp) (by simp)
    · simpa using i4
    · simpa using i5
    · rw [World.cell?_setCell_same _ _ _ (u := .int .u64 (num (bs.drop (p - l.length)) : Nat)) (by rw [World.cell?_setCell_other _ _ _ _ (by simp)]; simpa using i6)]
    · simpa using i7
    · have hst := (World.ownsRow.stored (w := wr.drew) i8' (p / 64) (.int .u64 (wd (l ++ bs.take (p + n - l.length)) (p / 64) : Nat))).1
      rw [← hlist, wlN_set (l ++ bs.take (p - l.length)) ((bs.drop (p - l.length)).take n) m (p / 64) (by rw [hlen]) (by rw [hlen]; simp; omega), hlist] at hst
      exact hst.kept (grown_setCell _ ⟨w.heap.size + 1, 0, none⟩ _) (.inr (by simp [Value.ownBlock]; omega))
    · exact (i9.drew.setCell hX _).setCell (.inr (by simp)) _

def PutPost (w : World) (pb : Nat) (s : Value) (L : List Bool) (w' : World) : Prop :=
  ∃ s', BuildAt w' pb s' L ∧ (∀ k, s'.ownBlock = some k → s.ownBlock = some k ∨ w.heap.size ≤ k) ∧ Kp (PX pb s) w w'

theorem PutI.drew {w wr : World} {pb : Nat} {s0 s : Value} {l bs : List Bool} {m p : Nat} (h : PutI w pb s0 s l bs m p wr) : PutI w pb s0 s l bs m p wr.drew := by
  obtain ⟨i1, i2, i3, i4, i5, i6, i7, i8, i9⟩ := h
  exact ⟨i1, i2, i3, i4, i5, i6, i7, i8, i9.drew⟩

theorem put_done (w wr : World) (pb : Nat) (s0 s : Value) (l bs : List Bool) (m : Nat) (hm : m = nw (l.length + bs.length)) (hs : s.ownBlock ≠ some pb) (hss : ∀ k, s.ownBlock = some k → s0.ownBlock = some k ∨ w.heap.size ≤ k)
    (h : PutI w pb s0 s l bs m (l.length + bs.length) wr) : PutPost w pb s0 (l ++ bs) (wr.setCell ⟨pb, 0, none⟩ (.int .i64 ((l.length + bs.length : Nat) : Int))) := by
  obtain ⟨i1, i2, i3, i4, i5, i6, i7, i8, i9⟩ := h
  refine ⟨s, ⟨?_, ?_, ?_, ?_, ?_, hs⟩, hss, i9.setCell (.inl (.inl rfl)) _⟩
  · rw [World.cell?_setCell_same _ _ _ i2]; simp
  · rw [World.cell?_setCell_other _ _ _ _ (by simp)]; exact i3
  · simpa using i4
  · simpa using i5
  · rw [show l.length + bs.length - l.length = bs.length by omega, List.take_length] at i8
    have := i8.kept (grown_setCell wr ⟨pb, 0, none⟩ (.int .i64 ((l.length + bs.length : Nat) : Int))) (.inr hs)
    unfold RowAt
    rw [List.length_append, ← hm]
    exact this

theorem wlN_more (l : List Bool) (m : Nat) (h : m = nw l.length) : wlN l (m + 1) = wlN l m ++ [.int .u64 0] := by
  simp only [wlN, List.range_succ, List.map_append, List.map_cons, List.map_nil]
  rw [wd_out l m (by omega)]
  rfl

/-- A word more, of a builder whose words are full. -/
theorem put_more (w W W2 w1 : World) (pb gg m0 cap cap' : Nat) (a0 : Option Addr) (l bs : List Bool) (hpb : pb < w.heap.size) (hm : m0 = nw l.length) (hs : (Value.slice a0 m0 cap).ownBlock ≠ some pb) (hWs : W.heap.size = w.heap.size + 1 + 1) (hn0 : (Value.slice a0 m0 cap).ownBlock ≠ some w.heap.size) (hn1 : (Value.slice a0 m0 cap).ownBlock ≠ some (w.heap.size + 1))
    (h : PutI w pb (.slice a0 m0 cap) (.slice a0 m0 cap) l bs m0 l.length W) (o : Obj) (hW2 : W2.heap = (W.alloc o).heap) (hos : W2.os = W.os) (htape : W2.tape = W.tape) (hout : W2.output = W.output)
    (hown : w1.ownsRow 0 47 1 (.slice (some ⟨gg, 0, none⟩) (m0 + 1) cap') (m0 + 1) (wlN l m0 ++ [.int .u64 0])) (hgrow : W2.grownBy w1 (Value.slice a0 m0 cap).ownBlock) (hat : (Value.slice a0 m0 cap).ownBlock = some gg ∨ gg = W.heap.size + 1) :
    PutI w pb (.slice a0 m0 cap) (.slice (some ⟨gg, 0, none⟩) (m0 + 1) cap') l bs (m0 + 1) l.length (w1.setCell ⟨pb, 1, none⟩ (.slice (some ⟨gg, 0, none⟩) (m0 + 1) cap')) ∧ gg ≠ pb ∧ gg ≠ w.heap.size ∧ gg ≠ w.heap.size + 1 ∧ w1.cell? ⟨pb, 1, none⟩ = some (.slice a0 m0 cap) ∧ w1.frozen? ⟨pb, 1, none⟩ = false ∧ w1.cell? ⟨w.heap.size, 0, none⟩ = some (.pointer (some ⟨pb, 0, none⟩)) := by
  obtain ⟨i1, i2, i3, i4, i5, i6, i7, i8, i9⟩ := h
  have hlt : ∀ k, (Value.slice a0 m0 cap).ownBlock = some k → k < W.heap.size := fun k hk => (i8.lt k hk).2
  have hsz : W2.heap.size = W.heap.size + 1 := by rw [hW2]; simp
  have far : ∀ (b i : Nat), b < W.heap.size → some b ≠ (Value.slice a0 m0 cap).ownBlock → w1.cell? ⟨b, i, none⟩ = W.cell? ⟨b, i, none⟩ ∧ w1.frozen? ⟨b, i, none⟩ = W.frozen? ⟨b, i, none⟩ := by
    intro b i hb hne
    have hbl : w1.heap[b]? = W.heap[b]? := by
      rw [hgrow.block b (by omega) hne, hW2]; exact Below.heap_alloc _ _ _ hb
    exact ⟨World.cell?_of_block (w := W) (a := ⟨b, i, none⟩) hbl, World.frozen?_of_block (w := W) (a := ⟨b, i, none⟩) hbl⟩
  have n0 : some w.heap.size ≠ (Value.slice a0 m0 cap).ownBlock := fun e => hn0 e.symm
  have n1 : some (w.heap.size + 1) ≠ (Value.slice a0 m0 cap).ownBlock := fun e => hn1 e.symm
  have g0 : gg ≠ pb := by rintro rfl; rcases hat with e | e; exact hs e; omega
  have g1 : gg ≠ w.heap.size := by rintro rfl; rcases hat with e | e; exact hn0 e; omega
  have g2 : gg ≠ w.heap.size + 1 := by rintro rfl; rcases hat with e | e; exact hn1 e; omega
  have p1 := far pb 1 (by omega) (Ne.symm hs)
  have p0 := far pb 0 (by omega) (Ne.symm hs)
  have b0 := far w.heap.size 0 (by omega) n0
  have b1 := far (w.heap.size + 1) 0 (by omega) n1
  refine ⟨⟨?_, ?_, ?_, ?_, ?_, ?_, ?_, ?_, ?_⟩, g0, g1, g2, by rw [p1.1]; exact i3, by rw [p1.2]; exact i5, by rw [b0.1]; exact i1⟩
  · rw [World.cell?_setCell_other _ _ _ _ (by simp), b0.1]; exact i1
  · rw [World.cell?_setCell_other _ _ _ _ (by simp), p0.1]; exact i2
  · rw [World.cell?_setCell_same _ _ _ (u := .slice a0 m0 cap) (by rw [p1.1]; exact i3)]
  · rw [World.frozen?_setCell, p0.2]; exact i4
  · rw [World.frozen?_setCell, p1.2]; exact i5
  · rw [World.cell?_setCell_other _ _ _ _ (by simp), b1.1]; exact i6
  · rw [World.frozen?_setCell, b1.2]; exact i7
  · simp only [Nat.sub_self, List.take_zero, List.append_nil]
    rw [wlN_more l m0 hm]
    exact hown.kept (grown_setCell w1 ⟨pb, 1, none⟩ _) (.inr (by simpa [Value.ownBlock] using g0))
  · refine Kp.setCell ?_ (.inl (.inl rfl)) _
    have k2 : Kp (PX pb (.slice a0 m0 cap)) w W2 := by
      have := i9.alloc o
      exact ⟨hos.trans this.os, htape.trans this.tape, hout.trans this.output, by rw [hW2]; exact this.size, fun k hk hx => by rw [hW2]; exact this.block k hk hx⟩
    exact k2.grown hgrow (fun k hk _ => .inr hk)

theorem parts_still (n : Int) (w : World) (h0 : 0 ≤ n) (h2 : n ≤ 1152921504606846976) :
    Calls Try.prog 37 #[.int .i64 n, .int .i64 64] w fun e w' => e = .returned (.int .i64 (nw n.toNat : Nat)) ∧ w' = w := (parts64 n w h0 h2).mono fun _ _ h => ⟨h.1, h.2.symm⟩

set_option maxHeartbeats 1000000 in
theorem put_any (pb : Nat) (a0 : Option Addr) (m0 cap : Nat) (l bs : List Bool) (x : Int) (n : Nat) (w : World) (hB : BuildAt w pb (.slice a0 m0 cap) l) (hx : x = (num bs : Int)) (hn : bs.length = n) (hn64 : n ≤ 64) (hl : l.length + n ≤ 1000000000) :
    Calls Try.prog 54 #[.pointer (some ⟨pb, 0, none⟩), .int .u64 x, .int .i64 (n : Int)] w fun e w' => e = .returned (.tuple #[]) ∧ PutPost w pb (.slice a0 m0 cap) (l ++ bs) w' := by
  obtain ⟨b1, b2, b3, b4, b5, b6⟩ := hB
  have hm0 : m0 = nw l.length := b5.some.1
  have hpb := World.block_lt_of_cell? w _ b1
  simp only at hpb
  have HX := Lib.hid hx
  have HN := Lib.hid hn
  have HM := Lib.hid hm0
  have H5 := Lib.hid (And.intro b5 b6)
  clear hx hn b5 b6 hm0
  generalize hln : l.length = ln at *
  have HL := Lib.hid hln
  clear hln
  have hbox : PutI w pb (.slice a0 m0 cap) (.slice a0 m0 cap) l bs m0 l.length ((w.alloc (Obj.cells #[.pointer (some ⟨pb, 0, none⟩)] 67)).alloc (Obj.cells #[.int .u64 x] 47)) := by
    have e : l.length = ln := HL.out
    refine ⟨?_, ?_, ?_, ?_, ?_, ?_, ?_, ?_, ?_⟩
    · rw [cell_old _ _ _ _ (by simp), cell_new _ _ _ _ _ rfl]; simp
    · rw [cell_old _ _ _ _ (by simp; omega), cell_old _ _ _ _ hpb, b1, e]
    · rw [cell_old _ _ _ _ (by simp; omega), cell_old _ _ _ _ hpb, b2]
    · rw [frozen_old _ _ _ _ (by simp; omega), frozen_old _ _ _ _ hpb, b3]
    · rw [frozen_old _ _ _ _ (by simp; omega), frozen_old _ _ _ _ hpb, b4]
    · rw [cell_new _ _ _ _ _ (by simp)]; simp [HX.out]
    · rw [frozen_new _ _ _ _ _ (by simp)]
    · have := H5.out.1
      simp only [Nat.sub_self, List.take_zero, List.append_nil]
      unfold RowAt at this
      rw [e, ← HM.out] at this
      exact (this.alloc _).alloc _
    · exact ((Kp.refl _ _).alloc _).alloc _
  have HP := Lib.hid hbox
  clear hbox
  by_cases hm : m0 < nw (ln + n)
  · have hmm : m0 + 1 = nw (ln + n) := by have := HM.out; unfold nw at *; omega
    obtain ⟨i0, hi, hz0, hz1, hz2⟩ := info_parts info47
    go_enter Try.func54, Try.ntmps54
    go_wp2
    generalize hW : ((w.alloc (Obj.cells #[.pointer (some ⟨pb, 0, none⟩)] 67)).alloc (Obj.cells #[.int .u64 x] 47)) = W at *
    have hWs : W.heap.size = w.heap.size + 1 + 1 := by rw [← hW]; simp
    have HW := Lib.hid (And.intro hW hWs)
    clear hW b1 b2 b3 b4 hWs
    obtain ⟨c1, c2, c3, c4, c5, c6, c7, c8, c9⟩ := HP.out
    rw [HL.out] at c2
    have C := Lib.hid (And.intro c6 (And.intro c7 (And.intro c8 c9)))
    clear c6 c7 c8 c9
    have q0 : IntKind.i64.wrap ((ln : Int) + (n : Int)) = (ln : Int) + (n : Int) := IntWalk.i64_in _ (by omega)
    have q1 : ((ln : Int) + (n : Int)).toNat = ln + n := by omega
    refine wp_region_still_lit mixed (by kernel_rfl) ?_
    repeat still_step
    still_call (parts_still _ _ (by omega) (by omega))
    rw [q1]
    repeat still_step
    refine wpStill_nil ?_
    clear q0 q1 c1 c2 c3 c4 c5 C
    go_wp2
    change Code.wp _ _ _ _ W.drew
    have hV := HP.out.drew
    have hVs : W.drew.heap.size = w.heap.size + 1 + 1 := HW.out.2
    generalize W.drew = V at *
    clear HP HW
    obtain ⟨c1, c2, c3, c4, c5, c6, c7, c8, c9⟩ := id hV
    simp only [Nat.sub_self, List.take_zero, List.append_nil] at c8
    have hn0 : (Value.slice a0 m0 cap).ownBlock ≠ some w.heap.size := fun e => by have := (H5.out.1.lt _ e).2; omega
    have hn1 : (Value.slice a0 m0 cap).ownBlock ≠ some (w.heap.size + 1) := fun e => by have := (H5.out.1.lt _ e).2; omega
    have C8 := Lib.hid c8
    have HV := Lib.hid (And.intro hV hVs)
    have HNN := Lib.hid (And.intro hn0 hn1)
    have hpV : pb < V.heap.size := by omega
    have hHV : w.heap.size < V.heap.size := by omega
    have hps : m0 + 1 ≤ maxLen := by unfold maxLen; rw [hmm]; unfold nw; omega
    have hpb8 : (m0 + 1) * 8 ≤ 140737488355328 := by rw [hmm]; unfold nw; omega
    have HMM := Lib.hid hmm
    clear c2 c4 c6 c7 c8 c9 hV hVs hn0 hn1 hmm
    go_region_law
      ((refine step_append_lies _ (by rfl) _ _ _ (by rfl) 0 47 i0 _ 1 8 Try.underlying28 hi hz0 hz1 hz2 rfl (by omega) (.slice a0 m0 cap) m0 (wlN l m0) (by rfl) ((C8.out.alloc _).drew)
          ⟨V.heap.size, 0, none⟩ 1 1 [.int .u64 0] (by rfl) (by rfl) (World.news_of_block (cs := #[.int .u64 0]) (t := 47) (fr := (0, 0)) (heap_alloc_new V _)) (by simp [Value.oneCell'])
          (by omega) hps hpb8 (by omega) (V.heap.size + 1) (by simp) ?_; intro gg cap' w1 hown1 hgrow hat hlt1
        have hmore := put_more w V ((V.alloc (.cells #[.int .u64 0] 47)).drew) w1 pb gg m0 cap cap' a0 l bs hpb (by rw [HL.out]; exact HM.out) H5.out.2 HV.out.2 HNN.out.1 HNN.out.2 HV.out.1 (.cells #[.int .u64 0] 47) rfl rfl rfl rfl hown1 hgrow hat
        obtain ⟨mm1, mm2, mm3, mm4, mm5, mm6, mm7⟩ := hmore
        have MM := Lib.hid (And.intro mm1 (And.intro mm2 (And.intro mm3 (And.intro mm4 hat))))
        clear hown1 hgrow hat mm1 mm2 mm3 mm4 hlt1))
    all_goals
      obtain ⟨t1, t2, t3, t4, t5⟩ := MM.out
      obtain ⟨d1, d2, d3, d4, d5, d6, d7, d8, d9⟩ := id t1
      have hst := put_step w pb (.slice a0 m0 cap) (.slice (some ⟨gg, 0, none⟩) (m0 + 1) cap') l bs (m0 + 1) hpb (by rw [HL.out, HN.out]; exact HMM.out) (by rw [HN.out]; exact hn64)
        (fun e => t2 (by simpa [Value.ownBlock] using e)) (fun e => t3 (by simpa [Value.ownBlock] using e)) (fun e => t4 (by simpa [Value.ownBlock] using e))
        (fun k hk hlt => by
          have hk : gg = k := by simpa [Value.ownBlock] using hk
          subst hk
          rcases t5 with e | e
          · exact e
          · omega)
      rw [HL.out, HN.out] at hst
      rw [HL.out] at t1 d2
      have T1 := Lib.hid (And.intro t1 hst)
      have hss : ∀ k, (Value.slice (some ⟨gg, 0, none⟩) (m0 + 1) cap').ownBlock = some k → (Value.slice a0 m0 cap).ownBlock = some k ∨ w.heap.size ≤ k := fun k hk => by
        have hk : gg = k := by simpa [Value.ownBlock] using hk
        subst hk
        rcases t5 with e | e
        · exact .inl e
        · exact .inr (by omega)
      have hgp : (Value.slice (some ⟨gg, 0, none⟩) (m0 + 1) cap').ownBlock ≠ some pb := fun e => t2 (by simpa [Value.ownBlock] using e)
      have T2 := Lib.hid (And.intro hss hgp)
      clear t1 t2 t3 t4 t5 d6 d7 d8 d9 hst hss hgp MM mm5 mm6 mm7 c1 c3 c5 C8 HV HNN
      generalize (w1.setCell ⟨pb, 1, none⟩ (.slice (some ⟨gg, 0, none⟩) (m0 + 1) cap')) = U at *
      go_wp2_with fail
      refine (eachPiece_int 55 _ _ ln (ln + n) _ _ _ ent55 (by omega) (by omega) rfl (by omega) T1.out.1 T1.out.2).mono ?_
      clear d1 d2 d3 d4 d5
      rintro e w' ⟨rfl, hI⟩
      obtain ⟨d1, d2, d3, d4, d5, d6, d7, d8, d9⟩ := id hI
      have HI := Lib.hid hI
      clear d6 d7 d8 d9 hI
      go_wp2
      go_end0
      have := put_done w w' pb (.slice a0 m0 cap) (.slice (some ⟨gg, 0, none⟩) (m0 + 1) cap') l bs (m0 + 1) (by rw [HL.out, HN.out]; exact HMM.out) T2.out.2 T2.out.1 (by rw [HL.out, HN.out]; exact HI.out)
      rw [HL.out, HN.out] at this
      exact ⟨rfl, by simpa using this⟩
  · have hmm : m0 = nw (ln + n) := by have := HM.out; unfold nw at *; omega
    go_enter Try.func54, Try.ntmps54
    go_wp2
    generalize hW : ((w.alloc (Obj.cells #[.pointer (some ⟨pb, 0, none⟩)] 67)).alloc (Obj.cells #[.int .u64 x] 47)) = W at *
    have HW := Lib.hid hW
    clear hW b1 b2 b3 b4
    obtain ⟨c1, c2, c3, c4, c5, c6, c7, c8, c9⟩ := HP.out
    rw [HL.out] at c2
    have C := Lib.hid (And.intro c6 (And.intro c7 (And.intro c8 c9)))
    clear c6 c7 c8 c9
    have q0 : IntKind.i64.wrap ((ln : Int) + (n : Int)) = (ln : Int) + (n : Int) := IntWalk.i64_in _ (by omega)
    have q1 : ((ln : Int) + (n : Int)).toNat = ln + n := by omega
    refine wp_region_still_lit mixed (by kernel_rfl) ?_
    repeat still_step
    still_call (parts_still _ _ (by omega) (by omega))
    rw [q1]
    repeat still_step
    refine wpStill_nil ?_
    clear q0 q1
    go_wp2_with fail
    have hst := put_step w pb (.slice a0 m0 cap) (.slice a0 m0 cap) l bs m0 hpb (by rw [HL.out, HN.out]; exact hmm) (by rw [HN.out]; exact hn64) H5.out.2 ?_ ?_ ?_
    rw [HL.out, HN.out] at hst
    have hpi := HP.out.drew
    rw [HL.out] at hpi
    refine (eachPiece_int 55 _ _ ln (ln + n) _ _ _ ent55 (by omega) (by omega) rfl (by omega) hpi hst).mono ?_
    · clear hpi hst
      rintro e w' ⟨rfl, hI⟩
      obtain ⟨d1, d2, d3, d4, d5, d6, d7, d8, d9⟩ := id hI
      have HI := Lib.hid hI
      clear d6 d7 d8 d9 hI
      go_wp2
      go_end0
      have := put_done w w' pb (.slice a0 m0 cap) (.slice a0 m0 cap) l bs m0 (by rw [HL.out, HN.out]; exact hmm) H5.out.2 (fun k hk => .inl hk) (by rw [HL.out, HN.out]; exact HI.out)
      rw [HL.out, HN.out] at this
      exact ⟨rfl, by simpa using this⟩
    · intro e
      have := (H5.out.1.lt _ e).2
      omega
    · intro e
      have := (H5.out.1.lt _ e).2
      omega
    · intro k hk _; exact hk

end Go.Proofs.Ytfhlcclbjagdmaa
