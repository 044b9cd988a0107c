/- What the gathering of samples holds, and one step of it. -/
import Derived.Test.YtpnjccomngdblaaGreatZJ
set_option maxRecDepth 100000
namespace Go.Proofs.YtpnjccomngdblaaGreat
open Go.RowKit
open M
attribute [local go_sem ↓] Go.wp_at_zero Go.wp_at_succ

/-- The blocks: of what is told; the marks and their box; the samples' box; the places and their box; what is newer. -/
structure GB where
  r : Nat
  M : Nat
  B4 : Nat
  B5 : Nat
  Q : Nat
  B6 : Nat
  base : Nat
  N : Nat
  T : Nat
structure GM (w : World) (G : GB) (mk : Nat → Bool) (pc : Nat → Int) (sv : Value) (sm : List Int) (u : World) : Prop where
  c4 : u.cell? ⟨G.B4, 0, none⟩ = some (.slice (some ⟨G.M, 0, none⟩) G.N G.N)
  c5 : u.cell? ⟨G.B5, 0, none⟩ = some sv
  z5 : u.frozen? ⟨G.B5, 0, none⟩ = false
  c6 : u.cell? ⟨G.B6, 0, none⟩ = some (.slice (some ⟨G.Q, 0, none⟩) G.T G.T)
  m : ∀ j, j < G.N → u.cell? ⟨G.M, j, none⟩ = some (.bool (mk j))
  mz : ∀ j, j < G.N → u.frozen? ⟨G.M, j, none⟩ = false
  q : ∀ j, j < G.T → u.cell? ⟨G.Q, j, none⟩ = some (.int .i64 (pc j))
  qz : ∀ j, j < G.T → u.frozen? ⟨G.Q, j, none⟩ = false
  th : u.there G.r 0 17
  ty : Typ u G.r 37
  own : u.ownsRow G.base 3 1 sv sm.length (sm.map (Value.int .i64))
  lo : w.heap.size ≤ G.r ∧ G.r < G.M ∧ G.M < G.B4 ∧ G.B4 < G.B5 ∧ G.B5 < G.Q ∧ G.Q < G.B6 ∧ G.B6 < G.base ∧ G.base ≤ u.heap.size
  bel : Below w.heap.size w u

variable {w u u' : World} {G : GB} {mk mk' : Nat → Bool} {pc pc' : Nat → Int} {sv sv' : Value} {sm sm' : List Int}
theorem there_kp {X : Nat → Prop} {w w' : World} {b n : Nat} (h : w.there b 0 n) (hb : b < w.heap.size) (hk : Kp X w w') (hx : ¬ X b) : w'.there b 0 n := fun j hj => by
  rw [hk.cell (p := ⟨b, 0 + j, none⟩) hb hx, hk.frozen (p := ⟨b, 0 + j, none⟩) hb hx]
  exact h j hj
/-- Whatever is done to newer blocks, but for the samples' own one. -/
theorem GM.kp {X : Nat → Prop} (h : GM w G mk pc sv sm u) (hk : Kp X u u') (hX : ∀ k, X k → G.base ≤ k) (hown : u'.ownsRow G.base 3 1 sv sm.length (sm.map (Value.int .i64))) : GM w G mk pc sv sm u' := by
  have lo := h.lo
  have nx : ∀ k, k < G.base → ¬ X k := fun k hk e => by have := hX k e; omega
  have cl : ∀ b o, b < G.base → u'.cell? ⟨b, o, none⟩ = u.cell? ⟨b, o, none⟩ := fun b o hb => hk.cell (p := ⟨b, o, none⟩) (by show b < _; omega) (nx b hb)
  have fz : ∀ b o, b < G.base → u'.frozen? ⟨b, o, none⟩ = u.frozen? ⟨b, o, none⟩ := fun b o hb => hk.frozen (p := ⟨b, o, none⟩) (by show b < _; omega) (nx b hb)
  exact ⟨by rw [cl _ _ (by omega)]; exact h.c4, by rw [cl _ _ (by omega)]; exact h.c5, by rw [fz _ _ (by omega)]; exact h.z5, by rw [cl _ _ (by omega)]; exact h.c6,
    fun j hj => by rw [cl _ _ (by omega)]; exact h.m j hj, fun j hj => by rw [fz _ _ (by omega)]; exact h.mz j hj,
    fun j hj => by rw [cl _ _ (by omega)]; exact h.q j hj, fun j hj => by rw [fz _ _ (by omega)]; exact h.qz j hj,
    there_kp h.th (by omega) hk (nx _ (by omega)), h.ty.kp hk (nx _ (by omega)), hown, by have := hk.size; omega, h.bel.trans (hk.toBelow h.bel.size fun k hkk e => by have := hX k e; omega)⟩
theorem GM.kept (h : GM w G mk pc sv sm u) (hb : Below u.heap.size u u') : GM w G mk pc sv sm u' := h.kp (X := fun _ => False) (Below.kp hb) (fun _ e => e.elim) (own_kept h.own hb)
theorem GM.drew (h : GM w G mk pc sv sm u) : GM w G mk pc sv sm u.drew := h.kept ((Below.refl _ _).drew)
theorem GM.alloc (h : GM w G mk pc sv sm u) (o : Obj) : GM w G mk pc sv sm (u.alloc o) := h.kept (al _ _)
theorem GM.setOld (h : GM w G mk pc sv sm u) {b o : Nat} (hb : b < G.base) (v : Value) : (u.setCell ⟨b, o, none⟩ v).ownsRow G.base 3 1 sv sm.length (sm.map (Value.int .i64)) := by
  have hk : Kp (fun k => k = b) u (u.setCell ⟨b, o, none⟩ v) := Kp.setCell (X := fun k => k = b) (p := ⟨b, o, none⟩) (Kp.refl _ u) (.inl rfl) _
  exact own_kp h.own hk (fun k e ek => by have := (h.own.lt k e).1; omega)
theorem cell_oth (u : World) {b b' : Nat} (o o' : Nat) (v : Value) (h : b ≠ b') : (u.setCell ⟨b, o, none⟩ v).cell? ⟨b', o', none⟩ = u.cell? ⟨b', o', none⟩ := World.cell?_setCell_other _ _ _ _ (fun e => h (congrArg Addr.block e))
theorem there_set {b n : Nat} (h : u.there b 0 n) (p : Addr) (v : Value) : (u.setCell p v).there b 0 n := by
  have := World.there_setCells h p.block p.off [v]
  intro j hj
  refine ⟨?_, by simpa using (h j hj).2⟩
  obtain ⟨x, hx⟩ := Option.isSome_iff_exists.1 (h j hj).1
  by_cases e : p = ⟨b, 0 + j, none⟩
  · rw [e, World.cell?_setCell_same _ _ _ hx]; rfl
  · rw [World.cell?_setCell_other _ _ _ _ e, hx]; rfl
theorem GM.mark (h : GM w G mk pc sv sm u) {i : Nat} (_hi : i < G.N) : GM w G (fun j => if j = i then true else mk j) pc sv sm (u.setCell ⟨G.M, i, none⟩ (.bool true)) := by
  have lo := h.lo
  refine ⟨by rw [cell_oth _ _ _ _ (by omega)]; exact h.c4, by rw [cell_oth _ _ _ _ (by omega)]; exact h.c5, by simpa using h.z5, by rw [cell_oth _ _ _ _ (by omega)]; exact h.c6, fun j hj => ?_, fun j hj => by simpa using h.mz j hj,
    fun j hj => by rw [cell_oth _ _ _ _ (by omega)]; exact h.q j hj, fun j hj => by simpa using h.qz j hj, there_set h.th _ _, h.ty.set _ _, h.setOld (by omega) _, by simpa using lo, h.bel.setCell (p := ⟨G.M, i, none⟩) (by show _ ≤ G.M; omega) _⟩
  rw [cell_set _ _ _ _ _ _ (h.m j hj)]
  by_cases e : j = i
  · rw [if_pos e, if_pos e]
  · rw [if_neg e, if_neg e]
theorem GM.place (h : GM w G mk pc sv sm u) {i : Nat} (_hi : i < G.T) (x : Int) : GM w G mk (fun j => if j = i then x else pc j) sv sm (u.setCell ⟨G.Q, i, none⟩ (.int .i64 x)) := by
  have lo := h.lo
  refine ⟨by rw [cell_oth _ _ _ _ (by omega)]; exact h.c4, by rw [cell_oth _ _ _ _ (by omega)]; exact h.c5, by simpa using h.z5, by rw [cell_oth _ _ _ _ (by omega)]; exact h.c6, fun j hj => by rw [cell_oth _ _ _ _ (by omega)]; exact h.m j hj, fun j hj => by simpa using h.mz j hj,
    fun j hj => ?_, fun j hj => by simpa using h.qz j hj, there_set h.th _ _, h.ty.set _ _, h.setOld (by omega) _, by simpa using lo, h.bel.setCell (p := ⟨G.Q, i, none⟩) (by show _ ≤ G.Q; omega) _⟩
  rw [cell_set _ _ _ _ _ _ (h.q j hj)]
  by_cases e : j = i
  · rw [if_pos e, if_pos e]
  · rw [if_neg e, if_neg e]
theorem GM.samp (h : GM w G mk pc sv sm u) (hown : u'.ownsRow G.base 3 1 sv' sm'.length (sm'.map (Value.int .i64))) (hg : u.grownBy u' sv.ownBlock) : GM w G mk pc sv' sm' (u'.setCell ⟨G.B5, 0, none⟩ sv') := by
  have lo := h.lo
  have hk : Kp (fun k => sv.ownBlock = some k) u u' := (Kp.refl _ u).grown hg (fun k hk _ => hk)
  have nx : ∀ k, k < G.base → ¬ sv.ownBlock = some k := fun k hk e => by have := (h.own.lt k e).1; omega
  have cl : ∀ b o, b < G.base → u'.cell? ⟨b, o, none⟩ = u.cell? ⟨b, o, none⟩ := fun b o hb => hk.cell (p := ⟨b, o, none⟩) (by show b < _; omega) (nx b hb)
  have fz : ∀ b o, b < G.base → u'.frozen? ⟨b, o, none⟩ = u.frozen? ⟨b, o, none⟩ := fun b o hb => hk.frozen (p := ⟨b, o, none⟩) (by show b < _; omega) (nx b hb)
  have hsz := hk.size
  have hb5 : u'.cell? ⟨G.B5, 0, none⟩ = some sv := by rw [cl _ _ (by omega)]; exact h.c5
  have hk2 : Kp (fun k => k = G.B5) u' (u'.setCell ⟨G.B5, 0, none⟩ sv') := Kp.setCell (X := fun k => k = G.B5) (p := ⟨G.B5, 0, none⟩) (Kp.refl _ u') (.inl rfl) _
  exact ⟨by rw [cell_oth _ _ _ _ (by omega), cl _ _ (by omega)]; exact h.c4, World.cell?_setCell_same _ _ _ hb5, by rw [World.frozen?_setCell, fz _ _ (by omega)]; exact h.z5, by rw [cell_oth _ _ _ _ (by omega), cl _ _ (by omega)]; exact h.c6,
    fun j hj => by rw [cell_oth _ _ _ _ (by omega), cl _ _ (by omega)]; exact h.m j hj, fun j hj => by rw [World.frozen?_setCell, fz _ _ (by omega)]; exact h.mz j hj,
    fun j hj => by rw [cell_oth _ _ _ _ (by omega), cl _ _ (by omega)]; exact h.q j hj, fun j hj => by rw [World.frozen?_setCell, fz _ _ (by omega)]; exact h.qz j hj,
    there_set (there_kp h.th (by omega) hk (nx _ (by omega))) _ _, (h.ty.kp hk (nx _ (by omega))).set _ _, own_kp hown hk2 (fun k e ek => by have := (hown.lt k e).1; omega), by simp; omega,
    (h.bel.trans (hk.toBelow h.bel.size fun k hkk e => by have := (h.own.lt k e).1; omega)).setCell (p := ⟨G.B5, 0, none⟩) (by show _ ≤ G.B5; omega) _⟩
theorem GM.congr (h : GM w G mk pc sv sm u) (h1 : ∀ j, j < G.N → mk j = mk' j) (h2 : ∀ j, j < G.T → pc j = pc' j) : GM w G mk' pc' sv sm u :=
  { h with m := fun j hj => by rw [← h1 j hj]; exact h.m j hj, q := fun j hj => by rw [← h2 j hj]; exact h.q j hj }

set_option maxHeartbeats 2000000 in
/-- One suffix more that is marked. -/
theorem gather_any (i b : Nat) (h : GM w G mk pc sv sm u) (hi : i < G.N) (hb : b ≤ 1000000) (hbt : mfN b < G.T) (hsm : sm.length ≤ 1000000) :
    Calls Tryz.prog 104 #[.int .i64 (i : Int), .int .i64 (b : Int), .pointer (some ⟨G.B4, 0, none⟩), .pointer (some ⟨G.B5, 0, none⟩), .pointer (some ⟨G.B6, 0, none⟩)] u fun e u' => e = .returned (.tuple #[]) ∧
      ∃ sv', GM w G (fun j => if j = i then true else mk j) (fun j => if j = mfN b then (i : Int) else pc j) sv' (sm ++ [(b : Int)]) u' := by
  have hm := h.m i hi
  have hmz := h.mz i hi
  have h1 := h.mark hi
  have c4 := h.c4
  have hmk := fun w => mark_any b w hb
  obtain ⟨t, ht⟩ : ∃ t, mfN b = t := ⟨_, rfl⟩
  rw [ht] at hbt hmk ⊢
  have H1 := Lib.hid h1
  have HMK := Lib.hid hmk
  have q1 : (i : Int) < (G.N : Int) := by omega
  have q2 : (0 : Int) ≤ (i : Int) := by omega
  clear h h1 hmk ht
  go_enter Tryz.func104, Tryz.ntmps104
  go_upto_region 1 with fail
  obtain ⟨w1, hw1⟩ : ∃ w1, u.setCell ⟨G.M, i, none⟩ (.bool true) = w1 := ⟨_, rfl⟩
  rw [hw1] at H1
  rw [hw1]
  clear hw1 hm hmz c4
  have c5 := H1.out.c5
  have z5 := H1.out.z5
  have hgs : G.base ≤ w1.heap.size := H1.out.lo.2.2.2.2.2.2.2
  go_wp2_with (first
    | (at_builtin
       refine wpList_append_nums rfl (.tmp 10) (.tmp 12) rfl G.base _ _ _ rfl (H1.out.alloc _).own (some ⟨_, 0, none⟩) 1 1 [(b : Int)] rfl rfl ?c1 (by simp) ?c2 ?c3 ?_))
  case c1 => exact nums_one _ _
  case c2 => omega
  case c3 => first | omega | (simp; omega)
  intro v' w5 hown hgrow _
  have hown : w5.ownsRow G.base 3 1 v' (sm ++ [(b : Int)]).length ((sm ++ [(b : Int)]).map (Value.int .i64)) := by simpa using hown
  obtain ⟨A', k', rfl, -, -, -, -, -⟩ := nums_of_own hown
  obtain ⟨L, hL⟩ : ∃ L, (sm ++ [(b : Int)]).length = L := ⟨_, rfl⟩
  have h5 := (H1.out.alloc _).samp (sm' := sm ++ [(b : Int)]) hown hgrow
  rw [hL] at h5 ⊢
  have H5 := Lib.hid h5
  have hk5 : Kp (fun k => sv.ownBlock = some k) (w1.alloc (.cells #[.int .i64 (b : Int)] 3)) w5 := (Kp.refl _ _).grown hgrow (fun k hk _ => hk)
  have hne5 : ¬ sv.ownBlock = some G.B5 := fun e => by have := (H1.out.own.lt _ e).1; have := H1.out.lo; omega
  have hlt5 : G.B5 < (w1.alloc (.cells #[.int .i64 (b : Int)] 3)).heap.size := by have := H1.out.lo; simp; omega
  have e5 := hk5.cell (p := ⟨G.B5, 0, none⟩) hlt5 hne5
  have f5 := hk5.frozen (p := ⟨G.B5, 0, none⟩) hlt5 hne5
  rw [(H1.out.alloc _).c5] at e5
  rw [(H1.out.alloc _).z5] at f5
  clear hL
  clear hown hgrow h5 hk5 hne5 hlt5 c5 z5
  go_upto_region 2 with fail
  obtain ⟨w6, hw6⟩ : ∃ w6, w5.setCell ⟨G.B5, 0, none⟩ (.slice A' L k') = w6 := ⟨_, rfl⟩
  rw [hw6] at H5
  rw [hw6]
  clear hw6 e5 f5
  have hA := H5.out
  try simp only [List.append_eq, List.cons_append, List.nil_append]
  refine wp_region_held_drew (S := fun w' => ∃ pc', GM w G (fun j => if j = i then true else mk j) pc' (.slice A' L k') (sm ++ [(b : Int)]) w') (by kernel_rfl) (⟨_, hA.drew⟩) (fun hHeld => ?_)
  replace hA := hA.drew
  refine wpAnyH_take (i := 0) (oi := ⟨some 14, _, _, _, _, _⟩) (v := ?_) rfl (by kernel_rfl) (by kernel_rfl) (by kernel_rfl) (fun _ _ _ h => h) (Or.inl ⟨by kernel_rfl, ?_⟩) (by assumption) ?_
  case refine_2 => (intro w hSw; obtain ⟨_, hSw⟩ := hSw; have c6 := GM.c6 hSw; go_simp; try (with_reducible rfl))
  try simp only [Act.put, List.setIfInBounds_toArray, List.set_cons_zero, List.set_cons_succ]
  refine wpAnyH_take (i := 1) (oi := ⟨some 15, _, _, _, _, _⟩) (v := ?_) rfl (by kernel_rfl) (by kernel_rfl) (by kernel_rfl) (fun _ _ _ h => h) (Or.inl ⟨by kernel_rfl, ?_⟩) (by assumption) ?_
  case refine_2 => (intro w hSw; go_simp; try (with_reducible rfl))
  try simp only [Act.put, List.setIfInBounds_toArray, List.set_cons_zero, List.set_cons_succ]
  refine wpAnyH_take (i := 3) (oi := ⟨some 17, _, _, _, _, _⟩) (v := ?_) rfl (by kernel_rfl) (by kernel_rfl) (by kernel_rfl) (fun _ _ _ h => h) (Or.inl ⟨by kernel_rfl, ?_⟩) (by assumption) ?_
  case refine_2 => (intro w hSw; go_simp; try (with_reducible rfl))
  try simp only [Act.put, List.setIfInBounds_toArray, List.set_cons_zero, List.set_cons_succ]
  refine wpAnyH_ready (rs := [2]) (by kernel_rfl) (by simp) ?_
  refine AllReadyH.cons rfl (fun K hK => ?_) AllReadyH.nil
  go_simp
  (with_reducible refine (HMK.out _).mono ?_)
  rintro e u ⟨rfl, rfl⟩
  clear hHeld
  refine hK.out _ _ (⟨_, hA⟩) (fun hHeld => ?_)
  clear hK K
  try simp only [Act.put, List.setIfInBounds_toArray, List.set_cons_zero, List.set_cons_succ]
  refine wpAnyH_take (i := 4) (oi := ⟨some 18, _, _, _, _, _⟩) (v := ?_) rfl (by kernel_rfl) (by kernel_rfl) (by kernel_rfl) (fun _ _ _ h => h) (Or.inl ⟨by kernel_rfl, ?_⟩) (by assumption) ?_
  case refine_2 => (intro w hSw; go_simp; try (with_reducible rfl))
  try simp only [Act.put, List.setIfInBounds_toArray, List.set_cons_zero, List.set_cons_succ]
  refine wpAnyH_ready (rs := [5]) (by kernel_rfl) (by simp) ?_
  refine AllReadyH.cons rfl (fun K hK => ?_) AllReadyH.nil
  have y1 := hA.q t hbt
  have y2 := hA.qz t hbt
  have q3 : (t : Int) < (G.T : Int) := by omega
  have q4 : (0 : Int) ≤ (t : Int) := by omega
  have hP := hA.place hbt (i : Int)
  go_simp
  clear y1 y2
  clear hHeld
  refine hK.out _ _ (⟨_, hP⟩) (fun hHeld => ?_)
  clear hK K
  try simp only [Act.put, List.setIfInBounds_toArray, List.set_cons_zero, List.set_cons_succ]
  refine wpAnyH_done (by kernel_rfl) ?_ _
  clear hHeld
  have HB := Lib.hid hP
  clear hA hP
  go_wp2
  go_end0
  exact ⟨rfl, _, HB.out⟩

end Go.Proofs.YtpnjccomngdblaaGreat
