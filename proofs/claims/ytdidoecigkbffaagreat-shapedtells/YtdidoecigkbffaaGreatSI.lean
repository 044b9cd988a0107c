/- The contract of behind, and of the closure that compares depths. -/
import Derived.Test.YtdidoecigkbffaaGreatSG
import Derived.Test.YtdidoecigkbffaaGreatSF
set_option maxRecDepth 100000
namespace Go.Proofs.YtdidoecigkbffaaGreat
open Go.RowKit
open S J

theorem repeat_any (c : Nat) (w : World) (hc : c ≤ 39) : Calls Tryz.prog 36 #[.string ⟨#[48]⟩, .int .i64 (c : Int)] w fun e w' => e = .returned (.string (str (List.replicate c false))) ∧ w' = w := by
  match c, hc with
  | 0, _ => exact (repeat_zero w).mono fun _ _ ⟨h1, h2⟩ => ⟨h1, h2.symm⟩
  | 1, _ => exact (repeat_one w).mono fun _ _ ⟨h1, h2⟩ => ⟨h1, h2.symm⟩
  | c + 2, hc => exact (repeat_more (c + 2) w (by omega) hc).mono fun _ _ ⟨h1, h2⟩ => ⟨h1, h2.symm⟩

theorem str_append (a b : List Bool) : str a ++ str b = str (a ++ b) := by
  apply ByteArray.ext
  show (str a ++ str b).data = _
  rw [ByteArray.data_append]
  simp [str]

theorem str_take (l : List Bool) (p : Nat) : (str l).extract 0 p = str (l.take p) := by
  apply ByteArray.ext
  apply Array.toList_inj.1
  rw [ex_take]
  simp [str, List.map_take]

/-- The number behind that of a code, made as long as depth. -/
def nextC (a : List Bool) (depth : Nat) : List Bool := a ++ true :: List.replicate (depth - a.length - 1) false

set_option maxHeartbeats 1000000 in
theorem behind_any (a : List Bool) (r depth : Nat) (w : World) (hd : a.length + 1 + r ≤ depth) (hd2 : depth ≤ 39) :
    Calls Tryz.prog 37 #[.string (str (a ++ false :: List.replicate r true)), .int .i64 (depth : Int)] w fun e w' => e = .returned (.string (str (nextC a depth))) ∧ ∃ n, w' = w.drewN n := by
  obtain ⟨s, hs⟩ : ∃ s, s = str (a ++ false :: List.replicate r true) := ⟨_, rfl⟩
  have hsz : s.size = a.length + 1 + r := by rw [hs, str_size]; simp; omega
  have hla := last_any s a.length w (by omega) (by omega)
    (fun h => by
      subst hs
      rw [str_at _ a.length (by simp) h]
      simp [dig])
    (fun j hj h => by
      subst hs
      have hjl : j < (a ++ false :: List.replicate r true).length := by rw [str_size] at h; exact h
      rw [str_at _ j hjl h]
      have : (a ++ false :: List.replicate r true).getD j false = true := by
        rw [List.getD_eq_getElem?_getD, List.getElem?_append_right (by omega), show j - a.length = (j - a.length - 1) + 1 by omega, List.getElem?_cons_succ, List.getElem?_replicate]
        simp only [List.length_append, List.length_cons, List.length_replicate] at hjl
        rw [if_pos (by omega)]; rfl
      rw [this]; decide)
  obtain ⟨k, hk⟩ : ∃ k : Nat, k = depth - a.length - 1 := ⟨_, rfl⟩
  have hrep := fun n => repeat_any k (w.drewN n) (by omega)
  obtain ⟨p, hp⟩ : ∃ p, p = a.length := ⟨_, rfl⟩
  rw [← hp] at hla hd hsz hk
  rw [← hs]
  have HL := Lib.hid hla
  have HR := Lib.hid hrep
  have HF := Lib.hid (And.intro hs (And.intro hp hk))
  clear hla hrep hs hp
  have q1 : (p : Int) ≤ (s.size : Int) := by omega
  have q2 : (0 : Int) ≤ (p : Int) := by omega
  have q3 : IntKind.i64.wrap (IntKind.i64.wrap ((depth : Int) - (p : Int)) - 1) = (k : Int) := by
    rw [IntWalk.i64_in ((depth : Int) - (p : Int)) (by omega), show (depth : Int) - (p : Int) - 1 = (k : Int) by omega]; exact IntWalk.i64_in _ (by omega)
  have q4 : IntKind.i64.wrap ((depth : Int) - (p : Int) - 1) = (k : Int) := by
    rw [show (depth : Int) - (p : Int) - 1 = (k : Int) by omega]; exact IntWalk.i64_in _ (by omega)
  have q5 : IntKind.i64.wrap ((depth : Int) - (p : Int)) = (depth : Int) - (p : Int) := IntWalk.i64_in _ (by omega)
  have hx1 : (s.extract 0 p).size ≤ 100 := by
    have : (s.extract 0 p).size = (s.data.toList.take p).length := by rw [← ex_take]; simp
    rw [this, List.length_take]; omega
  have hx2 : (str (List.replicate k false)).size ≤ 100 := by rw [str_size, List.length_replicate]; omega
  have hx3 : (s.extract 0 p ++ (⟨#[49]⟩ : ByteArray)).size ≤ 200 := by rw [ByteArray.size_append]; show _ + 1 ≤ 200; omega
  have a1 : ∀ W : World, (Op.stringOp .add (s.extract 0 p) ⟨#[49]⟩).run Tryz.prog W = .ok (.string (s.extract 0 p ++ ⟨#[49]⟩)) W := fun W => run_string_add W _ _ (by omega) (by decide)
  have a2 : ∀ W : World, (Op.stringOp .add (s.extract 0 p ++ ⟨#[49]⟩) (str (List.replicate k false))).run Tryz.prog W = .ok (.string (s.extract 0 p ++ ⟨#[49]⟩ ++ str (List.replicate k false))) W := fun W => run_string_add W _ _ (by omega) (by omega)
  clear hx1 hx2 hx3 hk hsz
  go_enter Tryz.func37, Tryz.ntmps37
  go_wp2_with fail
  refine HL.out.mono ?_
  rintro e w' ⟨rfl, rfl⟩
  go_wp2
  go_quiet (refine Calls.quiet_of_same (HR.out _))
  go_wp2
  go_ret
  refine ⟨?_, _, rfl⟩
  obtain ⟨h1, h2, h3⟩ := HF.out
  have e1 : s.extract 0 p = str a := by rw [h1, str_take, h2, List.take_left']; rfl
  have e2 : (⟨#[49]⟩ : ByteArray) = str [true] := rfl
  show Ending.returned (Value.string (s.extract 0 p ++ (⟨#[49]⟩ : ByteArray) ++ str (List.replicate k false))) = _
  rw [e1, e2, str_append, str_append, List.append_assoc]
  unfold nextC
  rw [h3, h2]; rfl

/-- What the closure reads: the depths in their box. -/
theorem cmpI_any (w : World) (g db gd n cap : Nat) (dep : Nat → Int) (hdb : w.cell? ⟨db, 0, none⟩ = some (.slice (some ⟨gd, 0, none⟩) n cap)) (hgd : ∀ i, i < n → w.cell? ⟨gd, i, none⟩ = some (.int .i64 (dep i))) (h1 : db ≠ g) (h2 : gd ≠ g) (hb : ∀ i, 0 ≤ dep i ∧ dep i ≤ 1000) :
    CmpI w g (.pointer (some ⟨db, 0, none⟩)) (fun x => 0 ≤ x ∧ x < n) (fun x => dep x.toNat) := by
  intro u hu x y hx hy
  obtain ⟨i, rfl⟩ : ∃ i : Nat, x = (i : Int) := ⟨x.toNat, by omega⟩
  obtain ⟨j, rfl⟩ : ∃ j : Nat, y = (j : Int) := ⟨y.toNat, by omega⟩
  have c0 : u.cell? ⟨db, 0, none⟩ = some (.slice (some ⟨gd, 0, none⟩) n cap) := by rw [hu.cell (p := ⟨db, 0, none⟩) (World.block_lt_of_cell? w _ hdb) h1]; exact hdb
  have ci := hgd i (by omega)
  have cj := hgd j (by omega)
  have c1 : u.cell? ⟨gd, i, none⟩ = some (.int .i64 (dep i)) := by rw [hu.cell (p := ⟨gd, i, none⟩) (World.block_lt_of_cell? w _ ci) h2]; exact ci
  have c2 : u.cell? ⟨gd, j, none⟩ = some (.int .i64 (dep j)) := by rw [hu.cell (p := ⟨gd, j, none⟩) (World.block_lt_of_cell? w _ cj) h2]; exact cj
  have b1 := hb i
  have b2 := hb j
  have q1 : (i : Int) < (n : Int) := hx.2
  have q2 : (j : Int) < (n : Int) := hy.2
  have q3 : (0 : Int) ≤ (i : Int) := by omega
  have q4 : (0 : Int) ≤ (j : Int) := by omega
  show Calls _ _ _ _ fun e u' => e = .returned (.int .i64 (dep ((i : Int).toNat) - dep ((j : Int).toNat))) ∧ _
  rw [Int.toNat_natCast, Int.toNat_natCast]
  clear ci cj hgd hdb hb hu hx hy
  generalize dep i = di at *
  generalize dep j = dj at *
  have q5 : IntKind.i64.wrap (di - dj) = di - dj := IntWalk.i64_in _ (by omega)
  go_enter Tryz.func35, Tryz.ntmps35
  go_wp2
  go_quiet (fail)
  go_wp2
  go_ret
  exact ⟨rfl, _, rfl⟩

end Go.Proofs.YtdidoecigkbffaaGreat
