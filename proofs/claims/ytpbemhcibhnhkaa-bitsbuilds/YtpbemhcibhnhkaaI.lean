/- The contract of List. -/
import Derived.Test.YtpbemhcibhnhkaaH
import Derived.Deep.RegionLaw
import Derived.BigRegion
namespace Go.Proofs.Ytpbemhcibhnhkaa
open Go.RowKit
open M

theorem info4 : (Try.prog.info? 4).map (fun i => (i.zero, i.size, i.bytes)) = some (some (.bool false), 1, 1) := by kernel_rfl

/-- What holds while a row is listed: bb the box of the row, lb that of the list. -/
def ListI (w : World) (bb lb : Nat) (s : Value) (l : List Bool) (p : Nat) (wr : World) : Prop :=
  ∃ v, wr.cell? ⟨lb, 0, none⟩ = some v ∧ wr.frozen? ⟨lb, 0, none⟩ = false ∧ wr.ownsRow w.heap.size 4 1 v p ((l.take p).map Value.bool) ∧ v.ownBlock ≠ some lb ∧ v.ownBlock ≠ some bb ∧
    wr.cell? ⟨bb, 1, none⟩ = some s ∧ lb < wr.heap.size ∧ bb < wr.heap.size ∧ Below w.heap.size w wr

theorem list_next (w wr w1 : World) (bb lb gg p cap : Nat) (s v : Value) (l : List Bool) (o : Obj) (b b' : Bool) (hbb : w.heap.size ≤ bb) (hlb : w.heap.size ≤ lb) (hne : bb ≠ lb)
    (r3 : wr.ownsRow w.heap.size 4 1 v p ((l.take p).map Value.bool)) (r4 : v.ownBlock ≠ some lb) (r5 : v.ownBlock ≠ some bb) (r6 : wr.cell? ⟨bb, 1, none⟩ = some s) (r7 : lb < wr.heap.size) (r8 : bb < wr.heap.size) (r9 : Below w.heap.size w wr)
    (hown : w1.ownsRow w.heap.size 4 1 (.slice (some ⟨gg, 0, none⟩) (p + 1) cap) (p + 1) ((l.take p).map Value.bool ++ [.bool b])) (hgrow : (wr.alloc o).drew.grownBy w1 v.ownBlock) (hat : v.ownBlock = some gg ∨ gg = wr.heap.size + 1)
    (f1 : w1.cell? ⟨lb, 0, none⟩ = some v) (f2 : w1.frozen? ⟨lb, 0, none⟩ = false) (hb : b = b') (ht : l.take (p + 1) = l.take p ++ [b']) :
    ListI w bb lb s l (p + 1) (w1.setCell ⟨lb, 0, none⟩ (.slice (some ⟨gg, 0, none⟩) (p + 1) cap)) := by
  subst hb
  have hgs := hgrow.size
  simp only [World.size_drew, World.size_alloc] at hgs
  have hgl : gg ≠ lb := by rintro rfl; rcases hat with e | e; exact r4 e; omega
  have hgb : gg ≠ bb := by rintro rfl; rcases hat with e | e; exact r5 e; omega
  refine ⟨.slice (some ⟨gg, 0, none⟩) (p + 1) cap, ?_, ?_, ?_, ?_, ?_, ?_, ?_, ?_, ?_⟩
  · rw [World.cell?_setCell_same _ _ _ f1]
  · simpa using f2
  · rw [ht, List.map_append]
    exact hown.kept (grown_setCell w1 ⟨lb, 0, none⟩ _) (.inr (by simpa [Value.ownBlock] using hgl))
  · simpa [Value.ownBlock] using hgl
  · simpa [Value.ownBlock] using hgb
  · rw [World.cell?_setCell_other _ _ _ _ (by simp), hgrow.cell_far _ (by simp; omega) (Ne.symm r5)]
    simp only [World.cell?_drew]
    rw [cell_old _ _ _ _ r8]; exact r6
  · simp; omega
  · simp; omega
  · refine Below.setCell ?_ hlb _
    refine ((r9.alloc r9.size o).drew).grown hgrow ?_ ?_
    · have := r9.size; simp; omega
    · intro k hk; exact (r3.lt k hk).1

set_option maxHeartbeats 1000000 in
theorem list_step (w : World) (bb lb : Nat) (s : Value) (l : List Bool) (h : RowAt w s l) (hl : l.length ≤ 1000000000) (hbb : w.heap.size ≤ bb) (hlb : w.heap.size ≤ lb) (hne : bb ≠ lb) :
    Step 38 #[.pointer (some ⟨lb, 0, none⟩), .pointer (some ⟨bb, 0, none⟩)] (ListI w bb lb s l) 0 l.length := by
  intro p n wr0 x y z h1 h2 h3 h4 hI hx hy hz
  subst hx hy hz
  obtain ⟨i0, hi, hz0, hz1, hz2⟩ := info_parts info4
  have HI := Lib.hid hI
  have HR := Lib.hid h
  clear hI h
  generalize hq : p % 64 = q at *
  generalize hk : p / 64 = k at *
  have HQ := Lib.hid (And.intro hq hk)
  clear hq hk h1
  have hn : n ≤ 64 := by omega
  show Calls Try.prog 38 #[.int .i64 (k : Int), .int .i64 (q : Int), .int .i64 (n : Int), .pointer (some ⟨lb, 0, none⟩), .pointer (some ⟨bb, 0, none⟩)] wr0 _
  go_enter Try.func38, Try.ntmps38
  go_wp2
  go_loopw [10] (fun v wr => ∃ i : Nat, i ≤ n ∧ v = .int .i64 (i : Int) ∧ ListI w bb lb s l (p + i) wr) (fun v _ => n - (intOf v).toNat)
  case atStart => exact ⟨0, Nat.zero_le _, rfl, HI.out⟩
  case round =>
    obtain ⟨i, hin, rfl, hI⟩ := hrel
    by_cases hlt : i < n
    · obtain ⟨v, r1, r2, r3, r4, r5, r6, r7, r8, r9⟩ := hI
      have hk := HR.out
      obtain ⟨hq, hkk⟩ := HQ.out
      rcases hk.form with ⟨hnil, -⟩ | ⟨g, cap, hs, g1, g2, g3, g4⟩
      · subst hnil; simp at h3; omega
      · have hw : k < nw l.length := by unfold nw; omega
        have hc : wr.cell? ⟨g, k, none⟩ = some (.int .u64 (wd l k : Nat)) := by
          rw [r9.cell (p := ⟨g, k, none⟩) g3]; exact g4 k hw
        have hbit : (bits .and .u64 ((wd l k : Int) / 2 ^ (q + i)) 1 == 1) = l.getD (p + i) false := by
          rw [bit_eq _ _ (wd_lt _ _), wd_bit _ _ _ (by omega)]
          rw [show 64 * k + (q + i) = p + i by omega]
        have hts := take_snoc l (p + i) (l.getD (p + i) false) (by omega) rfl
        have HB := Lib.hid hbit
        have HT := Lib.hid hts
        have HA := Lib.hid (And.intro r3 (And.intro r4 (And.intro r5 r9)))
        subst hs
        clear hbit hts r3 r4 r5 r9 hk g4 hq hkk
        unfold maxLen at g2
        generalize wd l k = x at *
        generalize nw l.length = m at *
        generalize l.getD (p + i) false = bt at *
        have q0 : IntKind.i64.wrap ((q : Int) + (i : Int)) = (q : Int) + (i : Int) := IntWalk.i64_in _ (by omega)
        have q5 : ((q : Int) + (i : Int)).toNat = q + i := by omega
        have q6 : (0 : Int) ≤ (q : Int) + (i : Int) := by omega
        have q2 : min (q + i) 64 = q + i := by omega
        have q3 : (k : Int) < (m : Int) := by omega
        have q4 : (0 : Int) ≤ (k : Int) := by omega
        have hps : p + i + 1 ≤ maxLen := by unfold maxLen; omega
        have hpb : (p + i + 1) * 1 ≤ 140737488355328 := by omega
        have lbb : some bb ≠ v.ownBlock := Ne.symm HA.out.2.2.1
        have hfo : ∀ o, (wr.alloc o).frozen? ⟨lb, 0, none⟩ = false := fun o => (frozen_old wr o lb 0 r7).trans r2
        have lgr : g < wr.heap.size := Nat.lt_of_lt_of_le g3 HA.out.2.2.2.size
        have lg : some g ≠ v.ownBlock := fun e => by
          have := (HA.out.1.lt g e.symm).1
          have := HA.out.2.2.2
          omega
        go_wp2
        go_region_law
          ((refine step_append_lies _ (by rfl) _ _ _ (by rfl) w.heap.size 4 i0 _ 1 1 Try.underlying22 hi hz0 hz1 hz2 rfl (by omega) v (p + i) ((l.take (p + i)).map Value.bool) (by rfl) ((HA.out.1.alloc _).drew)
              ⟨wr.heap.size, 0, none⟩ 1 1 [.bool (bits BinOp.and IntKind.u64 ((x : Int) / 2 ^ (q + i)) 1 == 1)] (by rfl) (by rfl) (World.news_of_block (cs := #[.bool (bits BinOp.and IntKind.u64 ((x : Int) / 2 ^ (q + i)) 1 == 1)]) (t := 4) (fr := (0, 0)) (heap_alloc_new wr _)) (by simp [Value.oneCell'])
              (by omega) hps hpb (by have := HA.out.2.2.2.size; simp; omega) (wr.heap.size + 1) (by simp) ?_; intro gg cap' w1 hown1 hgrow hat hlt1
            have f1 : w1.cell? ⟨lb, 0, none⟩ = some v := by rw [hgrow.cell_far _ (by simp; omega) (Ne.symm HA.out.2.1)]; exact (cell_old wr _ lb 0 r7).trans r1
            have f2 : w1.frozen? ⟨lb, 0, none⟩ = false := by rw [hgrow.frozen_far _ (by simp; omega) (Ne.symm HA.out.2.1)]; exact hfo _))
        all_goals
          have hI2 := list_next w wr w1 bb lb gg (p + i) cap' _ v l _ _ _ hbb hlb hne HA.out.1 HA.out.2.1 HA.out.2.2.1 r6 r7 r8 HA.out.2.2.2 hown1 hgrow hat f1 f2 HB.out HT.out
          have HI2 := Lib.hid hI2
          clear hI2 hown1 hgrow hat f1 f2 q0 q2 q3 q4 q5 q6 r1 r2 r6 r7 r8 hfo lbb lg lgr hps hpb hc hw
          go_wp2
          go_roundw
          case rel => exact ⟨i + 1, by omega, by go_num, HI2.out⟩
          case measure => simp [intOf]; omega
    · obtain rfl : i = n := by omega
      have HI2 := Lib.hid hI
      clear hI
      go_wp2
      go_end0
      exact ⟨rfl, HI2.out⟩

/-- A list's slice, out of the row that is owned. -/
theorem bools_of_own {w : World} {base : Nat} {v : Value} {l : List Bool} (h : w.ownsRow base 4 1 v l.length (l.map Value.bool)) : ∃ a cap, v = .slice a l.length cap ∧ BoolsAt w a l := by
  have h' := h
  obtain ⟨h1, h2⟩ := h
  rcases h2 with ⟨rfl, hn⟩ | ⟨g, cap, cur, rfl, hg, hh, hc1, hc2, hc3, hc4⟩
  · exact ⟨none, 0, by rw [hn], .inl (List.eq_nil_of_length_eq_zero hn)⟩
  · refine ⟨_, cap, rfl, .inr ⟨g, 0, rfl, (World.ownsRow.lt h' g rfl).2, fun j hj => ?_⟩⟩
    rw [Nat.zero_add, World.ownsRow.cellAt h' j (by omega)]
    simp [List.getD_eq_getElem?_getD, hj]

set_option maxHeartbeats 1000000 in
theorem list_any (a0 : Option Addr) (m cap : Nat) (l : List Bool) (w : World) (h : RowAt w (.slice a0 m cap) l) (hl : l.length ≤ 1000000000) :
    Calls Try.prog 19 #[.agg #[.int .i64 (l.length : Int), .slice a0 m cap]] w fun e w' => ∃ v, e = .returned v ∧ (∃ a cap, v = .slice a l.length cap ∧ BoolsAt w' a l) ∧ Below w.heap.size w w' := by
  obtain ⟨i0, hi, hz0, hz1, hz2⟩ := info_parts info4
  have hst := fun lb (h1 : w.heap.size ≤ lb) (h2 : w.heap.size ≠ lb) => list_step w w.heap.size lb (.slice a0 m cap) l h hl (by omega) h1 h2
  have HS := Lib.hid hst
  clear hst h
  generalize hn : l.length = n at *
  have HN := Lib.hid hn
  clear hn
  go_enter Try.func19, Try.ntmps19
  go_wp2_with (first | (at_make; refine wpList_make_own _ rfl _ _ 22 rfl w.heap.size 4 i0 (.bool false) 1 Try.underlying22 hi hz0 hz1 _ _ _ n rfl rfl rfl ?b2 ?b3 ?b4 ?_))
  case b2 => rw [hz2]; omega
  case b3 => unfold maxLen; omega
  case b4 => simp
  intro w1 hown hgrow
  have hsz := hgrow.size
  simp only [World.size_alloc] at hsz
  have hlt1 := (hown.lt (w.heap.size + 1) rfl).2
  have hbel : Below w.heap.size w w1 := (((Below.refl _ _).alloc (Nat.le_refl _) _).trans ((below_grown hgrow).mono (by simp)))
  have hbx : w1.cell? ⟨w.heap.size, 1, none⟩ = some (.slice a0 m cap) := by rw [hgrow.cell_far _ (by simp) (by simp)]; simp
  have hlt0 : w.heap.size < w1.heap.size := by omega
  have hb0 : w1.cell? ⟨w.heap.size, 0, none⟩ = some (.int .i64 (n : Int)) := by rw [hgrow.cell_far _ (by simp) (by simp)]; simp
  have hI : ListI w w.heap.size w1.heap.size (.slice a0 m cap) l 0 (w1.alloc (.cells #[.slice (some ⟨w.heap.size + 1, 0, none⟩) 0 n] 22)) := by
    refine ⟨.slice (some ⟨w.heap.size + 1, 0, none⟩) 0 n, ?_, ?_, ?_, ?_, ?_, ?_, ?_, ?_, ?_⟩
    · simp
    · simp
    · simpa using hown.alloc _
    · simp [Value.ownBlock]; omega
    · simp [Value.ownBlock]
    · rw [cell_old _ _ _ _ (by omega)]; exact hbx
    · simp
    · simp; omega
    · exact hbel.alloc (by omega) _
  have HI := Lib.hid (And.intro hI (HS.out w1.heap.size (by omega) (by omega)))
  clear hI hown hgrow hbel hbx HS
  go_wp2_with fail
  refine (eachPiece_int 38 _ _ 0 n _ _ _ ent38 (by omega) hl rfl rfl HI.out.1 HI.out.2).mono ?_
  rintro e w' ⟨rfl, v, r1, r2, r3, r4, r5, r6, r7, r8, r9⟩
  have R3 := Lib.hid r3
  have R9 := Lib.hid r9
  clear r3 r9 r4 r5 r6
  go_wp2
  go_ret
  have e2 : l.length = n := HN.out
  subst e2
  refine ⟨v, rfl, bools_of_own (base := w.heap.size) ?_, R9.out⟩
  have := R3.out
  rw [List.take_length] at this
  exact this

end Go.Proofs.Ytpbemhcibhnhkaa
