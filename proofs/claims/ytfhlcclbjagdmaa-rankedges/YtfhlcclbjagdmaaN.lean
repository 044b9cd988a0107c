/- The contract of Bits: the row of a builder. -/
import Derived.Test.YtfhlcclbjagdmaaL
import Derived.Laws.CopyOwn
namespace Go.Proofs.Ytfhlcclbjagdmaa
open Go.RowKit
open M

theorem bits_nil (w : World) : Calls Try.prog 52 #[.pointer none] w fun e w' => e = .returned (.agg #[.int .i64 0, .slice none 0 0]) ∧ Below w.heap.size w w' := by
  go_enter Try.func52, Try.ntmps52
  go_wp2
  refine bodyPost_ret (v := .agg #[.int .i64 0, .slice none 0 0]) (by simp [results, Try.results52, go_sem]) rfl ⟨rfl, ?_⟩
  exact (Below.refl _ _).alloc (Nat.le_refl _) _

theorem add_zero_addr (g j : Nat) : (⟨g, 0, none⟩ : Addr).add j = ⟨g, j, none⟩ := by
  simp only [Addr.add]
  split
  · rename_i h; simp_all
  · simp

def CSrc (w1 : World) (a0 : Option Addr) (cs : List Value) : Prop := 0 < cs.length → ∃ ad, a0 = some ad ∧ ∀ j v, cs[j]? = some v → w1.cell? (ad.add j) = some v

theorem info47s : (Try.prog.info? 47).map (·.size) = some 1 := by kernel_rfl

theorem wl_one (l : List Bool) (m : Nat) : ∀ v ∈ wlN l m, v.oneCell' = true := by
  intro v hv
  obtain ⟨k, -, rfl⟩ := List.mem_map.1 hv
  rfl

set_option maxHeartbeats 1000000 in
theorem bits_any (pb : Nat) (a0 : Option Addr) (m0 cap : Nat) (l : List Bool) (w : World) (hB : BuildAt w pb (.slice a0 m0 cap) l) (hl : l.length ≤ 1000000000) :
    Calls Try.prog 52 #[.pointer (some ⟨pb, 0, none⟩)] w fun e w' => e = .returned (.agg #[.int .i64 (l.length : Int), .slice (some ⟨w.heap.size + 1, 0, none⟩) (nw l.length) (nw l.length)]) ∧
      RowAt w' (.slice (some ⟨w.heap.size + 1, 0, none⟩) (nw l.length) (nw l.length)) l ∧ Below w.heap.size w w' := by
  obtain ⟨b1, b2, b3, b4, b5, b6⟩ := hB
  have hm0 : m0 = nw l.length := b5.some.1
  have hpb := World.block_lt_of_cell? w _ b1
  simp only at hpb
  have H5 := Lib.hid b5
  have HM := Lib.hid hm0
  clear b3 b4 b5 b6 hm0
  have hem := emptyWords_any (l.length : Int) 0 (w.alloc (Obj.cells #[Value.int .i64 0, .slice none 0 0] 30)) (by omega) (by omega) (by omega)
  rw [Int.toNat_natCast] at hem
  have HE := Lib.hid hem
  clear hem
  generalize hn : l.length = n at *
  have HN := Lib.hid hn
  clear hn
  go_enter Try.func52, Try.ntmps52
  go_wp2_with fail
  refine HE.out.mono ?_
  rintro e w1 ⟨rfl, hown, hgrow⟩
  have hbel : Below w.heap.size w w1 := ((Below.refl _ _).alloc (Nat.le_refl _) _).trans ((below_grown hgrow).mono (by simp))
  have r0 : w1.cell? ⟨w.heap.size, 0, none⟩ = some (.int .i64 0) := by rw [hgrow.cell_far _ (by simp) (by simp)]; simp
  have r1 : w1.cell? ⟨w.heap.size, 1, none⟩ = some (.slice none 0 0) := by rw [hgrow.cell_far _ (by simp) (by simp)]; simp
  have z0 : w1.frozen? ⟨w.heap.size, 0, none⟩ = false := by rw [hgrow.frozen_far _ (by simp) (by simp)]; simp
  have z1 : w1.frozen? ⟨w.heap.size, 1, none⟩ = false := by rw [hgrow.frozen_far _ (by simp) (by simp)]; simp
  have d1 : w1.cell? ⟨pb, 0, none⟩ = some (.int .i64 (n : Int)) := by rw [hbel.cell (p := ⟨pb, 0, none⟩) hpb]; exact b1
  have d2 : w1.cell? ⟨pb, 1, none⟩ = some (.slice a0 m0 cap) := by rw [hbel.cell (p := ⟨pb, 1, none⟩) hpb]; exact b2
  have hrow := (H5.out.kept hbel).some
  obtain ⟨cur, hcur, hcl⟩ : ∃ cur : List Value, w1.heap[w.heap.size + 1]? = some (.cells cur.toArray 47 (0, 0)) ∧ cur.length = nw n := by
    obtain ⟨-, h2⟩ := hown
    rcases h2 with ⟨h2, -⟩ | ⟨g, cap, cur, h2, -, hh, -, -, hc, -⟩
    · simp at h2
    · simp only [World.size_alloc, Value.slice.injEq, Option.some.injEq, Addr.mk.injEq, and_true, true_and] at h2
      obtain ⟨rfl, rfl⟩ := h2
      exact ⟨cur.toList, by simpa using hh, by simpa using hc⟩
  have hsrc : CSrc w1 a0 (wlN l m0) := by
    intro hpos
    rw [wlN_length] at hpos
    obtain ⟨g, hg, -⟩ := hrow.2.2.2 0 hpos
    refine ⟨_, hg, fun j v hj => ?_⟩
    have hjm : j < m0 := by
      have := (List.getElem?_eq_some_iff.1 hj).1
      rwa [wlN_length] at this
    obtain ⟨g', hg', hc⟩ := hrow.2.2.2 j hjm
    have : g' = g := by rw [hg] at hg'; simpa using hg'.symm
    subst this
    rw [add_zero_addr, hc, ← hj]
    simp [wlN, hjm]
  have hmn : m0 = nw n := HM.out
  have hwl : (wlN l m0).length = Nat.min m0 (nw n) := by rw [wlN_length, ← hmn]; simp
  have hfit : 0 + (wlN l m0).length ≤ cur.length := by rw [wlN_length, hcl]; omega
  have hbb : Below (w.heap.size + 1) w1 w1 := Below.refl _ _
  have HH := Lib.hid (And.intro hcur (And.intro hsrc (And.intro hwl (And.intro hfit (And.intro hcl hbel)))))
  have HMN := Lib.hid hmn
  clear hcur hsrc hwl hfit hcl hbel hmn hrow hown hgrow hbb b1 b2
  generalize hnw : nw n = m at *
  have HNW := Lib.hid hnw
  clear hnw
  go_wp2_with (refine wpList_copy_splice (o := ⟨some 17, _, _, _, _, _⟩) rfl (.tmp 12) (.tmp 16) 28 28 rfl 47 Try.underlying28 info47s (some ⟨w.heap.size + 1, 0, none⟩) a0 m m m0 cap (by rfl) (by rfl) (w.heap.size + 1) 0 cur 47 HH.out.1 (wlN l m0) HH.out.2.2.1 (fun hpos => ⟨rfl, HH.out.2.1 hpos⟩) HH.out.2.2.2.1 (wl_one l m0) (w.heap.size + 1) w1 (Below.refl _ _) (Nat.le_refl _) ?_)
  intro w2 hh2 hb2
  have e0 : w2.cell? ⟨w.heap.size, 0, none⟩ = some (.int .i64 0) := by rw [hb2.cell (p := ⟨w.heap.size, 0, none⟩) (by simp)]; exact r0
  have e1 : w2.cell? ⟨w.heap.size, 1, none⟩ = some (.slice none 0 0) := by rw [hb2.cell (p := ⟨w.heap.size, 1, none⟩) (by simp)]; exact r1
  have y0 : w2.frozen? ⟨w.heap.size, 0, none⟩ = false := by rw [hb2.frozen (p := ⟨w.heap.size, 0, none⟩) (by simp)]; exact z0
  have y1 : w2.frozen? ⟨w.heap.size, 1, none⟩ = false := by rw [hb2.frozen (p := ⟨w.heap.size, 1, none⟩) (by simp)]; exact z1
  have f1 : w2.cell? ⟨pb, 0, none⟩ = some (.int .i64 (n : Int)) := by rw [hb2.cell (p := ⟨pb, 0, none⟩) (by simp; omega)]; exact d1
  have HB2 := Lib.hid hb2
  have HH2 := Lib.hid hh2
  clear hb2 r0 r1 z0 z1 d1 d2 hh2
  go_wp2
  refine bodyPost_ret (v := .agg #[.int .i64 (n : Int), .slice (some ⟨w.heap.size + 1, 0, none⟩) m m]) (by simp [results, Try.results52, go_sem, e0, e1]) rfl ?_
  have q1 : nw n = m := HNW.out
  have q2 : l.length = n := HN.out
  have q3 : m0 = m := HMN.out
  subst q3
  obtain ⟨hcur, hsrc, hwl, hfit, hcl, hbel⟩ := HH.out
  have hrow : w2.ownsRow 0 47 1 (.slice (some ⟨w.heap.size + 1, 0, none⟩) m0 m0) m0 (wlN l m0) := by
    have hcell := HH2.out.out
    have hsp : splice cur 0 (wlN l m0) = wlN l m0 := by
      simp only [splice, List.take_zero, List.nil_append, Nat.zero_add]
      rw [List.drop_eq_nil_of_le (by rw [wlN_length, hcl]; omega), List.append_nil]
    rw [hsp] at hcell
    refine ⟨by rw [wlN_length]; omega, .inr ⟨_, m0, _, rfl, Nat.zero_le _, hcell, Nat.le_refl _, ?_, ?_, ?_⟩⟩
    · rw [← q1]; unfold nw maxLen; omega
    · simp [wlN_length]
    · rw [Nat.mul_one, List.take_of_length_le (by simp [wlN_length])]
  refine ⟨by rw [q1], ?_, ?_⟩
  · have hg : w2.grownBy ((w2.setCell ⟨w.heap.size, 0, none⟩ (.int .i64 (n : Int))).setCell ⟨w.heap.size, 1, none⟩ (.slice (some ⟨w.heap.size + 1, 0, none⟩) m0 m0)) (some w.heap.size) :=
      grown_trans (grown_setCell w2 ⟨w.heap.size, 0, none⟩ _) (grown_setCell _ ⟨w.heap.size, 1, none⟩ _)
    have := hrow.kept hg (.inr (by simp [Value.ownBlock]))
    unfold RowAt
    rw [q2, q1]
    exact this
  · exact ((hbel.trans (HB2.out.mono (by omega))).setCell (by simp) _).setCell (by simp) _

end Go.Proofs.Ytfhlcclbjagdmaa
