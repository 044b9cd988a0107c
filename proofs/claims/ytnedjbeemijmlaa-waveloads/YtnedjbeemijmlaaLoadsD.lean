/- Reading the two lists. -/
import Derived.Test.YtnedjbeemijmlaaLoadsC
set_option maxRecDepth 100000
namespace Go.Proofs.Ytnedjbeemijmlaa
open Go.RowKit
open M

def W0 : PW := ⟨none, 0, none, 0, 0, []⟩
theorem PR.plain {w u : World} {pv rv : Value} {ps rs : List PW} (h : PR w pv rv ps rs u) : ∃ a cap, pv = .slice a ps.length cap ∧ ∀ j, j < ps.length → ∃ g, a = some ⟨g, 0, none⟩ ∧ u.cell? ⟨g, j, none⟩ = some (pcl (ps.getD j W0)) := by
  have h' := h.own1
  rcases h'.2 with ⟨rfl, hn⟩ | ⟨g, cap, cur, rfl, -⟩
  · exact ⟨none, 0, by rw [hn], fun j hj => by omega⟩
  · refine ⟨_, cap, rfl, fun j hj => ⟨g, rfl, ?_⟩⟩
    rw [World.ownsRow.cellAt h.own1 j (by omega)]
    simp [List.getD_eq_getElem?_getD, hj]

theorem bcl_len (rs : List PW) : (rs.flatMap bcl).length = rs.length * 2 := by
  induction rs with
  | nil => rfl
  | cons r rs ih => simp [bcl, ih]; omega
theorem bcl_at (rs : List PW) (j : Nat) (hj : j < rs.length) : (rs.flatMap bcl)[j * 2]? = some (.int .i64 ((rs.getD j W0).l.length : Int)) ∧ (rs.flatMap bcl)[j * 2 + 1]? = some (.slice (rs.getD j W0).g (rs.getD j W0).k (rs.getD j W0).c) := by
  induction rs generalizing j with
  | nil => simp at hj
  | cons r rs ih =>
    cases j with
    | zero => exact ⟨by simp [bcl], by simp [bcl]⟩
    | succ j =>
      have := ih j (by simpa using hj)
      rw [List.flatMap_cons]
      rw [List.getElem?_append_right (by simp [bcl]; omega), List.getElem?_append_right (by simp [bcl]; omega)]
      rw [show (j + 1) * 2 - (bcl r).length = j * 2 by simp [bcl]; omega, show (j + 1) * 2 + 1 - (bcl r).length = j * 2 + 1 by simp [bcl]; omega]
      simpa using this

theorem PR.bits {w u : World} {pv rv : Value} {ps rs : List PW} (h : PR w pv rv ps rs u) : ∃ a cap, rv = .slice a rs.length cap ∧ BG2 u a rs.length (rs.map (·.l)) := by
  have h' := h.own2
  rcases h'.2 with ⟨rfl, hn⟩ | ⟨g, cap, cur, rfl, -⟩
  · exact ⟨none, 0, by rw [hn], by simp, fun j hj => by omega⟩
  · refine ⟨_, cap, rfl, by simp, fun j hj => ⟨g, 0, (rs.getD j W0).g, (rs.getD j W0).k, (rs.getD j W0).c, rfl, ?_, ?_, ?_⟩⟩
    all_goals have e : (rs.map (·.l)).getD j [] = (rs.getD j W0).l := by simp [List.getD_eq_getElem?_getD, hj]
    · rw [Nat.zero_add, World.ownsRow.cellAt h.own2 (j * 2) (by omega), (bcl_at rs j hj).1, e]
    · rw [Nat.zero_add, World.ownsRow.cellAt h.own2 (j * 2 + 1) (by omega), (bcl_at rs j hj).2]
    · rw [e]
      have hm : rs.getD j W0 ∈ rs := by simp [List.getD_eq_getElem?_getD, hj]
      exact (h.rw_ _ hm).1

end Go.Proofs.Ytnedjbeemijmlaa
