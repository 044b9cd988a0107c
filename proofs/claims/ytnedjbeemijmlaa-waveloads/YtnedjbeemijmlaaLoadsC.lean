/- What WaveLoads holds while it lays two lists side by side: slices of bits, and rows of bits. -/
import Derived.Test.YtnedjbeemijmlaaLoadsB
set_option maxRecDepth 100000
namespace Go.Proofs.Ytnedjbeemijmlaa
open Go.RowKit
open M

/-- A slice of bits that came in, and the row that was made of it. -/
structure PW where
  pb : Option Addr
  pc : Nat
  g : Option Addr
  k : Nat
  c : Nat
  l : List Bool
def pcl (r : PW) : Value := .slice r.pb r.l.length r.pc
def bcl (r : PW) : List Value := [.int .i64 (r.l.length : Int), .slice r.g r.k r.c]

structure PR (w : World) (pv rv : Value) (ps rs : List PW) (u : World) : Prop where
  own1 : u.ownsRow w.heap.size 38 1 pv ps.length (ps.map pcl)
  own2 : u.ownsRow w.heap.size 41 2 rv rs.length (rs.flatMap bcl)
  ne : ∀ k, pv.ownBlock = some k → rv.ownBlock ≠ some k
  pl : ∀ r ∈ ps, BoolsAt w r.pb r.l ∧ r.l.length ≤ r.pc ∧ r.pc ≤ maxLen ∧ r.l.length ≤ 60
  rw_ : ∀ r ∈ rs, RowAt u (.slice r.g r.k r.c) r.l ∧ ∀ k, (Value.slice r.g r.k r.c).ownBlock = some k → pv.ownBlock ≠ some k ∧ rv.ownBlock ≠ some k ∧ k < u.heap.size
  bel : Below w.heap.size w u

theorem PR.start (w : World) : PR w (.slice none 0 0) (.slice none 0 0) [] [] w :=
  ⟨World.ownsRow_nil _ _ _ _, World.ownsRow_nil _ _ _ _, fun k e => (by cases e), (by simp), (by simp), Below.refl _ _⟩

theorem PR.kept {w u u' : World} {pv rv : Value} {ps rs : List PW} (h : PR w pv rv ps rs u) (hb : Below u.heap.size u u') : PR w pv rv ps rs u' :=
  ⟨own_kept h.own1 hb, own_kept h.own2 hb, h.ne, h.pl, fun r hr => ⟨(h.rw_ r hr).1.kept hb, fun k e => ⟨((h.rw_ r hr).2 k e).1, ((h.rw_ r hr).2 k e).2.1, Nat.lt_of_lt_of_le ((h.rw_ r hr).2 k e).2.2 hb.size⟩⟩, h.bel.trans (hb.mono h.bel.size)⟩
theorem PR.alloc {w u : World} {pv rv : Value} {ps rs : List PW} (h : PR w pv rv ps rs u) (o : Obj) : PR w pv rv ps rs (u.alloc o) := h.kept ((Below.refl _ _).alloc (Nat.le_refl _) _)

/-- A slice more. -/
theorem PR.app1 {w u u' : World} {pv pv' rv : Value} {ps rs : List PW} (h : PR w pv rv ps rs u) (o : Obj) (r : PW) (hr : BoolsAt w r.pb r.l ∧ r.l.length ≤ r.pc ∧ r.pc ≤ maxLen ∧ r.l.length ≤ 60)
    (hown : u'.ownsRow w.heap.size 38 1 pv' (ps.length + 1) (ps.map pcl ++ [pcl r])) (hg : (u.alloc o).grownBy u' pv.ownBlock) (hat : pv'.ownBlock = pv.ownBlock ∨ pv'.ownBlock = some (u.heap.size + 1)) :
    PR w pv' rv (ps ++ [r]) rs u' := by
  have hk : Kp (fun k => pv.ownBlock = some k) u u' := ((Kp.refl _ u).alloc o).grown hg (fun k hk _ => hk)
  refine ⟨by rw [List.length_append, List.map_append]; exact hown, own_kp h.own2 hk (fun k e ek => h.ne k ek e), fun k e e2 => ?_, fun q hq => ?_, fun q hq => ?_, h.bel.trans (hk.toBelow h.bel.size (fun k hk e => by have := (h.own1.lt k e).1; omega))⟩
  · rcases hat with h1 | h1
    · rw [h1] at e; exact h.ne k e e2
    · have := (h.own2.lt k e2).2
      rw [h1] at e
      simp only [Option.some.injEq] at e
      omega
  · rcases List.mem_append.1 hq with hq | hq
    · exact h.pl q hq
    · rw [List.mem_singleton] at hq; subst hq; exact hr
  · obtain ⟨g1, g2⟩ := h.rw_ q hq
    refine ⟨row_kp g1 hk (fun k e => (g2 k e).1), fun k e => ⟨?_, (g2 k e).2.1, Nat.lt_of_lt_of_le (g2 k e).2.2 hk.size⟩⟩
    rcases hat with h1 | h1
    · rw [h1]; exact (g2 k e).1
    · rw [h1]; have := (g2 k e).2.2; simp; omega

/-- A row more. -/
theorem PR.app2 {w u u' : World} {pv rv rv' : Value} {ps rs : List PW} (h : PR w pv rv ps rs u) (o : Obj) (r : PW)
    (hr : RowAt u (.slice r.g r.k r.c) r.l ∧ ∀ k, (Value.slice r.g r.k r.c).ownBlock = some k → pv.ownBlock ≠ some k ∧ rv.ownBlock ≠ some k ∧ k < u.heap.size)
    (hown : u'.ownsRow w.heap.size 41 2 rv' (rs.length + 1) (rs.flatMap bcl ++ bcl r)) (hg : (u.alloc o).grownBy u' rv.ownBlock) (hat : rv'.ownBlock = rv.ownBlock ∨ rv'.ownBlock = some (u.heap.size + 1)) :
    PR w pv rv' ps (rs ++ [r]) u' := by
  have hk : Kp (fun k => rv.ownBlock = some k) u u' := ((Kp.refl _ u).alloc o).grown hg (fun k hk _ => hk)
  refine ⟨own_kp h.own1 hk (fun k e ek => h.ne k e ek), by rw [List.length_append, List.flatMap_append]; simpa using hown, fun k e e2 => ?_, h.pl, fun q hq => ?_, h.bel.trans (hk.toBelow h.bel.size (fun k hk e => by have := (h.own2.lt k e).1; omega))⟩
  · rcases hat with h1 | h1
    · rw [h1] at e2; exact h.ne k e e2
    · have := (h.own1.lt k e).2
      rw [h1] at e2
      simp only [Option.some.injEq] at e2
      omega
  · have hq2 : RowAt u (.slice q.g q.k q.c) q.l ∧ ∀ k, (Value.slice q.g q.k q.c).ownBlock = some k → pv.ownBlock ≠ some k ∧ rv.ownBlock ≠ some k ∧ k < u.heap.size := by
      rcases List.mem_append.1 hq with hq | hq
      · exact h.rw_ q hq
      · rw [List.mem_singleton] at hq; subst hq; exact hr
    obtain ⟨g1, g2⟩ := hq2
    refine ⟨row_kp g1 hk (fun k e => (g2 k e).2.1), fun k e => ⟨(g2 k e).1, ?_, Nat.lt_of_lt_of_le (g2 k e).2.2 hk.size⟩⟩
    rcases hat with h1 | h1
    · rw [h1]; exact (g2 k e).2.1
    · rw [h1]; have := (g2 k e).2.2; simp; omega

end Go.Proofs.Ytnedjbeemijmlaa
