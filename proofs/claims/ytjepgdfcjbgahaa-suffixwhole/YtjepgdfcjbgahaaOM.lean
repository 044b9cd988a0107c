/- The document's Stable. -/
import Derived.Test.YtjepgdfcjbgahaaOK
set_option maxRecDepth 100000
namespace Go.Proofs.Ytjepgdfcjbgahaa
open Go.RowKit
open M
attribute [local go_sem ↓] Go.wp_at_zero Go.wp_at_succ

theorem NumsAt.drop {k : IntKind} {w : World} {b off : Nat} {xs : List Int} (h : NumsAt k w (some ⟨b, off, none⟩) xs) (n : Nat) : NumsAt k w (some ⟨b, off + n, none⟩) (xs.drop n) := by
  rcases h with h | ⟨b', off', h1, h2, h3⟩
  · subst h; exact .inl (by simp)
  · simp only [Option.some.injEq, Addr.mk.injEq, and_true] at h1
    obtain ⟨rfl, rfl⟩ := h1
    refine .inr ⟨b, off + n, rfl, h2, fun j hj => ?_⟩
    simp only [List.length_drop] at hj
    rw [Nat.add_assoc, h3 (n + j) (by omega)]
    simp [List.getD_eq_getElem?_getD]

theorem NumsAt.kp {k : IntKind} {X : Nat → Prop} {w w' : World} {a : Option Addr} {xs : List Int} (h : NumsAt k w a xs) (hb : Kp X w w') (hx : ∀ b o, a = some ⟨b, o, none⟩ → ¬ X b) : NumsAt k w' a xs := by
  rcases h with h | ⟨b, off, h1, h2, h3⟩
  · exact .inl h
  · refine .inr ⟨b, off, h1, Nat.lt_of_lt_of_le h2 hb.size, fun j hj => ?_⟩
    rw [hb.cell (p := ⟨b, off + j, none⟩) h2 (hx b off h1)]
    exact h3 j hj

/-- A row l of the call's own that grows; beside it the numbers p2, at place t of the block g. -/
structure IN (w : World) (g t : Nat) (v : Value) (l p2 : List Int) (u : World) : Prop where
  own : u.ownsRow w.heap.size 3 1 v l.length (l.map (Value.int .i64))
  src : NumsAt .i64 u (some ⟨g, t, none⟩) p2
  ne : v.ownBlock ≠ some g
  glt : g < u.heap.size
  bel : Below w.heap.size w u

theorem IN.kept {w u u' : World} {g t : Nat} {v : Value} {l p2 : List Int} (h : IN w g t v l p2 u) (hb : Below u.heap.size u u') : IN w g t v l p2 u' :=
  ⟨own_kept h.own hb, h.src.kept hb, h.ne, Nat.lt_of_lt_of_le h.glt hb.size, h.bel.trans (hb.mono h.bel.size)⟩

theorem IN.alloc {w u : World} {g t : Nat} {v : Value} {l p2 : List Int} (h : IN w g t v l p2 u) (o : Obj) : IN w g t v l p2 (u.alloc o) := h.kept ((Below.refl _ _).alloc (Nat.le_refl _) _)

theorem IN.app {w u u' : World} {g t : Nat} {v v' : Value} {l l' p2 : List Int} (h : IN w g t v l p2 u) (hown : u'.ownsRow w.heap.size 3 1 v' l'.length (l'.map (Value.int .i64))) (hg : u.grownBy u' v.ownBlock) (hat : v'.ownBlock = v.ownBlock ∨ v'.ownBlock = some u.heap.size) : IN w g t v' l' p2 u' := by
  have hk : Kp (fun k => v.ownBlock = some k) u u' := (Kp.refl _ u).grown hg (fun k hk _ => hk)
  have hgl := h.glt
  refine ⟨hown, h.src.kp hk (fun b o e ev => ?_), ?_, Nat.lt_of_lt_of_le h.glt hk.size, h.bel.trans (hk.toBelow h.bel.size (fun k hk e => by have := (h.own.lt k e).1; omega))⟩
  · simp only [Option.some.injEq, Addr.mk.injEq, and_true] at e
    exact h.ne (by rw [e.1]; exact ev)
  · intro e
    rcases hat with e2 | e2
    · exact h.ne (e2 ▸ e)
    · rw [e2] at e; simp at e; omega

theorem IN.start {w u : World} {g t : Nat} {p2 : List Int} (hs : NumsAt .i64 u (some ⟨g, t, none⟩) p2) (hg : g < u.heap.size) (hb : Below w.heap.size w u) : IN w g t (.slice none 0 0) [] p2 u :=
  ⟨World.ownsRow_nil _ _ _ _, hs, fun e => by simp [Value.ownBlock] at e, hg, hb⟩

theorem own_cases {w : World} {base : Nat} {v : Value} {n : Nat} {xs : List Value} (h : w.ownsRow base 3 1 v n xs) : (v = .slice none 0 0 ∧ n = 0) ∨ ∃ g cap, v = .slice (some ⟨g, 0, none⟩) n cap ∧ n ≤ cap ∧ cap ≤ maxLen := by
  obtain ⟨h1, h2⟩ := h
  rcases h2 with ⟨rfl, hn⟩ | ⟨g, cap, cur, rfl, hg, hh, hc1, hc2, hc3, hc4⟩
  · exact .inl ⟨rfl, hn⟩
  · exact .inr ⟨g, cap, rfl, hc1, hc2⟩


theorem plcs_succ (i : Nat) : plcs (i + 1) = plcs i ++ [(i : Int)] := by
  unfold plcs
  rw [List.range_succ, List.map_append]; rfl
/-- A place is put behind those whose keys are not greater. -/
theorem ordP_put (κ : Int → Int) (i k : Nat) (hk : k ≤ i) (h1 : ∀ j, k ≤ j → j < i → κ i < κ ((ordP κ i).getD j 0)) (h2 : 0 < k → κ ((ordP κ i).getD (k - 1) 0) ≤ κ i) :
    ordP κ (i + 1) = (ordP κ i).take k ++ [(i : Int)] ++ (ordP κ i).drop k := by
  have hl := ordP_length κ i
  have hd : ∀ x ∈ (ordP κ i).drop k, κ i < κ x := fun x hx => by
    obtain ⟨j, hj, e⟩ := List.getElem_of_mem hx
    rw [List.length_drop] at hj
    have := h1 (k + j) (by omega) (by omega)
    rw [List.getElem_drop] at e
    simp only [List.getD_eq_getElem?_getD, List.getElem?_eq_getElem (show k + j < (ordP κ i).length by omega), Option.getD_some, e] at this
    exact this
  have ht : ∀ x ∈ (ordP κ i).take k, κ x ≤ κ i := fun x hx => by
    obtain ⟨j, hj, e⟩ := List.getElem_of_mem hx
    rw [List.length_take] at hj
    have hp := pw_at (ordP_pw κ i) (show j ≤ k - 1 by omega) (by omega)
    have := h2 (by omega)
    rw [List.getElem_take] at e
    simp only [List.getD_eq_getElem?_getD, List.getElem?_eq_getElem (show j < (ordP κ i).length by omega), Option.getD_some, e] at hp
    simp only [List.getD_eq_getElem?_getD] at this
    omega
  symm
  refine isort_uniq ?_ ?_
  · rw [plcs_succ]
    have s1 : Same κ (plcs i ++ [(i : Int)]) (ordP κ i ++ [(i : Int)]) := (ordP_same κ i).app (Same.refl _ _)
    refine s1.trans ?_
    conv => lhs; rw [← List.take_append_drop k (ordP κ i)]
    rw [List.append_assoc, List.append_assoc]
    refine (Same.refl κ _).app (Same.swap ?_)
    intro x hx y hy
    have := hd x hx
    simp only [List.mem_singleton] at hy
    subst hy
    omega
  · unfold Pw
    rw [List.append_assoc, List.pairwise_append]
    have hp := ordP_pw κ i
    unfold Pw at hp
    refine ⟨hp.sublist (List.take_sublist _ _), ?_, ?_⟩
    · rw [List.singleton_append, List.pairwise_cons]
      exact ⟨fun x hx => Int.le_of_lt (hd x hx), hp.sublist (List.drop_sublist _ _)⟩
    · intro x hx y hy
      have hx' := ht x hx
      rcases List.mem_append.1 hy with h | h
      · simp only [List.mem_singleton] at h; subst h; exact hx'
      · have := hd y h; omega

end Go.Proofs.Ytjepgdfcjbgahaa
