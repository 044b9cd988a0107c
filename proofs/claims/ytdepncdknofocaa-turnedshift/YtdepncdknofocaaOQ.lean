/- The contract of Inverse. -/
import Derived.Test.YtdepncdknofocaaOK
set_option maxRecDepth 100000
namespace Go.Proofs.Ytdepncdknofocaa
open Go.RowKit
open M
attribute [local go_sem ↓] Go.wp_at_zero Go.wp_at_succ

theorem nodup_len : ∀ {l1 l2 : List Int}, l1.Nodup → (∀ x ∈ l1, x ∈ l2) → l1.length ≤ l2.length := by
  intro l1
  induction l1 with
  | nil => intro l2 _ _; exact Nat.zero_le _
  | cons a t ih =>
    intro l2 hn hs
    rw [List.nodup_cons] at hn
    have ha : a ∈ l2 := hs a (by simp)
    have h1 := ih (l2 := l2.erase a) hn.2 (fun x hx => (List.mem_erase_of_ne (fun e : x = a => hn.1 (by rw [← e]; exact hx))).2 (hs x (by simp [hx])))
    have h2 := List.length_erase_of_mem ha
    have h3 := List.length_pos_of_mem ha
    simp only [List.length_cons]
    omega
theorem allB_iff {p : List Int} : allB p = true ↔ ∀ x ∈ plcs p.length, x ∈ p := by
  unfold allB
  rw [List.all_eq_true]
  exact ⟨fun h x hx => by simpa using h x hx, fun h x hx => by simpa using h x hx⟩
/-- A number that is none, or was there before, leaves another one out. -/
theorem all_bad {p : List Int} {i : Nat} (hi : i < p.length) (h : (p.getD i 0 < 0 ∨ (p.length : Int) ≤ p.getD i 0) ∨ ∃ j, j < i ∧ p.getD j 0 = p.getD i 0) : allB p = false := by
  rw [← Bool.not_eq_true, allB_iff]
  intro hall
  have hsp : p = p.take i ++ p.getD i 0 :: p.drop (i + 1) := by
    rw [List.getD_eq_getElem?_getD, List.getElem?_eq_getElem hi, Option.getD_some]
    conv => lhs; rw [← List.take_append_drop i p, List.drop_eq_getElem_cons hi]
  have key : ∀ x ∈ plcs p.length, x ∈ p.take i ++ p.drop (i + 1) := by
    intro x hx
    have h1 := hall x hx
    rw [hsp] at h1
    rcases List.mem_append.1 h1 with h2 | h2
    · exact List.mem_append.2 (.inl h2)
    · rcases List.mem_cons.1 h2 with h3 | h3
      · have h4 := plcs_mem.1 hx
        rcases h with h | ⟨j, hj, e⟩
        · omega
        · refine List.mem_append.2 (.inl ?_)
          rw [h3, ← e]
          rw [List.getD_eq_getElem?_getD, List.getElem?_eq_getElem (show j < p.length by omega), Option.getD_some]
          exact List.mem_take_iff_getElem.2 ⟨j, by omega, rfl⟩
      · exact List.mem_append.2 (.inr h3)
  have := nodup_len (plcs_nodup p.length) key
  rw [plcs_length, List.length_append, List.length_take, List.length_drop] at this
  omega
theorem all_good {p : List Int} (h1 : ∀ i, i < p.length → 0 ≤ p.getD i 0 ∧ p.getD i 0 < p.length) (h2 : ∀ i j, i < p.length → j < p.length → p.getD i 0 = p.getD j 0 → i = j) : allB p = true := by
  rw [allB_iff]
  intro x hx
  by_cases hm : x ∈ p
  · exact hm
  · exfalso
    have hnd : p.Nodup := by
      rw [List.Nodup, List.pairwise_iff_getElem]
      intro i j hi hj hij e
      have := h2 i j hi hj (by simp only [List.getD_eq_getElem?_getD, List.getElem?_eq_getElem hi, List.getElem?_eq_getElem hj, Option.getD_some]; exact e)
      omega
    have := nodup_len (l1 := x :: p) (l2 := plcs p.length) (List.nodup_cons.2 ⟨hm, hnd⟩) (fun y hy => by
      rcases List.mem_cons.1 hy with e | e
      · rw [e]; exact hx
      · obtain ⟨i, hi, e2⟩ := List.getElem_of_mem e
        have := h1 i hi
        simp only [List.getD_eq_getElem?_getD, List.getElem?_eq_getElem hi, Option.getD_some, e2] at this
        exact plcs_mem.2 this)
    rw [plcs_length, List.length_cons] at this
    omega

/-- A block that is new. -/
def Frs (B : Nat) (A : Option Addr) : Prop := ∀ a, A = some a → B ≤ a.block
theorem Frs.mono {B C : Nat} {A : Option Addr} (h : Frs B A) (hc : C ≤ B) : Frs C A := fun a ha => Nat.le_trans hc (h a ha)

def InvEnd (w : World) (p : List Int) (n : Nat) (e : Ending) (u : World) : Prop :=
  Below w.heap.size w u ∧ ((allB p = true ∧ ∃ D L, L.length = n ∧ e = .returned (.tuple #[.slice (some ⟨D, 0, none⟩) n n, .int .i64 0]) ∧ NumsAt .i64 u (some ⟨D, 0, none⟩) L ∧ w.heap.size ≤ D ∧ ∀ i, i < n → ∃ q : Nat, p.getD i 0 = (q : Int) ∧ q < n ∧ L.getD q 0 = (i : Int)) ∨
    (allB p = false ∧ e = .returned (.tuple #[.slice none 0 0, .int .i64 1])))

set_option maxHeartbeats 4000000 in
theorem inverse_any (A : Option Addr) (n c : Nat) (p : List Int) (w : World) (hA : NumsAt .i64 w A p) (hl : p.length = n) (hn : n ≤ 1000000) : Calls Try.prog 44 #[.slice A n c] w (InvEnd w p n) := by
  have HX := Lib.hid (And.intro hA hl)
  clear hA hl
  obtain ⟨i0, hi, hz0, hz1, hz2⟩ := info_parts info3
  go_enter Try.func44, Try.ntmps44
  go_wp2_with (first | (at_make; refine wpList_make_full _ rfl _ _ 22 rfl w.heap.size 3 i0 (.int .i64 0) 1 Try.underlying22 hi hz0 hz1 _ _ _ _ n rfl rfl rfl rfl ?b2 ?b3 (Nat.le_refl _) ?_))
  case b2 => first | omega | (rw [hz2]; omega)
  case b3 => unfold maxLen; omega
  intro w1 hown hgrow
  have hD := DI.made (Below.refl _ _) hown hgrow
  have HD := Lib.hid hD
  clear hown hgrow hD hi hz0 hz1 hz2
  obtain ⟨D, hDe⟩ : ∃ D, D = w.heap.size := ⟨_, rfl⟩
  rw [← hDe] at HD
  rw [← hDe]
  clear hDe
  go_wp2
  go_loopw [5, 13] (fun _ v13 wr => ∃ i : Nat, i ≤ n ∧ v13 = .int .i64 (i : Int) ∧ DI w D n (fun k => if k < i then -1 else 0) wr) (fun _ v13 _ => n - (intOf v13).toNat)
  case atStart => exact ⟨0, Nat.zero_le _, rfl, HD.out.congr fun i _ => by simp⟩
  case round =>
    obtain ⟨i, hin, rfl, hDr⟩ := hrel
    clear HD
    by_cases hlt : i < n
    · have c1 := hDr.cell i hlt
      have z1 := hDr.frz i hlt
      have hset := hDr.set hlt (-1)
      have HS := Lib.hid hset
      clear hset hDr
      have q1 : (i : Int) < (n : Int) := by omega
      have q2 : (0 : Int) ≤ (i : Int) := by omega
      go_wp2
      go_roundw
      case rel =>
        refine ⟨i + 1, by omega, by go_num, HS.out.congr fun k _ => ?_⟩
        by_cases e : k = i
        · rw [if_pos e, if_pos (by omega)]
        · rw [if_neg e]
          by_cases e2 : k < i
          · rw [if_pos e2, if_pos (by omega)]
          · rw [if_neg e2, if_neg (by omega)]
      case measure => simp [intOf]; omega
    · obtain rfl : i = n := by omega
      have HD := Lib.hid (hDr.congr (d' := fun _ => -1) fun k hk => by rw [if_pos hk])
      clear hDr
      have q1 : ¬ (i : Int) < (i : Int) := by omega
      go_wp2
      go_loopw [6, 7, 22] (fun _ _ v22 wr => ∃ (k : Nat) (d : Nat → Int), k ≤ i ∧ v22 = .int .i64 (k : Int) ∧ DI w D i d wr ∧ (∀ j, j < k → ∃ q : Nat, p.getD j 0 = (q : Int) ∧ q < i ∧ d q = (j : Int)) ∧ ∀ q, q < i → d q = -1 ∨ ∃ j, j < k ∧ p.getD j 0 = (q : Int)) (fun _ _ v22 _ => i - (intOf v22).toNat)
      case atStart => exact ⟨0, _, Nat.zero_le _, rfl, HD.out, fun j hj => by omega, fun q _ => .inl rfl⟩
      case round =>
        obtain ⟨k, d, hki, rfl, hDr, h1, h2⟩ := hrel
        clear HD
        by_cases hlt : k < i
        · obtain ⟨bb, off, hAe, -, hcb⟩ := num_at (HX.out.1.kept hDr.bel) (i := k) (by rw [HX.out.2]; exact hlt)
          have hkl : k < p.length := by rw [HX.out.2]; exact hlt
          have hbad := fun h => all_bad (p := p) hkl h
          rw [HX.out.2] at hbad
          obtain ⟨x, hx⟩ : ∃ x, x = p.getD k 0 := ⟨_, rfl⟩
          rw [← hx] at hcb hbad
          have HBD := Lib.hid hbad
          have HXX := Lib.hid hx
          subst hAe
          clear hbad hx hkl
          have q2 : (k : Int) < (i : Int) := by omega
          have q3 : (0 : Int) ≤ (k : Int) := by omega
          by_cases hx0 : x < 0
          · have HB := Lib.hid (And.intro hDr.bel (HBD.out (.inl (.inl hx0))))
            clear hDr h1 h2
            go_wp2
            go_ret2
            exact ⟨HB.out.1, .inr ⟨HB.out.2, rfl⟩⟩
          · by_cases hx1 : (i : Int) ≤ x
            · have HB := Lib.hid (And.intro hDr.bel (HBD.out (.inl (.inr hx1))))
              clear hDr h1 h2
              go_wp2
              go_ret2
              exact ⟨HB.out.1, .inr ⟨HB.out.2, rfl⟩⟩
            · obtain ⟨q, rfl⟩ : ∃ q : Nat, x = (q : Int) := ⟨x.toNat, by omega⟩
              have hqi : q < i := by omega
              have c1 := hDr.cell q hqi
              have z1 := hDr.frz q hqi
              have q4 : (q : Int) < (i : Int) := by omega
              have q5 : (0 : Int) ≤ (q : Int) := by omega
              by_cases hfree : d q = -1
              · have hset := hDr.set hqi (k : Int)
                have HS := Lib.hid (And.intro hset (And.intro h1 (And.intro h2 hfree)))
                rw [hfree] at c1
                clear hset hDr h1 h2 hfree
                go_wp2
                go_roundw
                case rel =>
                  obtain ⟨g1, g2, g3, g4⟩ := HS.out
                  refine ⟨k + 1, _, by omega, by go_num, g1, fun j hj => ?_, fun q' hq' => ?_⟩
                  · by_cases ej : j = k
                    · exact ⟨q, by rw [ej, ← HXX.out], hqi, by rw [if_pos rfl, ej]⟩
                    · obtain ⟨q', e1, e2, e3⟩ := g2 j (by omega)
                      refine ⟨q', e1, e2, ?_⟩
                      rw [if_neg, e3]
                      intro e
                      rw [e, g4] at e3
                      omega
                  · by_cases eq : q' = q
                    · exact .inr ⟨k, by omega, by rw [eq, ← HXX.out]⟩
                    · rcases g3 q' hq' with h | ⟨j, hj, h⟩
                      · exact .inl (by rw [if_neg eq]; exact h)
                      · exact .inr ⟨j, by omega, h⟩
                case measure => simp [intOf]; omega
              · have hdup : ∃ j, j < k ∧ p.getD j 0 = (q : Int) := by
                  rcases h2 q hqi with h | h
                  · exact absurd h hfree
                  · exact h
                have HB := Lib.hid (And.intro hDr.bel (HBD.out (.inr hdup)))
                have q6 : (d q == -1) = false := by simpa using hfree
                clear hDr h1 h2 hdup
                generalize d q = y at *
                go_wp2
                go_ret2
                exact ⟨HB.out.1, .inr ⟨HB.out.2, rfl⟩⟩
        · obtain rfl : k = i := by omega
          have HF := Lib.hid (And.intro hDr h1)
          clear hDr h1 h2
          have q2 : ¬ (k : Int) < (k : Int) := by omega
          go_wp2
          go_ret2
          have hgood : allB p = true := by
            apply all_good
            · intro j hj
              rw [HX.out.2] at hj ⊢
              obtain ⟨q, e1, e2, -⟩ := HF.out.2 j hj
              omega
            · intro j j' hj hj' e
              rw [HX.out.2] at hj hj'
              obtain ⟨q, e1, -, e2⟩ := HF.out.2 j hj
              obtain ⟨q', e1', -, e2'⟩ := HF.out.2 j' hj'
              have : q = q' := by omega
              subst this
              omega
          have hLl : ((List.range k).map d).length = k := by simp
          have hLa : ∀ q, q < k → ((List.range k).map d).getD q 0 = d q := fun q hq => by simp [List.getD_eq_getElem?_getD, hq]
          refine ⟨HF.out.1.bel, .inl ⟨hgood, D, (List.range k).map d, hLl, rfl, HF.out.1.nums hLl (fun j hj => (hLa j hj).symm), HF.out.1.lo, fun j hj => ?_⟩⟩
          obtain ⟨q, e1, e2, e3⟩ := HF.out.2 j hj
          exact ⟨q, e1, e2, by rw [hLa q e2, e3]⟩

end Go.Proofs.Ytdepncdknofocaa
