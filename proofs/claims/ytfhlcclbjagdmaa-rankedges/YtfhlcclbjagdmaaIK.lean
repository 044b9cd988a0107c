/- Numbers put in order, one by one; append of a slice of numbers onto one of the call's own. -/
import Derived.Test.YtfhlcclbjagdmaaIJ
namespace Go.Proofs.Ytfhlcclbjagdmaa
open Go.RowKit
open M

theorem rises_iff (xs : List Int) : Rises xs ↔ xs.Pairwise (· ≤ ·) := by
  rw [List.pairwise_iff_getElem]
  constructor
  · intro h i j hi hj hij
    have := h i j (by omega) hj
    simpa [List.getD_eq_getElem?_getD, hi, hj] using this
  · intro h i j hij hj
    have hi : i < xs.length := by omega
    rcases Nat.lt_or_ge i j with h1 | h1
    · have := h i j hi hj h1
      simpa [List.getD_eq_getElem?_getD, hi, hj] using this
    · have e : i = j := by omega
      subst e; exact Int.le_refl _

theorem findN_le (xs : List Int) (k : Int) : findN xs k ≤ xs.length := List.findIdx_le_length

/-- A number put where it belongs. -/
def putIn (xs : List Int) (k : Int) : List Int := xs.take (findN xs k) ++ [k] ++ xs.drop (findN xs k)

theorem putIn_length (xs : List Int) (k : Int) : (putIn xs k).length = xs.length + 1 := by
  have := findN_le xs k
  simp only [putIn, List.length_append, List.length_take, List.length_drop, List.length_cons, List.length_nil]
  omega

theorem putIn_mem (xs : List Int) (k z : Int) (h : z ∈ putIn xs k) : z ∈ xs ∨ z = k := by
  simp only [putIn, List.mem_append, List.mem_singleton] at h
  rcases h with (h | h) | h
  · exact .inl (List.mem_of_mem_take h)
  · exact .inr h
  · exact .inl (List.mem_of_mem_drop h)

theorem putIn_rises (xs : List Int) (k : Int) (h : Rises xs) : Rises (putIn xs k) := by
  have hp := (rises_iff xs).1 h
  have hlow : ∀ a ∈ xs.take (findN xs k), a < k := by
    intro a ha
    obtain ⟨j, hj, rfl⟩ := List.getElem_of_mem ha
    simp only [List.length_take] at hj
    rw [List.getElem_take]
    have := List.not_of_lt_findIdx (p := fun y => decide (k ≤ y)) (xs := xs) (i := j) (by unfold findN at hj; omega)
    simp at this
    omega
  have hhigh : ∀ b ∈ xs.drop (findN xs k), k ≤ b := by
    intro b hb
    obtain ⟨j, hj, rfl⟩ := List.getElem_of_mem hb
    simp only [List.length_drop] at hj
    rw [List.getElem_drop]
    have hlt : xs.findIdx (fun y => decide (k ≤ y)) < xs.length := by unfold findN at hj; omega
    have h1 := List.findIdx_getElem (p := fun y => decide (k ≤ y)) (xs := xs) (w := hlt)
    simp at h1
    have h2 := h (findN xs k) (findN xs k + j) (by omega) (by omega)
    have h3 : findN xs k < xs.length := hlt
    have h4 : findN xs k + j < xs.length := by omega
    simp [List.getD_eq_getElem?_getD, h3, h4] at h2
    exact Int.le_trans h1 h2
  rw [rises_iff]
  unfold putIn
  rw [List.pairwise_append, List.pairwise_append]
  refine ⟨⟨hp.sublist (List.take_sublist _ _), by simp, ?_⟩, hp.sublist (List.drop_sublist _ _), ?_⟩
  · intro a ha b hb
    simp only [List.mem_singleton] at hb
    subst hb
    exact Int.le_of_lt (hlow a ha)
  · intro a ha b hb
    simp only [List.mem_append, List.mem_singleton] at ha
    rcases ha with ha | ha
    · exact Int.le_trans (Int.le_of_lt (hlow a ha)) (hhigh b hb)
    · subst ha; exact hhigh b hb

theorem find_low (xs : List Int) (h : ∀ x ∈ xs, 0 ≤ x) : findN xs (-1) = 0 := by
  apply findN_eq _ _ _ (Nat.zero_le _)
  · intro j hj; omega
  · intro hl
    have := h _ (memI xs 0 hl)
    omega

theorem NumsAt.take {k : IntKind} {w : World} {a : Option Addr} {xs : List Int} (h : NumsAt k w a xs) (n : Nat) : NumsAt k w a (xs.take n) := by
  rcases h with h | ⟨b, off, h1, h2, h3⟩
  · subst h; exact .inl (by simp)
  · refine .inr ⟨b, off, h1, h2, fun j hj => ?_⟩
    simp only [List.length_take] at hj
    rw [h3 j (by omega)]
    simp [List.getD_eq_getElem?_getD, show j < n by omega]

theorem wpList_append_nums {w : World} {ops : Array Oper} {rest : List Oper} {o : Oper} {a : Act} {Q : Exit → Act → World → Prop} (hgd : o.guard = none) (s x : Operand)
    (ho : o.op = .call { callee := .builtin .append, args := #[s, x], argTypes := #[23, 23] }) (base : Nat) (v : Value) (n : Nat) (xs : List Value) (hs : a.eval s = v) (hown : w.ownsRow base 3 1 v n xs)
    (A : Option Addr) (m c : Nat) (l : List Int) (hx : a.eval x = .slice A m c) (hl : l.length = m) (hA : NumsAt .i64 w A l) (hnone : A = none → m = 0 ∧ c = 0) (h63 : n + m ≤ 1000000000) (hbase : base ≤ w.heap.size)
    (h : ∀ v' w', w'.ownsRow base 3 1 v' (n + m) (xs ++ l.map (Value.int .i64)) → w.grownBy w' v.ownBlock → (v'.ownBlock = v.ownBlock ∨ v'.ownBlock = some w.heap.size) → wpList Try.prog ops Q rest (a.put o.dst v') w') :
    wpList Try.prog ops Q (o :: rest) a w := by
  obtain ⟨i0, hi, hz0, hz1, hz2⟩ := info_parts info3
  cases A with
  | none =>
    obtain ⟨rfl, rfl⟩ := hnone rfl
    obtain rfl : l = [] := List.eq_nil_of_length_eq_zero hl
    refine wpList_append_own_none hgd s x 23 ho base 3 i0 1 Try.underlying23 hi v n xs hs hown hx (h v w (by simpa using hown) ⟨rfl, rfl, rfl, Nat.le_refl _, fun _ _ _ => rfl⟩ (.inl rfl))
  | some ad =>
    refine wpList_append_own_at w hgd s x 23 ho base 3 i0 (.int .i64 0) 1 8 Try.underlying23 hi hz0 hz1 hz2 rfl (by omega) v n xs hs hown ad m c (l.map (Value.int .i64)) hx (by simp [hl]) ?_ ?_ (by unfold maxLen; omega) (by omega) hbase (fun v' w' k1 k2 _ k4 => h v' w' k1 k2 k4)
    · intro j u hu
      rcases hA with rfl | ⟨b, off, e, -, hc⟩
      · simp at hu
      · obtain rfl : ad = ⟨b, off, none⟩ := by simpa using e
        obtain ⟨hj, hju⟩ := List.getElem?_eq_some_iff.1 hu
        simp only [List.length_map] at hj
        have := hc j hj
        have ea : (⟨b, off, none⟩ : Addr).add j = ⟨b, off + j, none⟩ := by
          simp only [Addr.add]; split
          · rename_i h; simp_all
          · rfl
        rw [ea, this, ← hju]
        simp [List.getD_eq_getElem?_getD, hj]
    · intro u hu
      obtain ⟨k, -, rfl⟩ := List.mem_map.1 hu
      rfl

/-- A row of numbers of the call's own. -/
def OwnI (w : World) (v : Value) (p : List Int) (u : World) : Prop := u.ownsRow w.heap.size 3 1 v p.length (p.map (Value.int .i64)) ∧ Below w.heap.size w u

theorem OwnI.kept {w u u' : World} {v : Value} {p : List Int} (h : OwnI w v p u) (hb : Below u.heap.size u u') : OwnI w v p u' := ⟨own_kept h.1 hb, h.2.trans (hb.mono h.2.size)⟩

theorem OwnI.app {w u u' : World} {v v' : Value} {l l' : List Int} (h : OwnI w v l u) (hown : u'.ownsRow w.heap.size 3 1 v' l'.length (l'.map (Value.int .i64))) (hg : u.grownBy u' v.ownBlock) : OwnI w v' l' u' := by
  have hk : Kp (fun k => v.ownBlock = some k) u u' := (Kp.refl _ u).grown hg (fun k hk _ => hk)
  exact ⟨hown, h.2.trans (hk.toBelow h.2.size (fun k hk e => by have := (h.1.lt k e).1; omega))⟩
theorem OwnI.alloc {w u : World} {v : Value} {l : List Int} (h : OwnI w v l u) (o : Obj) : OwnI w v l (u.alloc o) := h.kept ((Below.refl _ _).alloc (Nat.le_refl _) _)

theorem tight_row (a0 : Option Addr) (n cap : Nat) (xs : List Int) (w : World) (K : Nat) (hK : K ≤ 62) (hx : NumsAt .i64 w a0 xs) (hn : xs.length = n) (hn' : n ≤ 10000000) (hs : ∀ x ∈ xs, 0 ≤ x ∧ x < 2 ^ K) :
    Calls Try.prog 31 #[.slice a0 n cap] w fun e w' => ∃ g L m : Nat, e = .returned (.tuple #[.agg #[.int .i64 (n : Int), .int .i64 (wid (mostI xs).toNat : Nat), .int .i64 (L : Int), .slice (some ⟨g, 0, none⟩) m m], .int .i64 0]) ∧
      IRow w' n (wid (mostI xs).toNat) L (some ⟨g, 0, none⟩) m m xs ∧ Below w.heap.size w w' := by
  have e2 : ((2 : Int) ^ K) = ((2 ^ K : Nat) : Int) := by simp
  have hp : (2 : Nat) ^ K ≤ 2 ^ 62 := Nat.pow_le_pow_right (by decide) hK
  have hp0 : (0 : Nat) < 2 ^ K := Nat.pow_pos (by decide)
  rw [e2] at hs
  have h64 : I64s xs := fun x hx => by have := hs x hx; omega
  have hm : (mostI xs).toNat < 2 ^ K := by
    rcases mostI_mem xs with e | e
    · rw [e]; exact hp0
    · have := hs _ e; omega
  have hW := (wid_le _ _).2 hm
  have hfit : Fits xs (wid (mostI xs).toNat) := by
    intro x hx
    have h1 := hs x hx
    have h2 := (mostI_ge xs).2 x hx
    have h3 := (wid_le (mostI xs).toNat _).1 (Nat.le_refl _)
    have e3 : ((2 : Int) ^ wid (mostI xs).toNat) = ((2 ^ wid (mostI xs).toNat : Nat) : Int) := by simp
    rw [e3]
    omega
  refine (tight_ok a0 n cap xs _ w hx hn hn' h64 rfl (by omega) hfit).mono ?_
  rintro e w' ⟨g, rfl, hr, -, hb⟩
  exact ⟨g, _, _, rfl, ⟨hr, hn, rfl, hfit, by omega, hn'⟩, hb⟩

end Go.Proofs.Ytfhlcclbjagdmaa
