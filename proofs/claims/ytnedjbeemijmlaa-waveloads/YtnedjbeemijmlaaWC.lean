/- The contract of the document's Rows. -/
import Derived.Test.YtnedjbeemijmlaaWB
set_option maxRecDepth 100000
namespace Go.Proofs.Ytnedjbeemijmlaa
open Go.RowKit
open M
attribute [local go_sem ↓] Go.wp_at_zero Go.wp_at_succ

theorem info38 : (Try.prog.info? 38).map (fun i => (i.zero, i.size, i.bytes)) = some (some (.slice none 0 0), 1, 24) := by kernel_rfl

/-- The bits worth 2^s of numbers; those whose parts above 2^s are v; all of l, stably sorted by their parts above 2^s, as far as these are below k. -/
def bitsI (l : List Int) (s : Nat) : List Bool := l.map fun x => decide (x / 2 ^ s % 2 = 1)
def withI (l : List Int) (s : Nat) (v : Nat) : List Int := l.filter fun x => decide (x / 2 ^ s = (v : Int))
def sortI (l : List Int) (s : Nat) (k : Nat) : List Int := (List.range k).flatMap fun v => withI l s v
/-- The symbols' order in row k; the rows of bits. -/
def curI (l : List Int) (W k : Nat) : List Int := if k = 0 then l else sortI l (W - k) (2 ^ k)
def rowsI (l : List Int) (W k : Nat) : List (List Bool) := (List.range k).map fun j => bitsI (curI l W j) (W - 1 - j)

theorem rowsI_succ (l : List Int) (W k : Nat) : rowsI l W (k + 1) = rowsI l W k ++ [bitsI (curI l W k) (W - 1 - k)] := by
  unfold rowsI; rw [List.range_succ, List.map_append]; rfl
theorem rowsI_len (l : List Int) (W k : Nat) : (rowsI l W k).length = k := by simp [rowsI]
theorem sortI_succ (l : List Int) (s k : Nat) : sortI l s (k + 1) = sortI l s k ++ withI l s k := by
  unfold sortI; rw [List.range_succ, List.flatMap_append]; simp
theorem withI_snoc (l : List Int) (s v : Nat) (i : Nat) (h : i < l.length) : withI (l.take (i + 1)) s v = withI (l.take i) s v ++ if l.getD i 0 / 2 ^ s = (v : Int) then [l.getD i 0] else [] := by
  unfold withI
  rw [List.take_add_one, List.filter_append]
  congr 1
  have e : l[i]?.toList = [l.getD i 0] := by simp [List.getD_eq_getElem?_getD, h]
  rw [e]
  generalize l.getD i 0 = y
  by_cases hx : y / 2 ^ s = (v : Int)
  · rw [if_pos hx]; simp [hx]
  · rw [if_neg hx]; simp [hx]
theorem bitsI_len (l : List Int) (s : Nat) : (bitsI l s).length = l.length := by simp [bitsI]
theorem bitsI_snoc (l : List Int) (s i : Nat) (h : i < l.length) : (bitsI l s).take (i + 1) = (bitsI l s).take i ++ [decide (l.getD i 0 / 2 ^ s % 2 = 1)] := by
  rw [List.take_add_one]; simp [bitsI, List.getD_eq_getElem?_getD, h]

theorem countP_split (l : List Int) (p q r : Int → Bool) (h : ∀ x, r x = (p x || q x)) (hd : ∀ x, p x = true → q x = false) : l.countP r = l.countP p + l.countP q := by
  induction l with
  | nil => simp
  | cons x t ih =>
    have h1 := h x
    have h2 := hd x
    simp only [List.countP_cons, ih, h1]
    cases hp : p x <;> cases hq : q x <;> simp_all <;> omega
theorem sortI_count (l : List Int) (s k : Nat) : (sortI l s k).length = l.countP fun x => decide (0 ≤ x / 2 ^ s ∧ x / 2 ^ s < (k : Int)) := by
  induction k with
  | zero =>
    have e : (fun x : Int => decide (0 ≤ x / 2 ^ s ∧ x / 2 ^ s < ((0 : Nat) : Int))) = fun _ => false := by funext x; rw [decide_eq_false_iff_not]; omega
    rw [e]; simp [sortI]
  | succ k ih =>
    rw [sortI_succ, List.length_append, ih]
    unfold withI
    rw [← List.countP_eq_length_filter]
    refine (countP_split l _ _ _ ?_ ?_).symm
    · intro x; rw [← Bool.decide_or, decide_eq_decide]; omega
    · intro x hx; simp only [decide_eq_true_eq] at hx; simp only [decide_eq_false_iff_not]; omega
theorem sortI_len (l : List Int) (s k : Nat) : (sortI l s k).length ≤ l.length := by
  rw [sortI_count]; exact List.countP_le_length
theorem sortI_all (l : List Int) (s k : Nat) (h : ∀ x ∈ l, 0 ≤ x ∧ x < 2 ^ (s + k)) : (sortI l s (2 ^ k)).length = l.length := by
  rw [sortI_count, List.countP_eq_length]
  intro x hx
  obtain ⟨h1, h2⟩ := h x hx
  have hp : (0 : Int) < 2 ^ s := Int.pow_pos (by decide)
  have e : ((2 ^ k : Nat) : Int) = 2 ^ k := by simp
  rw [decide_eq_true_eq, e]
  refine ⟨Int.ediv_nonneg h1 (by omega), Int.ediv_lt_of_lt_mul hp ?_⟩
  rw [← Int.pow_add, Nat.add_comm]; exact h2
theorem curI_len (l : List Int) (W k : Nat) (hk : k ≤ W) (h : ∀ x ∈ l, 0 ≤ x ∧ x < 2 ^ W) : (curI l W k).length = l.length := by
  unfold curI
  split
  · rfl
  · exact sortI_all l (W - k) k (by rw [show W - k + k = W by omega]; exact h)

/-- Rows of bits of length n in a list of its own at v. -/
structure RowsO (w : World) (n : Nat) (v : Value) (bs : List (List Bool)) (u : World) : Prop where
  own : ∃ ss : List Value, u.ownsRow w.heap.size 38 1 v bs.length ss ∧ ∀ j, j < bs.length → ∃ a cap, ss.getD j (.bool false) = .slice a n cap ∧ SliceOf u a n cap (bs.getD j []) ∧ ∀ b o, a = some ⟨b, o, none⟩ → v.ownBlock ≠ some b ∧ b < u.heap.size
  bel : Below w.heap.size w u

theorem RowsO.kept {w u u' : World} {n : Nat} {v : Value} {bs : List (List Bool)} (h : RowsO w n v bs u) (hb : Below u.heap.size u u') : RowsO w n v bs u' := by
  obtain ⟨⟨ss, h1, h2⟩, h3⟩ := h
  refine ⟨⟨ss, own_kept h1 hb, fun j hj => ?_⟩, h3.trans (hb.mono h3.size)⟩
  obtain ⟨a, cap, e1, e2, e3⟩ := h2 j hj
  exact ⟨a, cap, e1, e2.kept hb, fun b o e => ⟨(e3 b o e).1, Nat.lt_of_lt_of_le (e3 b o e).2 hb.size⟩⟩

theorem RowsO.nil (w : World) (n : Nat) : RowsO w n (.slice none 0 0) [] w := ⟨⟨[], World.ownsRow_nil _ _ _ _, fun j hj => absurd hj (by simp)⟩, Below.refl _ _⟩

theorem bools_kp {X : Nat → Prop} {w w' : World} {a : Option Addr} {l : List Bool} (h : BoolsAt w a l) (hb : Kp X w w') (hx : ∀ b o, a = some ⟨b, o, none⟩ → ¬ X b) : BoolsAt w' a l := by
  rcases h with h | ⟨b, off, h1, h2, h3⟩
  · exact .inl h
  · refine .inr ⟨b, off, h1, Nat.lt_of_lt_of_le h2 hb.size, fun j hj => ?_⟩
    rw [hb.cell (p := ⟨b, off + j, none⟩) h2 (hx b off h1)]; exact h3 j hj

/-- A row more, behind those that are there. -/
theorem RowsO.app {w u u' : World} {n : Nat} {v v' : Value} {bs : List (List Bool)} {ss : List Value} (h1 : u.ownsRow w.heap.size 38 1 v bs.length ss)
    (h2 : ∀ j, j < bs.length → ∃ a cap, ss.getD j (.bool false) = .slice a n cap ∧ SliceOf u a n cap (bs.getD j []) ∧ ∀ b o, a = some ⟨b, o, none⟩ → v.ownBlock ≠ some b ∧ b < u.heap.size)
    (h3 : Below w.heap.size w u) (o : Obj) {a : Option Addr} {cap : Nat} {l : List Bool} (hs : SliceOf u a n cap l)
    (hne : ∀ b o, a = some ⟨b, o, none⟩ → v.ownBlock ≠ some b ∧ b < u.heap.size)
    (hown : u'.ownsRow w.heap.size 38 1 v' (bs.length + 1) (ss ++ [.slice a n cap])) (hg : (u.alloc o).grownBy u' v.ownBlock) (hat : v'.ownBlock = v.ownBlock ∨ v'.ownBlock = some (u.heap.size + 1)) : RowsO w n v' (bs ++ [l]) u' := by
  have hk : Kp (fun k => v.ownBlock = some k) u u' := ((Kp.refl _ u).alloc o).grown hg (fun k hk _ => hk)
  have hl : ss.length = bs.length := by have := h1.1; omega
  have hfar : ∀ (a : Option Addr) (cap : Nat) (l : List Bool), SliceOf u a n cap l → (∀ b o, a = some ⟨b, o, none⟩ → v.ownBlock ≠ some b ∧ b < u.heap.size) →
      SliceOf u' a n cap l ∧ ∀ b o, a = some ⟨b, o, none⟩ → v'.ownBlock ≠ some b ∧ b < u'.heap.size := by
    intro a cap l hs hn
    refine ⟨⟨hs.1, hs.2.1, hs.2.2.1, bools_kp hs.2.2.2.1 hk (fun b o e => (hn b o e).1), hs.2.2.2.2⟩, fun b o e => ⟨?_, Nat.lt_of_lt_of_le (hn b o e).2 hk.size⟩⟩
    rcases hat with e2 | e2
    · rw [e2]; exact (hn b o e).1
    · rw [e2]; have := (hn b o e).2; simp; omega
  refine ⟨⟨ss ++ [.slice a n cap], by rw [List.length_append]; exact hown, fun j hj => ?_⟩, h3.trans (hk.toBelow h3.size (fun k hk e => by have := (h1.lt k e).1; omega))⟩
  rw [List.length_append] at hj
  by_cases hlt : j < bs.length
  · obtain ⟨a', cap', e1, e2, e3⟩ := h2 j hlt
    have := hfar a' cap' _ e2 e3
    refine ⟨a', cap', ?_, ?_, this.2⟩
    · rw [← e1]; simp [List.getD_eq_getElem?_getD, List.getElem?_append_left (show j < ss.length by omega)]
    · have e : (bs ++ [l]).getD j [] = bs.getD j [] := by simp [List.getD_eq_getElem?_getD, List.getElem?_append_left hlt]
      rw [e]; exact this.1
  · have hj2 : j = bs.length := by simp at hj; omega
    have := hfar a cap l hs hne
    refine ⟨a, cap, ?_, ?_, this.2⟩
    · rw [hj2, ← hl]; simp [List.getD_eq_getElem?_getD]
    · have e : (bs ++ [l]).getD j [] = l := by rw [hj2]; simp [List.getD_eq_getElem?_getD]
      rw [e]; exact this.1

/-- Bits in a list of the call's own. -/
def OwnB (w : World) (v : Value) (p : List Bool) (u : World) : Prop := u.ownsRow w.heap.size 4 1 v p.length (p.map Value.bool) ∧ Below w.heap.size w u
theorem OwnB.kept {w u u' : World} {v : Value} {p : List Bool} (h : OwnB w v p u) (hb : Below u.heap.size u u') : OwnB w v p u' := ⟨own_kept h.1 hb, h.2.trans (hb.mono h.2.size)⟩
theorem OwnB.app {w u u' : World} {v v' : Value} {l l' : List Bool} (h : OwnB w v l u) (hown : u'.ownsRow w.heap.size 4 1 v' l'.length (l'.map Value.bool)) (hg : u.grownBy u' v.ownBlock) : OwnB w v' l' u' := by
  have hk : Kp (fun k => v.ownBlock = some k) u u' := (Kp.refl _ u).grown hg (fun k hk _ => hk)
  exact ⟨hown, h.2.trans (hk.toBelow h.2.size (fun k hk e => by have := (h.1.lt k e).1; omega))⟩
theorem OwnB.alloc {w u : World} {v : Value} {l : List Bool} (h : OwnB w v l u) (o : Obj) : OwnB w v l (u.alloc o) := h.kept ((Below.refl _ _).alloc (Nat.le_refl _) _)

theorem slice_oneB (w : World) (y : Bool) : SliceOf (w.alloc (.cells #[.bool y] 4)) (some ⟨w.heap.size, 0, none⟩) 1 1 [y] :=
  ⟨rfl, Nat.le_refl _, by unfold maxLen; omega, .inr ⟨w.heap.size, 0, rfl, by simp, fun j hj => by
    obtain rfl : j = 0 := by simpa using hj
    simp⟩, fun e => by cases e⟩

set_option maxHeartbeats 8000000 in
theorem wrows_any (a : Option Addr) (n cap : Nat) (l : List Int) (size : Int) (w : World) (h : NumsAt .i64 w a l) (hl : l.length = n) (hn : n ≤ 1000000) (W : Nat) (hW : wid (size - 1).toNat = W) (hW' : W ≤ 16) (hs1 : 1 ≤ size) (hs2 : size ≤ 65536)
    (hx : ∀ x ∈ l, 0 ≤ x ∧ x < 2 ^ W) : Calls Try.prog 17 #[.slice a n cap, .int .i64 size] w fun e w' => ∃ v, e = .returned v ∧ RowsO w n v (rowsI l W W) w' := by
  have HC := Lib.hid (fun k hk => (curI_len l W k hk hx).trans hl)
  have HN := Lib.hid h
  have HL := Lib.hid hl
  have HW := Lib.hid (rwidth_any (size - 1) w (by omega))
  rw [hW] at HW
  clear h hl hx hW
  go_enter Try.func17, Try.ntmps17
  go_wp2_with fail
  refine HW.out.mono ?_
  rintro e u ⟨rfl, rfl⟩
  clear HW
  go_wp2
  go_loopw [6, 7, 8] (fun v6 v7 v8 wr => ∃ (k : Nat) (a7 : Option Addr) (c7 : Nat), k ≤ W ∧ v8 = .int .i64 (k : Int) ∧ v7 = .slice a7 n c7 ∧ NumsAt .i64 wr a7 (curI l W k) ∧ RowsO w n v6 (rowsI l W k) wr) (fun _ _ v8 _ => W - (intOf v8).toNat)
  case atStart => exact ⟨0, a, cap, Nat.zero_le _, rfl, rfl, HN.out, RowsO.nil w n⟩
  case round =>
    obtain ⟨k, a7, c7, hk, rfl, rfl, hcur, hro⟩ := hrel
    by_cases hlt : k < W
    · obtain ⟨s, hs⟩ : ∃ s : Nat, W - 1 - k = s := ⟨_, rfl⟩
      have hs3 : s ≤ 15 := by omega
      have hs4 : (W : Int) - 1 - (k : Int) = (s : Int) := by omega
      have HR := Lib.hid (And.intro hcur (And.intro hro hs))
      clear hcur hro hs
      obtain ⟨w1, rfl⟩ : ∃ w1, w1 = wr := ⟨_, rfl⟩
      go_wp2
      go_loopw [10, 12] (fun v10 v12 wq => ∃ i : Nat, i ≤ n ∧ v12 = .int .i64 (i : Int) ∧ OwnB w1 v10 ((bitsI (curI l W k) s).take i) wq) (fun _ v12 _ => n - (intOf v12).toNat)
      case atStart => exact ⟨0, Nat.zero_le _, rfl, World.ownsRow_nil _ _ _ _, Below.refl _ _⟩
      case round =>
        obtain ⟨i, hi, rfl, hI⟩ := hrel
        by_cases hin : i < n
        · obtain ⟨bb, off, rfl, hbl, hcb⟩ := num_at (HR.out.1.kept hI.2) (i := i) (by rw [HC.out k hk]; exact hin)
          have hsn := bitsI_snoc (curI l W k) s i (by rw [HC.out k hk]; exact hin)
          have hand := and_mask ((curI l W k).getD i 0 / 2 ^ s) 1 (by omega)
          have hlen : ((bitsI (curI l W k) s).take i).length = i := by rw [List.length_take, bitsI_len, HC.out k hk]; omega
          generalize (curI l W k).getD i 0 = x at *
          obtain ⟨y, hy⟩ : ∃ y, x / 2 ^ s = y := ⟨_, rfl⟩
          rw [hy] at hsn hand
          have hand : bits .and .i64 y 1 = y % 2 := hand
          have hdec : (y % 2 == 1) = decide (y % 2 = 1) := rfl
          have hsz := hI.2.size
          have q1 : (i : Int) < (n : Int) := by omega
          have q2 : (0 : Int) ≤ (i : Int) := by omega
          have q5 : ((s : Int)).toNat = s := by omega
          have q6 : min s 64 = s := by omega
          have HB := Lib.hid (And.intro hI (And.intro hsn hlen))
          clear hI hsn hlen
          generalize hz : decide (y % 2 = 1) = z at *
          clear hz
          go_wp2_with (first
            | (at_builtin
               refine wpList_append_bools rfl (.tmp 35) (.tmp 44) rfl w1.heap.size _ _ _ rfl (HB.out.1.alloc _).1 (some ⟨_, 0, none⟩) 1 1 [z] rfl ?slo ?b63 ?bas ?_))
          case slo => exact slice_oneB _ _
          case b63 => rw [HB.out.2.2]; omega
          case bas => first | omega | (simp; omega)
          intro v' w3 hown hgrow hat
          have hI3 := (HB.out.1.alloc _).app (l' := (bitsI (curI l W k) s).take (i + 1)) (by rw [HB.out.2.1]; simpa using hown) hgrow
          have HI3 := Lib.hid hI3
          clear hown hgrow hat hI3
          go_wp2
          go_roundw
          case rel => exact ⟨i + 1, by omega, by go_num, HI3.out⟩
          case measure => simp [intOf]; omega
        · obtain rfl : i = n := by omega
          rw [List.take_of_length_le (by rw [bitsI_len, HC.out k hk]; omega)] at hI
          obtain ⟨a10, c10, rfl, hs10⟩ := slice_of_own hI.1
          have hbn : (bitsI (curI l W k) s).length = i := by rw [bitsI_len, HC.out k hk]
          rw [hbn] at hs10 ⊢
          have hne : ∀ b o, a10 = some ⟨b, o, none⟩ → u6.ownBlock ≠ some b ∧ b < wr.heap.size := by
            rintro b o rfl
            have h2 := hI.1.lt b rfl
            refine ⟨fun e => ?_, h2.2⟩
            obtain ⟨⟨ss, g1, -⟩, -⟩ := HR.out.2.1
            have := g1.lt b e
            omega
          have hro := HR.out.2.1.kept hI.2
          obtain ⟨⟨ss, g1, g2⟩, g3⟩ := hro
          have hk2 := rowsI_len l W k
          have hsz := hI.2.size
          have hsz3 := g3.size
          have HB := Lib.hid (And.intro hs10 (And.intro hne (And.intro g1 (And.intro g2 (And.intro g3 hk2)))))
          clear hs10 hne g1 g2 g3 hk2 hI hbn
          obtain ⟨i0, hi0, hz0, hz1, hz2⟩ := info_parts info38
          go_wp2_with (first
            | (at_builtin
               refine wpList_append_own_at _ rfl (.tmp 46) (.tmp 48) 35 rfl w.heap.size 38 i0 (.slice none 0 0) 1 24 Try.underlying35 hi0 hz0 hz1 hz2 rfl (by omega) _ _ _ rfl (HB.out.2.2.1.alloc _) ⟨_, 0, none⟩ 1 1 [.slice a10 i c10] rfl rfl ?c1 (by simp [Value.oneCell']) ?c2 ?c3 ?c4 ?_))
          case c1 => exact cell_one_new _ _ _
          case c2 => rw [HB.out.2.2.2.2.2]; unfold maxLen; omega
          case c3 => rw [HB.out.2.2.2.2.2]; omega
          case c4 => simp; omega
          intro v6 w5 hown hgrow _ hat
          have hro := RowsO.app HB.out.2.2.1 HB.out.2.2.2.1 HB.out.2.2.2.2.1 _ HB.out.1 HB.out.2.1 hown hgrow hat
          have hrs := rowsI_succ l W k
          rw [HR.out.2.2] at hrs
          rw [← hrs] at hro
          have HO := Lib.hid (And.intro hro (HN.out.kept hro.bel))
          clear hown hgrow hat hro hrs HB hsz hsz3
          obtain ⟨P, hP⟩ : ∃ P : Nat, 2 ^ (k + 1) = P := ⟨_, rfl⟩
          have hP2 : P ≤ 65536 := by rw [← hP]; exact Nat.pow_le_pow_right (j := 16) (by decide) (by omega)
          have hP3 : (2 : Int) ^ (k + 1) = (P : Int) := by rw [← hP]; simp
          go_wp2
          go_loopw [11, 13] (fun v11 v13 wq => ∃ v : Nat, v ≤ P ∧ v13 = .int .i64 (v : Int) ∧ OwnI w5 v11 (sortI l s v) wq) (fun _ v13 _ => P - (intOf v13).toNat)
          case atStart => exact ⟨0, Nat.zero_le _, rfl, World.ownsRow_nil _ _ _ _, Below.refl _ _⟩
          case round =>
            obtain ⟨v, hv, rfl, hI⟩ := hrel
            by_cases hvP : v < P
            · have q7 : (v : Int) < (P : Int) := by omega
              have HI := Lib.hid hI
              clear hI
              go_wp2
              go_loopw [11, 14] (fun v11 v14 wq => ∃ j : Nat, j ≤ i ∧ v14 = .int .i64 (j : Int) ∧ OwnI w5 v11 (sortI l s v ++ withI (l.take j) s v) wq) (fun _ v14 _ => i - (intOf v14).toNat)
              case atStart => exact ⟨0, Nat.zero_le _, rfl, by simpa [withI] using HI.out⟩
              case round =>
                obtain ⟨j, hj, rfl, hI⟩ := hrel
                clear HI
                by_cases hjn : j < i
                · obtain ⟨bb, off, rfl, hbl, hcb⟩ := num_at (HO.out.2.kept hI.2) (i := j) (by rw [HL.out]; exact hjn)
                  have hwn := withI_snoc l s v j (by rw [HL.out]; exact hjn)
                  have hlen : (sortI l s v ++ withI (l.take j) s v).length ≤ 2000000 := by
                    rw [List.length_append]
                    have h1 := sortI_len l s v
                    have h2 : (withI (l.take j) s v).length ≤ (l.take j).length := List.length_filter_le _ _
                    rw [List.length_take, HL.out] at h2
                    rw [HL.out] at h1
                    omega
                  generalize l.getD j 0 = x at *
                  obtain ⟨y, hy⟩ : ∃ y, x / 2 ^ s = y := ⟨_, rfl⟩
                  rw [hy] at hwn
                  have hsz := hI.2.size
                  have q1 : (j : Int) < (i : Int) := by omega
                  have q2 : (0 : Int) ≤ (j : Int) := by omega
                  have q5 : ((s : Int)).toNat = s := by omega
                  have q6 : min s 64 = s := by omega
                  by_cases hyv : y = (v : Int)
                  · rw [if_pos hyv] at hwn
                    subst hyv
                    have HB := Lib.hid (And.intro hI (And.intro hwn hlen))
                    clear hI hwn hlen
                    go_wp2_with (first
                      | (at_builtin
                         refine wpList_append_nums rfl (.tmp 72) (.tmp 77) rfl w5.heap.size _ _ _ rfl (HB.out.1.alloc _).1 (some ⟨_, 0, none⟩) 1 1 [x] rfl rfl ?c1 (by simp) ?c2 ?c3 ?_))
                    case c1 => exact nums_one _ _
                    case c2 => have := HB.out.2.2; omega
                    case c3 => first | omega | (simp; omega)
                    intro v' w6 hown hgrow _
                    have hI5 := (HB.out.1.alloc _).app (l' := sortI l s v ++ withI (l.take (j + 1)) s v) (by rw [HB.out.2.1]; simpa [Nat.add_assoc] using hown) hgrow
                    have HX5 := Lib.hid hI5
                    clear hown hgrow hI5
                    go_wp2
                    go_roundw
                    case rel => exact ⟨j + 1, by omega, by go_num, HX5.out⟩
                    case measure => simp [intOf]; omega
                  · rw [if_neg hyv, List.append_nil] at hwn
                    have hyc : (y == (v : Int)) = false := by simpa using hyv
                    have HB := Lib.hid (And.intro hI hwn)
                    clear hI hwn hlen hyv
                    go_wp2
                    go_roundw
                    case rel => exact ⟨j + 1, by omega, by go_num, by rw [HB.out.2]; exact HB.out.1⟩
                    case measure => simp [intOf]; omega
                · obtain rfl : j = i := by omega
                  rw [List.take_of_length_le (by rw [HL.out]; omega), ← sortI_succ] at hI
                  have HB := Lib.hid hI
                  clear hI
                  go_wp2
                  go_roundw
                  case rel => exact ⟨v + 1, by omega, by go_num, HB.out⟩
                  case measure => simp [intOf]; omega
            · obtain rfl : v = P := by omega
              have hcI : curI l W (k + 1) = sortI l s v := by
                unfold curI; rw [if_neg (by omega), show W - (k + 1) = s by rw [← HR.out.2.2]; omega, hP]
              have hlen := HC.out (k + 1) (by omega)
              rw [← hcI] at hI
              obtain ⟨a11, c11, rfl, hn11, -⟩ := nums_of_own hI.1
              rw [hlen]
              have HB := Lib.hid (And.intro hn11 (HO.out.1.kept hI.2))
              clear hI hcI hlen hn11
              go_wp2
              go_roundw
              case rel => exact ⟨k + 1, a11, c11, by omega, by go_num, rfl, HB.out.1, HB.out.2⟩
              case measure => simp [intOf]; omega
    · obtain rfl : k = W := by omega
      have HR := Lib.hid hro
      clear hcur hro
      go_wp2
      go_ret
      exact ⟨_, rfl, HR.out⟩

end Go.Proofs.Ytnedjbeemijmlaa
