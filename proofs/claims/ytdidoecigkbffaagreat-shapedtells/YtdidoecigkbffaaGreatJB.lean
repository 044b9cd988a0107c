/- The contracts of loneHeaps, of its closure and of the library's Clone of heaps. -/
import Derived.Test.YtdidoecigkbffaaGreatHF
import Derived.Test.YtdidoecigkbffaaGreatBb
set_option maxRecDepth 100000
namespace Go.Proofs.YtdidoecigkbffaaGreat
open Go.RowKit
open S

instance : Inhabited Hp := ⟨⟨0, 0, 0⟩⟩

def big : Int := 1152921504606846976

theorem lone1_any (x y : Hp) (u : World) (h1 : 0 ≤ x.w ∧ x.w ≤ big) (h2 : 0 ≤ y.w ∧ y.w ≤ big) :
    Calls Tryz.prog 74 #[.agg #[.int .i64 x.s, .int .i64 x.w, .int .i64 x.p], .agg #[.int .i64 y.s, .int .i64 y.w, .int .i64 y.p]] u fun e u' => e = .returned (.int .i64 (x.w - y.w)) ∧ Below u.heap.size u u' := by
  unfold big at h1 h2
  go_enter Tryz.func74, Tryz.ntmps74
  go_wp2
  go_ret
  exact ⟨rfl, ((Below.refl _ _).alloc (Nat.le_refl _) _).alloc (by simp) _⟩

theorem cmpH_any (w : World) (g : Nat) : CmpH w g (fun x => 0 ≤ x.w ∧ x.w ≤ big) Hp.w := fun u _ x y h1 h2 => lone1_any x y u h1 h2

/-- No heaps are put in order. -/
theorem sortH_nil (w : World) : Calls Tryz.prog 73 #[.slice none 0 0, .func (.func 74) #[] #[]] w fun e w' => e = .returned (.tuple #[]) ∧ w = w' := by
  have h1 : Calls Tryz.prog 97 #[.slice none 0 0, .int .i64 0, .int .i64 0, .func (.func 74) #[] #[]] w fun e w' => e = .returned (.tuple #[]) ∧ w = w' := by
    go_enter Tryz.func97, Tryz.ntmps97
    go_wp2
    go_loopw [8] (fun v wr => v = .int .i64 1 ∧ wr = w) (fun _ _ => 0)
    case atStart => exact ⟨rfl, rfl⟩
    case round =>
      obtain ⟨rfl, rfl⟩ := hrel
      go_wp2
      go_end0
      exact ⟨rfl, rfl⟩
  have h2 : Calls Tryz.prog 90 #[.slice none 0 0, .int .i64 0, .func (.func 74) #[] #[]] w fun e w' => e = .returned (.tuple #[]) ∧ w = w' := by
    have H := Lib.hid h1
    clear h1
    go_enter Tryz.func90, Tryz.ntmps90
    go_wp2
    go_loopw [7, 8] (fun v7 v8 wr => v7 = .int .i64 0 ∧ v8 = .int .i64 20 ∧ wr = w) (fun _ _ _ => 0)
    case atStart => exact ⟨rfl, rfl, rfl⟩
    case round =>
      obtain ⟨rfl, rfl, rfl⟩ := hrel
      go_wp2_with fail
      refine H.out.mono ?_
      rintro e w' ⟨rfl, rfl⟩
      go_wp2
      go_loopw [6, 7, 8, 9] (fun v6 _ _ _ wq => v6 = .int .i64 20 ∧ wq = wr) (fun _ _ _ _ _ => 0)
      case atStart => exact ⟨rfl, rfl⟩
      case round =>
        obtain ⟨rfl, rfl⟩ := hrel
        go_wp2
        go_end0
        exact ⟨rfl, rfl⟩
  have H := Lib.hid h2
  clear h1 h2
  go_enter Tryz.func73, Tryz.ntmps73
  go_wp2_with fail
  refine H.out.mono ?_
  rintro e w' ⟨rfl, rfl⟩
  go_wp2
  go_end0
  exact ⟨rfl, rfl⟩

theorem num_at {k : IntKind} {w : World} {a : Option Addr} {xs : List Int} (h : NumsAt k w a xs) {i : Nat} (hi : i < xs.length) : ∃ b off, a = some ⟨b, off, none⟩ ∧ b < w.heap.size ∧ w.cell? ⟨b, off + i, none⟩ = some (.int k (xs.getD i 0)) := by
  rcases h with rfl | ⟨b, off, h1, h2, h3⟩
  · simp at hi
  · exact ⟨b, off, h1, h2, h3 i hi⟩

/-- The cells of a heap. -/
def hcl (x : Hp) : List Value := [.int .i64 x.s, .int .i64 x.w, .int .i64 x.p]

theorem hcl_at (l : List Hp) (i : Nat) (h : i < l.length) : (l.flatMap hcl)[i * 3]? = some (.int .i64 (l.getD i default).s) ∧ (l.flatMap hcl)[i * 3 + 1]? = some (.int .i64 (l.getD i default).w) ∧ (l.flatMap hcl)[i * 3 + 2]? = some (.int .i64 (l.getD i default).p) := by
  induction l generalizing i with
  | nil => simp at h
  | cons x l ih =>
    cases i with
    | zero => simp [hcl]
    | succ i =>
      simp only [List.length_cons] at h
      have := ih i (by omega)
      rw [List.flatMap_cons]
      have e : (hcl x).length = 3 := rfl
      refine ⟨?_, ?_, ?_⟩
      · rw [List.getElem?_append_right (by omega), e, show (i + 1) * 3 - 3 = i * 3 by omega, this.1]; simp
      · rw [List.getElem?_append_right (by omega), e, show (i + 1) * 3 + 1 - 3 = i * 3 + 1 by omega, this.2.1]; simp
      · rw [List.getElem?_append_right (by omega), e, show (i + 1) * 3 + 2 - 3 = i * 3 + 2 by omega, this.2.2]; simp

theorem hcl_length (l : List Hp) : (l.flatMap hcl).length = l.length * 3 := by
  induction l with
  | nil => rfl
  | cons x l ih => rw [List.flatMap_cons, List.length_append, ih, List.length_cons]; show 3 + _ = _; omega

/-- A row of heaps, from block base on. -/
def HRow (base : Nat) (u : World) (v : Value) (ys : List Hp) : Prop :=
  (v = .slice none 0 0 ∧ ys = []) ∨ ∃ g cap, v = .slice (some ⟨g, 0, none⟩) ys.length cap ∧ base ≤ g ∧ 0 < ys.length ∧ ys.length ≤ cap ∧ cap ≤ maxLen ∧ ∀ i, i < ys.length → u.cell? ⟨g, i * 3, none⟩ = some (.int .i64 (ys.getD i default).s) ∧ u.cell? ⟨g, i * 3 + 1, none⟩ = some (.int .i64 (ys.getD i default).w) ∧ u.cell? ⟨g, i * 3 + 2, none⟩ = some (.int .i64 (ys.getD i default).p)

theorem HRow.kept {base : Nat} {u u' : World} {v : Value} {ys : List Hp} (h : HRow base u v ys) (hb : Below u.heap.size u u') : HRow base u' v ys := by
  rcases h with h | ⟨g, cap, h1, h2, h3, h4, h5, h6⟩
  · exact .inl h
  · refine .inr ⟨g, cap, h1, h2, h3, h4, h5, fun i hi => ?_⟩
    obtain ⟨a, b, c⟩ := h6 i hi
    have hl := World.block_lt_of_cell? u _ a
    exact ⟨by rw [hb.cell (p := ⟨g, i * 3, none⟩) hl]; exact a, by rw [hb.cell (p := ⟨g, i * 3 + 1, none⟩) hl]; exact b, by rw [hb.cell (p := ⟨g, i * 3 + 2, none⟩) hl]; exact c⟩

theorem getD_seg (f : Nat → Hp) (n i : Nat) (h : i < n) : (seg f 0 n).getD i default = f i := by
  rw [List.getD_eq_getElem?_getD, seg_get, if_pos (by omega)]; simp

theorem up_pairwise {α : Type} {κ : α → Int} {f : Nat → α} {n : Nat} (h : Up κ f 0 n) : (seg f 0 n).Pairwise (fun a b => κ a ≤ κ b) := by
  rw [List.pairwise_iff_getElem]
  intro i j hi hj hij
  rw [seg_length] at hi hj
  have e : ∀ k (hk : k < (seg f 0 n).length), (seg f 0 n)[k] = f k := by
    intro k hk
    have := seg_get f 0 n k
    rw [seg_length] at hk
    rw [if_pos hk, Nat.zero_add, List.getElem?_eq_getElem (by rw [seg_length]; exact hk)] at this
    simpa using this
  rw [e, e]
  exact h i j (Nat.zero_le _) (by omega) (by omega)

theorem seg_getD {α : Type} (l : List α) (d : α) : seg (fun i => l.getD i d) 0 l.length = l := by
  apply List.ext_getElem?
  intro k
  rw [seg_get]
  by_cases h : k < l.length
  · rw [if_pos (by omega)]; simp [List.getD_eq_getElem?_getD, h]
  · rw [if_neg (by omega), List.getElem?_eq_none (by omega)]

/-- One heap for each of the first k symbols that is counted. -/
def loneL (xs : List Int) (k : Nat) : List Hp := ((List.range k).filter fun c => decide (0 < xs.getD c 0)).map fun c : Nat => ⟨(c : Int), min (xs.getD c 0) big, 0⟩

theorem loneL_succ (xs : List Int) (k : Nat) : loneL xs (k + 1) = loneL xs k ++ if 0 < xs.getD k 0 then [⟨(k : Int), min (xs.getD k 0) big, 0⟩] else [] := by
  unfold loneL
  rw [List.range_succ, List.filter_append, List.map_append]
  congr 1
  by_cases h : 0 < xs.getD k 0
  · rw [if_pos h, List.filter_cons, if_pos (by simpa using h)]; rfl
  · rw [if_neg h, List.filter_cons, if_neg (by simpa using h)]; rfl

theorem loneL_length (xs : List Int) (k : Nat) : (loneL xs k).length ≤ k := by
  unfold loneL
  rw [List.length_map]
  exact Nat.le_trans (List.length_filter_le _ _) (by rw [List.length_range]; exact Nat.le_refl _)

theorem loneL_mem {xs : List Int} {k : Nat} {x : Hp} (h : x ∈ loneL xs k) : 0 < x.w ∧ x.w ≤ big := by
  unfold loneL at h
  obtain ⟨c, hc, rfl⟩ := List.mem_map.1 h
  have := (List.mem_filter.1 hc).2
  simp only [decide_eq_true_eq] at this
  show 0 < min (xs.getD c 0) big ∧ min (xs.getD c 0) big ≤ big
  unfold big
  omega

theorem info81 : (Tryz.prog.info? 81).map (fun i => (i.zero, i.size, i.bytes)) = some (some (.agg #[.int .i64 0, .int .i64 0, .int .i64 0]), 3, 24) := by kernel_rfl

def LoneEnd (w : World) (xs : List Int) (e : Ending) (u : World) : Prop :=
  ∃ v ys, e = .returned v ∧ HRow w.heap.size u v ys ∧ Same Hp.w (loneL xs xs.length) ys ∧ ys.Pairwise (fun a b => a.w ≤ b.w) ∧ Below w.heap.size w u

set_option maxHeartbeats 2000000 in
theorem lone_any (A : Option Addr) (n c : Nat) (xs : List Int) (w : World) (hx : NumsAt .i64 w A xs) (hl : xs.length = n) (hn : n ≤ 39) :
    Calls Tryz.prog 52 #[.slice A n c] w (LoneEnd w xs) := by
  have HX := Lib.hid (And.intro hx hl)
  clear hx hl
  go_enter Tryz.func52, Tryz.ntmps52
  go_wp2
  go_loopw [3, 4, 5, 8] (fun v3 _ _ v8 wr => ∃ k : Nat, k ≤ n ∧ v8 = .int .i64 (k : Int) ∧ wr.ownsRow w.heap.size 81 3 v3 (loneL xs k).length ((loneL xs k).flatMap hcl) ∧ (loneL xs k = [] → v3 = .slice none 0 0) ∧ Below w.heap.size w wr) (fun _ _ _ v8 _ => n - (intOf v8).toNat)
  case atStart => exact ⟨0, Nat.zero_le _, rfl, World.ownsRow_nil w w.heap.size 81 3, fun _ => rfl, Below.refl _ _⟩
  case round =>
    obtain ⟨k, hkn, rfl, hown, hnil, hbel⟩ := hrel
    by_cases hlt : k < n
    · obtain ⟨bb, off, rfl, hbl, hcb⟩ := num_at (HX.out.1.kept hbel) (i := k) (by rw [HX.out.2]; exact hlt)
      have hlen := loneL_length xs k
      have q1 : (k : Int) < (n : Int) := by omega
      by_cases hpos : 0 < xs.getD k 0
      · have hsn := loneL_succ xs k
        rw [if_pos hpos] at hsn
        have HS := Lib.hid (And.intro hsn (And.intro trivial (And.intro hown hbel)))
        clear hsn hown hbel hnil
        generalize xs.getD k 0 = z at *
        obtain ⟨i0, hi, hz0, hz1, hz2⟩ := info_parts info81
        by_cases hz : z ≤ 1152921504606846976
        · have HMZ := Lib.hid (show min z big = z by unfold big; omega)
          go_wp2_with (first
            | (at_builtin
               refine wpList_append_own_at _ rfl (.tmp 15) (.tmp 20) 77 rfl w.heap.size 81 i0 (.agg #[.int .i64 0, .int .i64 0, .int .i64 0]) 3 24 Tryz.underlying77 hi hz0 hz1 hz2 rfl (by omega) _ (loneL xs k).length ((loneL xs k).flatMap hcl) rfl (HS.out.2.2.1.alloc (.cells #[.int .i64 (k : Int), .int .i64 z, .int .i64 0] 81)) ⟨_, 0, none⟩ 1 1 [.int .i64 (k : Int), .int .i64 z, .int .i64 0] rfl rfl ?c1 (by simp [Value.oneCell']) ?c2 ?c3 ?c4 ?_))
          case c1 => exact World.news_of_block (cs := #[.int .i64 (k : Int), .int .i64 z, .int .i64 0]) (t := 81) (fr := (0, 0)) (heap_alloc_new wr _)
          case c2 => unfold maxLen; omega
          case c3 => omega
          case c4 => have := HS.out.2.2.2.size; simp; omega
          intro v9 w5 hown hgrow _ hat
          have hb5 : Below w.heap.size w w5 := (HS.out.2.2.2.alloc HS.out.2.2.2.size _).grown hgrow (by have := HS.out.2.2.2.size; simp; omega) (fun r hr => (HS.out.2.2.1.lt r hr).1)
          have hrow : w5.ownsRow w.heap.size 81 3 v9 (loneL xs (k + 1)).length ((loneL xs (k + 1)).flatMap hcl) := by
            rw [HS.out.1, HMZ.out, List.length_append, List.flatMap_append]
            exact hown
          have HR := Lib.hid (And.intro hrow hb5)
          clear hown hgrow hat hb5 hrow hi hz0 hz1 hz2
          go_wp2
          go_roundw
          case rel => exact ⟨k + 1, by omega, by go_num, HR.out.1, fun h => by rw [HS.out.1] at h; simp at h, HR.out.2⟩
          case measure => simp [intOf]; omega
        · have hz' : (1152921504606846976 : Int) < z := by omega
          have HMZ := Lib.hid (show min z big = 1152921504606846976 by unfold big; omega)
          go_wp2_with (first
            | (at_builtin
               refine wpList_append_own_at _ rfl (.tmp 15) (.tmp 20) 77 rfl w.heap.size 81 i0 (.agg #[.int .i64 0, .int .i64 0, .int .i64 0]) 3 24 Tryz.underlying77 hi hz0 hz1 hz2 rfl (by omega) _ (loneL xs k).length ((loneL xs k).flatMap hcl) rfl (HS.out.2.2.1.alloc (.cells #[.int .i64 (k : Int), .int .i64 1152921504606846976, .int .i64 0] 81)) ⟨_, 0, none⟩ 1 1 [.int .i64 (k : Int), .int .i64 1152921504606846976, .int .i64 0] rfl rfl ?d1 (by simp [Value.oneCell']) ?d2 ?d3 ?d4 ?_))
          case d2 => unfold maxLen; omega
          case d3 => omega
          case d4 => have := HS.out.2.2.2.size; simp; omega
          intro v9 w5 hown hgrow _ hat
          have hb5 : Below w.heap.size w w5 := (HS.out.2.2.2.alloc HS.out.2.2.2.size _).grown hgrow (by have := HS.out.2.2.2.size; simp; omega) (fun r hr => (HS.out.2.2.1.lt r hr).1)
          have hrow : w5.ownsRow w.heap.size 81 3 v9 (loneL xs (k + 1)).length ((loneL xs (k + 1)).flatMap hcl) := by
            rw [HS.out.1, HMZ.out, List.length_append, List.flatMap_append]
            exact hown
          have HR := Lib.hid (And.intro hrow hb5)
          clear hown hgrow hat hb5 hrow hi hz0 hz1 hz2
          go_wp2
          go_roundw
          case rel => exact ⟨k + 1, by omega, by go_num, HR.out.1, fun h => by rw [HS.out.1] at h; simp at h, HR.out.2⟩
          case measure => simp [intOf]; omega
      · have hsn := loneL_succ xs k
        rw [if_neg hpos, List.append_nil] at hsn
        have HS := Lib.hid (And.intro hsn (And.intro hown (And.intro hbel hnil)))
        clear hsn hown hbel hnil
        generalize xs.getD k 0 = z at *
        go_wp2
        go_roundw
        case rel => exact ⟨k + 1, by omega, by go_num, by rw [HS.out.1]; exact HS.out.2.1, by rw [HS.out.1]; exact HS.out.2.2.2, HS.out.2.2.1⟩
        case measure => simp [intOf]; omega
    · obtain rfl : k = n := by omega
      have q1 : ¬ (k : Int) < (k : Int) := by omega
      have hlen := loneL_length xs k
      obtain ⟨L, hL⟩ : ∃ L, L = loneL xs k := ⟨_, rfl⟩
      have hdom : ∀ i, i < L.length → 0 ≤ (L.getD i default).w ∧ (L.getD i default).w ≤ big := fun i hi => by
        have hm : L.getD i default ∈ loneL xs k := by rw [← hL]; simp [List.getD_eq_getElem?_getD, hi]
        have := loneL_mem hm
        exact ⟨by omega, this.2⟩
      rw [← hL] at hown hnil hlen
      have hLx : loneL xs xs.length = L := by rw [HX.out.2, hL]
      have HL := Lib.hid (And.intro hLx (And.intro hdom hbel))
      clear hL hLx hdom hbel HX
      by_cases he : L = []
      · subst he
        obtain rfl := hnil rfl
        clear hown hnil
        go_wp2_with fail
        refine (sortH_nil _).mono ?_
        rintro e w' ⟨rfl, rfl⟩
        go_wp2
        go_ret
        exact ⟨_, [], rfl, .inl ⟨rfl, rfl⟩, by rw [HL.out.1]; exact Same.refl _ _, List.Pairwise.nil, HL.out.2.2⟩
      · have hpos : 0 < L.length := List.length_pos_iff.2 he
        have hown' := hown
        obtain ⟨-, h2⟩ := hown
        rcases h2 with ⟨-, h2⟩ | ⟨g, cap, cur, rfl, hg, -, hc1, hc2, -, -⟩
        · omega
        · have hA : ArrH wr g L.length (fun i => L.getD i default) wr := by
            refine ⟨fun i hi => ?_, fun i hi => ?_, fun i hi => ?_, fun i _ => hown'.frozenAt i, Kp.refl _ _⟩
            · rw [hown'.cellAt (i * 3) (by omega)]; exact (hcl_at L i hi).1
            · rw [hown'.cellAt (i * 3 + 1) (by omega)]; exact (hcl_at L i hi).2.1
            · rw [hown'.cellAt (i * 3 + 2) (by omega)]; exact (hcl_at L i hi).2.2
          have hso := sortStableH g L.length cap _ _ _ wr hA (cmpH_any wr g) HL.out.2.1 (by omega)
          have HSO := Lib.hid hso
          clear hso hown' hnil hA he
          go_wp2_with fail
          refine HSO.out.mono ?_
          rintro e w' ⟨rfl, f', h1, h2, h3⟩
          have HE := Lib.hid (And.intro h1 (And.intro h2 h3))
          clear h1 h2 h3
          go_wp2
          go_ret
          obtain ⟨h1, h2, h3⟩ := HE.out
          have hl : (seg f' 0 L.length).length = L.length := by rw [seg_length]; omega
          refine ⟨.slice (some ⟨g, 0, none⟩) L.length cap, seg f' 0 L.length, rfl, .inr ⟨g, cap, (by rw [hl]), hg, by omega, by omega, hc2, fun i hi => ?_⟩, ?_, up_pairwise h3, ?_⟩
          · rw [hl] at hi
            rw [getD_seg f' _ i hi]
            exact ⟨h1.c0 i hi, h1.c1 i hi, h1.c2 i hi⟩
          · rw [HL.out.1]
            have := h2
            rw [seg_getD] at this
            exact this
          · exact HL.out.2.2.trans (h1.kp.toBelow HL.out.2.2.size (fun k hk e => by omega))

end Go.Proofs.YtdidoecigkbffaaGreat
