/- The contract of Codes. -/
import Derived.Test.YtdidoecigkbffaaGreatCB
set_option maxRecDepth 100000
namespace Go.Proofs.YtdidoecigkbffaaGreat
open Go.RowKit
open S J

/-- No numbers are put in order. -/
theorem sortI_nil (cb : Value) (w : World) : Calls Tryz.prog 34 #[.slice none 0 0, .func (.func 35) #[] #[cb]] w fun e w' => e = .returned (.tuple #[]) ∧ w = w' := by
  have h1 : Calls Tryz.prog 77 #[.slice none 0 0, .int .i64 0, .int .i64 0, .func (.func 35) #[] #[cb]] w fun e w' => e = .returned (.tuple #[]) ∧ w = w' := by
    go_enter Tryz.func77, Tryz.ntmps77
    go_wp2
    go_loopw [8] (fun v wr => v = .int .i64 1 ∧ wr = w) (fun _ _ => 0)
    case atStart => exact ⟨rfl, rfl⟩
    case round =>
      obtain ⟨rfl, rfl⟩ := hrel
      go_wp2
      go_end0
      exact ⟨rfl, rfl⟩
  have h2 : Calls Tryz.prog 54 #[.slice none 0 0, .int .i64 0, .func (.func 35) #[] #[cb]] w fun e w' => e = .returned (.tuple #[]) ∧ w = w' := by
    have H := Lib.hid h1
    clear h1
    go_enter Tryz.func54, Tryz.ntmps54
    go_wp2
    go_loopw [7, 8] (fun v7 v8 wr => v7 = .int .i64 0 ∧ v8 = .int .i64 20 ∧ wr = w) (fun _ _ _ => 0)
    case atStart => exact ⟨rfl, rfl, rfl⟩
    case round =>
      obtain ⟨rfl, rfl, rfl⟩ := hrel
      go_wp2_with fail
      refine H.out.mono ?_
      rintro e w' ⟨rfl, rfl⟩
      go_wp2
      go_loopw [6, 7, 8, 9] (fun v6 _ _ _ wq => v6 = .int .i64 20 ∧ wq = wr) (fun _ _ _ _ _ => 0)
      case atStart => exact ⟨rfl, rfl⟩
      case round =>
        obtain ⟨rfl, rfl⟩ := hrel
        go_wp2
        go_end0
        exact ⟨rfl, rfl⟩
  have H := Lib.hid h2
  clear h1 h2
  go_enter Tryz.func34, Tryz.ntmps34
  go_wp2_with fail
  refine H.out.mono ?_
  rintro e w' ⟨rfl, rfl⟩
  go_wp2
  go_end0
  exact ⟨rfl, rfl⟩


theorem info9 : (Tryz.prog.info? 9).map (fun i => (i.zero, i.size, i.bytes)) = some (some (.string ⟨#[]⟩), 1, 16) := by kernel_rfl

/-- A row of texts of digits, of the call's own. -/
structure SR (w : World) (C n : Nat) (f : Nat → List Bool) (u : World) : Prop where
  cell : ∀ i, i < n → u.cell? ⟨C, i, none⟩ = some (.string (str (f i)))
  frz : ∀ i, i < n → u.frozen? ⟨C, i, none⟩ = false
  lo : w.heap.size ≤ C
  hi : C < u.heap.size
  bel : Below w.heap.size w u

variable {w u u' : World} {C n : Nat} {f : Nat → List Bool}

theorem SR.kept (h : SR w C n f u) (hb : Below u.heap.size u u') : SR w C n f u' :=
  ⟨fun i hi => by rw [hb.cell (p := ⟨C, i, none⟩) h.hi]; exact h.cell i hi, fun i hi => by rw [hb.frozen (p := ⟨C, i, none⟩) h.hi]; exact h.frz i hi, h.lo, Nat.lt_of_lt_of_le h.hi hb.size, h.bel.trans (hb.mono h.bel.size)⟩
theorem SR.congr {f' : Nat → List Bool} (h : SR w C n f u) (hd : ∀ i, i < n → f i = f' i) : SR w C n f' u := { h with cell := fun i hi => by rw [← hd i hi]; exact h.cell i hi }

theorem madeStr (n : Nat) : ∀ i, i < n → (madeCells #[Value.string ⟨#[]⟩] n).toList[i]? = some (.string (str [])) := by
  intro i hi
  simp [madeCells, hi, Nat.mod_one]; rfl

/-- The codes of the first K symbols in order. -/
def codN (z : Nat → Int) (d : Nat → Nat) : Nat → Nat → List Bool
  | 0, _ => []
  | k + 1, c => if (c : Int) = z k then codeSeq d k else codN z d k c

/-- What Codes holds while it counts up. -/
structure CW (w : World) (gs m db gd n C : Nat) (z : Nat → Int) (dep : Nat → Nat) (f : Nat → List Bool) (u : World) : Prop where
  sr : SR w C n f u
  zc : ∀ i, i < m → u.cell? ⟨gs, i, none⟩ = some (.int .i64 (z i))
  dbc : u.cell? ⟨db, 0, none⟩ = some (.slice (some ⟨gd, 0, none⟩) n n)
  dc : ∀ i, i < n → u.cell? ⟨gd, i, none⟩ = some (.int .i64 (dep i : Nat))
  n1 : C ≠ gs
  n2 : C ≠ db
  n3 : C ≠ gd

variable {gs m db gd : Nat} {z : Nat → Int} {dep : Nat → Nat}

theorem CW.kept (h : CW w gs m db gd n C z dep f u) (hb : Below u.heap.size u u') : CW w gs m db gd n C z dep f u' :=
  { h with
    sr := h.sr.kept hb
    zc := fun i hi => by rw [hb.cell (p := ⟨gs, i, none⟩) (World.block_lt_of_cell? u _ (h.zc i hi))]; exact h.zc i hi
    dbc := by rw [hb.cell (p := ⟨db, 0, none⟩) (World.block_lt_of_cell? u _ h.dbc)]; exact h.dbc
    dc := fun i hi => by rw [hb.cell (p := ⟨gd, i, none⟩) (World.block_lt_of_cell? u _ (h.dc i hi))]; exact h.dc i hi }
theorem CW.drewN (h : CW w gs m db gd n C z dep f u) (q : Nat) : CW w gs m db gd n C z dep f (u.drewN q) := h.kept ⟨rfl, rfl, rfl, Nat.le_refl _, fun _ _ => rfl⟩

theorem CW.set (h : CW w gs m db gd n C z dep f u) {i : Nat} (_hi : i < n) (x : List Bool) : CW w gs m db gd n C z dep (fun k => if k = i then x else f k) (u.setCell ⟨C, i, none⟩ (.string (str x))) :=
  { h with
    sr := by
      refine ⟨fun k hk => ?_, fun k hk => by simpa using h.sr.frz k hk, h.sr.lo, by simpa using h.sr.hi, h.sr.bel.setCell h.sr.lo _⟩
      rw [cell_set _ _ _ _ _ _ (h.sr.cell k hk)]
      by_cases e : k = i
      · simp [e]
      · simp [e]
    zc := fun k hk => by rw [World.cell?_setCell_other _ _ _ _ (ne_addr h.n1)]; exact h.zc k hk
    dbc := by rw [World.cell?_setCell_other _ _ _ _ (ne_addr h.n2)]; exact h.dbc
    dc := fun k hk => by rw [World.cell?_setCell_other _ _ _ _ (ne_addr h.n3)]; exact h.dc k hk }

/-- What the codes of counts are. -/
structure Cod (xs : List Int) (n : Nat) (ys : List Hp) (zs : List Int) : Prop where
  yo : Ys xs n ys
  same : Same (fun x : Int => (depF ys x.toNat : Int)) (symL (depF ys) n) zs
  pw : zs.Pairwise (fun a b => depF ys a.toNat ≤ depF ys b.toNat)

def codF (ys : List Hp) (zs : List Int) (c : Nat) : List Bool := codN (fun k => zs.getD k 0) (fun k => depF ys (zs.getD k 0).toNat) zs.length c

def CodesEnd (w : World) (xs : List Int) (e : Ending) (u : World) : Prop :=
  ∃ (C : Nat) (ys : List Hp) (zs : List Int), e = .returned (.slice (some ⟨C, 0, none⟩) xs.length xs.length) ∧ Cod xs xs.length ys zs ∧ SR w C xs.length (codF ys zs) u

set_option maxHeartbeats 4000000 in
theorem codes_any (A : Option Addr) (n c : Nat) (xs : List Int) (w : World) (hx : NumsAt .i64 w A xs) (hl : xs.length = n) (hn : n ≤ 39) :
    Calls Tryz.prog 21 #[.slice A n c] w (CodesEnd w xs) := by
  have HX := Lib.hid (And.intro hx hl)
  clear hx hl
  obtain ⟨i0, hi, hz0, hz1, hz2⟩ := info_parts info9
  go_enter Tryz.func21, Tryz.ntmps21
  go_wp2_with (first | (at_make; refine wpList_make_full _ rfl _ _ 27 rfl w.heap.size 9 i0 (.string ⟨#[]⟩) 1 Tryz.underlying27 hi hz0 hz1 _ _ _ _ n rfl rfl rfl rfl ?b2 ?b3 (Nat.le_refl _) ?_))
  case b2 => rw [hz2]; omega
  case b3 => unfold maxLen; omega
  intro w1 hown hgrow
  have hC : SR w w.heap.size n (fun _ => []) w1 := by
    have hg := hown.lt w.heap.size rfl
    exact ⟨fun i hi => by rw [hown.cellAt i (by omega)]; exact madeStr n i hi, fun i _ => hown.frozenAt i, Nat.le_refl _, hg.2, below_grown hgrow⟩
  have HC := Lib.hid hC
  clear hown hgrow hC hi hz0 hz1 hz2
  go_wp2_with fail
  refine (depths_any A n c xs _ (HX.out.1.kept HC.out.bel) HX.out.2 hn).mono ?_
  rintro e w2 ⟨gd, ys, rfl, hsame, hpw, hD⟩
  rw [HX.out.2] at hD hsame
  rw [HX.out.2]
  have hys : Ys xs n ys := ⟨hsame, hpw⟩
  have hb12 := hD.bel
  obtain ⟨C, hCe⟩ : ∃ C, C = w.heap.size := ⟨_, rfl⟩
  have hC2 := HC.out.kept hb12
  rw [← hCe] at hC2
  have hw1 : C < w1.heap.size := by rw [hCe]; exact HC.out.hi
  have hgd : w1.heap.size ≤ gd := hD.lo
  obtain ⟨dbx, hdb⟩ : ∃ dbx, dbx = w2.heap.size := ⟨_, rfl⟩
  have hal : Below w2.heap.size w2 (w2.alloc (.cells #[.slice (some ⟨gd, 0, none⟩) n n] 22)) := (Below.refl _ _).alloc (Nat.le_refl _) _
  have hC3 := hC2.kept hal
  have hdc : ∀ i, i < n → (w2.alloc (.cells #[.slice (some ⟨gd, 0, none⟩) n n] 22)).cell? ⟨gd, i, none⟩ = some (.int .i64 (depF ys i : Nat)) := fun i hi => (hD.kept hal).cell i hi
  have hdbc : (w2.alloc (.cells #[.slice (some ⟨gd, 0, none⟩) n n] 22)).cell? ⟨dbx, 0, none⟩ = some (.slice (some ⟨gd, 0, none⟩) n n) := by rw [hdb, cell_new _ _ _ _ _ rfl]; rfl
  have hgd2 : gd < dbx := by rw [hdb]; exact hD.hi
  have hbx : dbx < (w2.alloc (.cells #[.slice (some ⟨gd, 0, none⟩) n n] 22)).heap.size := by rw [hdb]; simp
  have HCE := Lib.hid hCe
  clear hCe
  go_wp2
  rw [← hdb, ← HCE.out]
  obtain ⟨w3, hw3⟩ : ∃ w3, w3 = w2.alloc (.cells #[.slice (some ⟨gd, 0, none⟩) n n] 22) := ⟨_, rfl⟩
  rw [← hw3] at hC3 hdc hdbc hbx
  rw [← hw3]
  have HP := Lib.hid (And.intro hC3 (And.intro hdc (And.intro hdbc (And.intro hys HCE.out))))
  have hCw : C < w3.heap.size := hC3.hi
  clear hw3 hdb hC3 hC2 hdc hdbc hal hys hsame hpw hD hb12 HC HCE
  generalize hdp : depF ys = dep at *
  have HDP := Lib.hid hdp
  clear hdp
  go_loopw [5, 6, 7, 17] (fun v5 _ _ v17 wr => ∃ k : Nat, k ≤ n ∧ v17 = .int .i64 (k : Int) ∧ wr.ownsRow w3.heap.size 3 1 v5 (symL dep k).length ((symL dep k).map (Value.int .i64)) ∧ (symL dep k = [] → v5 = .slice none 0 0) ∧ Below w3.heap.size w3 wr) (fun _ _ _ v17 _ => n - (intOf v17).toNat)
  case atStart => exact ⟨0, Nat.zero_le _, rfl, World.ownsRow_nil w3 w3.heap.size 3 1, fun _ => rfl, Below.refl _ _⟩
  case round =>
    obtain ⟨k, hkn, rfl, hown, hnil, hbel⟩ := hrel
    by_cases hlt : k < n
    · have hlen := symL_length dep k
      have hcd := HP.out.2.1 k hlt
      have c1 : wr.cell? ⟨gd, k, none⟩ = some (.int .i64 (dep k : Nat)) := by rw [hbel.cell (p := ⟨gd, k, none⟩) (World.block_lt_of_cell? w3 _ hcd)]; exact hcd
      clear hcd
      have q1 : (k : Int) < (n : Int) := by omega
      have q2 : (0 : Int) ≤ (k : Int) := by omega
      by_cases hpos : 0 < dep k
      · have hsn := symL_succ dep k
        rw [if_pos hpos] at hsn
        have HS := Lib.hid (And.intro hsn (And.intro hown hbel))
        have q3 : (0 : Int) < (dep k : Nat) := by omega
        clear hsn hown hbel hnil
        generalize dep k = dk at *
        obtain ⟨i0, hi, hz0, hz1, hz2⟩ := info_parts info3
        go_wp2_with (first
          | (at_builtin
             refine wpList_append_own_at _ rfl (.tmp 24) (.tmp 26) 22 rfl w3.heap.size 3 i0 (.int .i64 0) 1 8 Tryz.underlying22 hi hz0 hz1 hz2 rfl (by omega) _ (symL dep k).length ((symL dep k).map (Value.int .i64)) rfl (HS.out.2.1.alloc (.cells #[.int .i64 (k : Int)] 3)) ⟨_, 0, none⟩ 1 1 [.int .i64 (k : Int)] rfl rfl ?c1 (by simp [Value.oneCell']) ?c2 ?c3 ?c4 ?_))
        case c1 => exact World.news_of_block (cs := #[.int .i64 (k : Int)]) (t := 3) (fr := (0, 0)) (heap_alloc_new wr _)
        case c2 => unfold maxLen; omega
        case c3 => omega
        case c4 => have := HS.out.2.2.size; simp; omega
        intro v9 w5 hown hgrow _ hat
        have hb5 : Below w3.heap.size w3 w5 := (HS.out.2.2.alloc HS.out.2.2.size _).grown hgrow (by have := HS.out.2.2.size; simp; omega) (fun r hr => (HS.out.2.1.lt r hr).1)
        have hrow : w5.ownsRow w3.heap.size 3 1 v9 (symL dep (k + 1)).length ((symL dep (k + 1)).map (Value.int .i64)) := by
          rw [HS.out.1, List.length_append, List.map_append]
          exact hown
        have HR := Lib.hid (And.intro hrow hb5)
        clear hown hgrow hat hb5 hrow hi hz0 hz1 hz2
        go_wp2
        go_roundw
        case rel => exact ⟨k + 1, by omega, by go_num, HR.out.1, fun h => by rw [HS.out.1] at h; simp at h, HR.out.2⟩
        case measure => simp [intOf]; omega
      · have hsn := symL_succ dep k
        rw [if_neg hpos, List.append_nil] at hsn
        have HS := Lib.hid (And.intro hsn (And.intro hown (And.intro hbel hnil)))
        have q3 : ¬ (0 : Int) < (dep k : Nat) := by omega
        clear hsn hown hbel hnil
        generalize dep k = dk at *
        go_wp2
        go_roundw
        case rel => exact ⟨k + 1, by omega, by go_num, by rw [HS.out.1]; exact HS.out.2.1, by rw [HS.out.1]; exact HS.out.2.2.2, HS.out.2.2.1⟩
        case measure => simp [intOf]; omega
    · obtain rfl : k = n := by omega
      have q1 : ¬ (k : Int) < (k : Int) := by omega
      have hlen := symL_length dep k
      have hme : ∀ x ∈ symL dep k, 0 ≤ x ∧ x < (k : Int) := fun x hx => by
        obtain ⟨c, rfl, h1, -⟩ := symL_mem.1 hx
        omega
      obtain ⟨L, hL⟩ : ∃ L, L = symL dep k := ⟨_, rfl⟩
      rw [← hL] at hown hnil hlen hme
      have HL := Lib.hid hL
      have HB := Lib.hid hbel
      clear hL hbel
      by_cases he : L = []
      · subst he
        obtain rfl := hnil rfl
        clear hown hnil
        go_wp2_with fail
        refine (sortI_nil _ _).mono ?_
        rintro e w' ⟨rfl, rfl⟩
        go_wp2
        go_loopw [8, 9, 34] (fun _ _ v34 wq => v34 = .int .i64 0 ∧ wq = wr) (fun _ _ _ _ => 0)
        case atStart => exact ⟨rfl, rfl⟩
        case round =>
          obtain ⟨rfl, rfl⟩ := hrel
          go_wp2
          go_ret
          refine ⟨C, ys, [], by rw [HX.out.2]; rfl, ⟨?_, ?_, List.Pairwise.nil⟩, ?_⟩
          · rw [HX.out.2]; exact HP.out.2.2.2.1
          · rw [HX.out.2, HDP.out, ← HL.out]; exact Same.refl _ _
          · rw [HX.out.2]; exact HP.out.1.kept HB.out
      · have hpos : 0 < L.length := List.length_pos_iff.2 he
        have hown' := hown
        obtain ⟨-, h2⟩ := hown
        rcases h2 with ⟨-, h2⟩ | ⟨gs, cap, cur, rfl, hg, -, hc1, hc2, -, -⟩
        · omega
        · have hA : Arr wr gs L.length (fun i => L.getD i 0) wr := by
            refine ⟨fun i hi => ?_, fun i _ => hown'.frozenAt i, Kp.refl _ _⟩
            rw [hown'.cellAt i (by omega)]
            simp [List.getD_eq_getElem?_getD, hi]
          have hdbl := World.block_lt_of_cell? w3 _ HP.out.2.2.1
          have hgdl : gd < w3.heap.size := by simp only at hdbl; omega
          simp only at hdbl
          have hys := HP.out.2.2.2.1
          have hys2 : 2 ≤ ys.length := by
            by_cases h2 : 2 ≤ ys.length
            · exact h2
            · exfalso
              apply he
              rw [HL.out]
              apply List.eq_nil_iff_forall_not_mem.2
              intro x hx
              obtain ⟨c, -, -, h3⟩ := symL_mem.1 hx
              rw [← HDP.out, hys.few (by omega)] at h3
              omega
          have hle : ∀ i, (0 : Int) ≤ ((dep i : Nat) : Int) ∧ ((dep i : Nat) : Int) ≤ 1000 := fun i => by
            have := hys.dep_le i
            have h4 := hys.perm.length_eq
            have h5 := loneL_length xs k
            rw [HDP.out] at this
            omega
          have hcmp := cmpI_any wr gs dbx gd k k (fun i => ((dep i : Nat) : Int)) (by rw [HB.out.cell (p := ⟨dbx, 0, none⟩) hdbl]; exact HP.out.2.2.1) (fun i hi => by rw [HB.out.cell (p := ⟨gd, i, none⟩) hgdl]; exact HP.out.2.1 i hi) (by omega) (by omega) hle
          have hso := sortStable_any gs L.length cap _ _ _ _ wr hA hcmp (fun i hi => hme _ (by simp [List.getD_eq_getElem?_getD, hi])) (by omega)
          have HSO := Lib.hid hso
          have HY := Lib.hid (And.intro hys hys2)
          clear hso hown' hnil hA he hcmp hle hme hys hys2
          go_wp2_with fail
          refine HSO.out.mono ?_
          rintro e w6 ⟨rfl, f', h1, h2, h3⟩
          have hl : (seg f' 0 L.length).length = L.length := by rw [seg_length]; omega
          obtain ⟨zs, hzs⟩ : ∃ zs, zs = seg f' 0 L.length := ⟨_, rfl⟩
          have hzl : zs.length = L.length := by rw [hzs]; exact hl
          have hzd : ∀ i, i < L.length → zs.getD i 0 = f' i := fun i hi => by rw [hzs, List.getD_eq_getElem?_getD, seg_get, if_pos (by omega)]; simp
          rw [seg_getD, ← hzs] at h2
          have hpw : zs.Pairwise (fun a b => dep a.toNat ≤ dep b.toNat) := by
            rw [hzs]
            exact (up_pairwise h3).imp fun h => by simpa using h
          have hperm : (symL dep k).Perm zs := by rw [← HL.out]; exact same_perm h2
          have hfull := HY.out.1.full HY.out.2 (zs := zs) (by rw [HDP.out]; exact hperm) (by rw [HDP.out]; exact hpw)
          rw [HDP.out] at hfull
          obtain ⟨d, hd⟩ : ∃ d : Nat → Nat, d = fun i => dep (zs.getD i 0).toNat := ⟨_, rfl⟩
          have hdd : ∀ i, i < L.length → ∃ zn : Nat, zs.getD i 0 = (zn : Int) ∧ zn < k ∧ d i = dep zn ∧ 1 ≤ d i := fun i hi => by
            have hm : zs.getD i 0 ∈ zs := by simp [List.getD_eq_getElem?_getD, hzl, hi]
            obtain ⟨c, e1, e2, e3⟩ := symL_mem.1 (hperm.mem_iff.2 hm)
            refine ⟨c, e1, e2, ?_, ?_⟩
            · rw [hd]; show dep (zs.getD i 0).toNat = _; rw [e1, Int.toNat_natCast]
            · rw [hd]; show 1 ≤ dep (zs.getD i 0).toNat; rw [e1, Int.toNat_natCast]; exact e3
          have hnd : zs.Nodup := (hperm.nodup_iff).1 (symL_nodup dep k)
          have hb6 : Below w3.heap.size w3 w6 := HB.out.trans (h1.kp.toBelow HB.out.size (fun b hb e => by omega))
          have hcw : CW w gs L.length dbx gd k C (fun i => zs.getD i 0) dep (codN (fun i => zs.getD i 0) d 0) w6 :=
            { sr := HP.out.1.kept hb6
              zc := fun i hi => by rw [h1.cell i hi, hzd i hi]
              dbc := by rw [hb6.cell (p := ⟨dbx, 0, none⟩) hdbl]; exact HP.out.2.2.1
              dc := fun i hi => by rw [hb6.cell (p := ⟨gd, i, none⟩) hgdl]; exact HP.out.2.1 i hi
              n1 := by omega
              n2 := by omega
              n3 := by omega }
          have hdl : ∀ i, i < L.length → d i ≤ 39 := fun i hi => by
            have h4 := HY.out.1.dep_le (zs.getD i 0).toNat
            have h5 := HY.out.1.perm.length_eq
            have h6 := loneL_length xs k
            rw [HDP.out] at h4
            rw [hd]; show dep (zs.getD i 0).toNat ≤ 39
            omega
          rw [← hd, hzl] at hfull
          have HZ := Lib.hid (And.intro hfull.2 (And.intro hdd (And.intro hnd (And.intro hzl (And.intro hdl (And.intro h2 (And.intro hpw hd)))))))
          have HCW := Lib.hid hcw
          obtain ⟨m, hm⟩ : ∃ m, m = L.length := ⟨_, rfl⟩
          rw [← hm] at HZ HCW hpos hlen
          rw [← hm]
          clear h1 h2 h3 hl hzs hzl hzd hpw hperm hfull hdd hnd hb6 hcw hdl hd HSO hm
          go_wp2
          go_loopw [8, 9, 34] (fun _ _ v34 wq => ∃ j : Nat, j ≤ m ∧ v34 = .int .i64 (j : Int) ∧ CW w gs m dbx gd k C (fun i => zs.getD i 0) dep (codN (fun i => zs.getD i 0) d j) wq) (fun _ _ v34 _ => m - (intOf v34).toNat)
          case atStart => exact ⟨0, Nat.zero_le _, rfl, HCW.out⟩
          case round =>
            obtain ⟨j, hjm, rfl, hcw⟩ := hrel
            by_cases hjl : j < m
            · obtain ⟨zn, e1, e2, e3, e4⟩ := HZ.out.2.1 j hjl
              have hd39 := HZ.out.2.2.2.2.1 j hjl
              have c1 := hcw.zc j hjl
              have c2 := hcw.dbc
              have c3 := hcw.dc zn e2
              have c4 := hcw.sr.cell zn e2
              have z4 := hcw.sr.frz zn e2
              rw [e1] at c1
              rw [← e3] at c3
              have hcod : ∀ i, codN (fun i => zs.getD i 0) d (j + 1) i = if i = zn then codeSeq d j else codN (fun i => zs.getD i 0) d j i := fun i => by
                show (if (i : Int) = zs.getD j 0 then _ else _) = _
                rw [e1]
                by_cases e : i = zn
                · rw [if_pos (by omega), if_pos e]
                · rw [if_neg (by omega), if_neg e]
              have hset := fun q => ((hcw.drewN q).set e2 (codeSeq d j))
              have HSE := Lib.hid (And.intro hset hcod)
              have HE := Lib.hid (And.intro e1 e3)
              clear e1 e3
              have q1 : (j : Int) < (m : Int) := by omega
              have q2 : (0 : Int) ≤ (j : Int) := by omega
              have q3 : (zn : Int) < (k : Int) := by omega
              have q4 : (0 : Int) ≤ (zn : Int) := by omega
              by_cases hj0 : j = 0
              · subst hj0
                have hr := repeat_any (d 0) wr (by omega)
                have HR := Lib.hid hr
                have HC0 := Lib.hid (show codeSeq d 0 = List.replicate (d 0) false from rfl)
                clear hr hset hcod hcw
                generalize d 0 = d0 at *
                generalize str (codN (fun i => zs.getD i 0) d 0 zn) = old at *
                go_wp2_with fail
                (with_reducible refine HR.out.mono ?_)
                rintro e w7 ⟨rfl, rfl⟩
                go_wp2
                go_roundw
                case rel =>
                  refine ⟨1, by omega, rfl, ?_⟩
                  rw [← HC0.out, show codN (fun i => zs.getD i 0) d 1 = fun i => if i = zn then codeSeq d 0 else codN (fun i => zs.getD i 0) d 0 i from funext HSE.out.2]
                  exact HSE.out.1 0
                case measure => simp [intOf]; omega
              · obtain ⟨jp, rfl⟩ : ∃ jp, j = jp + 1 := ⟨j - 1, by omega⟩
                obtain ⟨zp, f1, f2, f3, f4⟩ := HZ.out.2.1 jp (by omega)
                obtain ⟨a, g1, g2, g3⟩ := HZ.out.1.next jp hjl
                have hdm := HZ.out.1.mono jp (jp + 1) (by omega) hjl
                have hne : zp ≠ zn := by
                  intro e
                  have hp := List.pairwise_iff_getElem.1 HZ.out.2.2.1 jp (jp + 1) (by rw [HZ.out.2.2.2.1]; omega) (by rw [HZ.out.2.2.2.1]; omega) (by omega)
                  apply hp
                  have a1 := HE.out.1
                  rw [List.getD_eq_getElem?_getD, List.getElem?_eq_getElem (by rw [HZ.out.2.2.2.1]; omega), Option.getD_some] at a1 f1
                  rw [a1, f1, e]
                have d1 := hcw.zc jp (by omega)
                rw [f1] at d1
                have d2 := hcw.sr.cell zp f2
                have hcp : codN (fun i => zs.getD i 0) d (jp + 1) zp = codeSeq d jp := by
                  show (if (zp : Int) = zs.getD jp 0 then _ else _) = _
                  rw [if_pos f1.symm]
                rw [hcp, g1] at d2
                have hbh := fun u => behind_any a (d jp - a.length - 1) (d (jp + 1)) u (by omega) (by omega)
                rw [← g3] at hbh
                have n1 := hcw.n1
                have n2 := hcw.n2
                have n3 := hcw.n3
                have HBH := Lib.hid hbh
                clear hbh hset hcod hcw f1 f3 hcp g1 g3 hdm
                generalize str (a ++ false :: List.replicate (d jp - a.length - 1) true) = code at *
                generalize d (jp + 1) = dj at *
                obtain ⟨sc, hsc⟩ : ∃ sc, sc = str (codeSeq d (jp + 1)) := ⟨_, rfl⟩
                rw [← hsc] at HBH HSE
                clear hsc
                generalize str (codN (fun i => zs.getD i 0) d (jp + 1) zn) = old at *
                have q5 : (jp : Int) < (m : Int) := by omega
                have q6 : (0 : Int) ≤ (jp : Int) := by omega
                have q7 : IntKind.i64.wrap (jp : Int) = (jp : Int) := IntWalk.i64_in _ (by omega)
                have q7b : IntKind.i64.wrap ((jp : Int) + 1 - 1) = (jp : Int) := by rw [Int.add_sub_cancel]; exact q7
                have q7c : IntKind.i64.wrap (((jp + 1 : Nat) : Int) - 1) = (jp : Int) := by rw [show ((jp + 1 : Nat) : Int) - 1 = (jp : Int) by omega]; exact q7
                have hke : ∀ (W : World) (v : Value), (W.setCell ⟨C, zn, none⟩ v).cell? ⟨C, zp, none⟩ = W.cell? ⟨C, zp, none⟩ := fun W v => World.cell?_setCell_other _ _ _ _ (fun e => hne (by have := congrArg Addr.off e; simp only at this; omega))
                have q8 : (zp : Int) < (k : Int) := by omega
                have q9 : (0 : Int) ≤ (zp : Int) := by omega
                have q10 : (((jp : Int) + 1) == 0) = false := by simp; omega
                go_wp2
                go_region_held3 (fun w' => w'.cell? ⟨gs, jp, none⟩ = some (.int .i64 (zp : Int)) ∧ w'.cell? ⟨C, zp, none⟩ = some (.string code) ∧ w'.cell? ⟨dbx, 0, none⟩ = some (.slice (some ⟨gd, 0, none⟩) k k) ∧ w'.cell? ⟨gd, zn, none⟩ = some (.int .i64 (dj : Nat)))
                  (first
                    | go_keep)
                  (first
                    | (go_at_call 37; (with_reducible refine (HBH.out _).mono ?_); rintro e u5 ⟨rfl, q, rfl⟩))
                all_goals
                  go_wp2
                  go_roundw
                  case rel =>
                    refine ⟨jp + 1 + 1, by omega, by go_num, ?_⟩
                    rw [show codN (fun i => zs.getD i 0) d (jp + 1 + 1) = fun i => if i = zn then codeSeq d (jp + 1) else codN (fun i => zs.getD i 0) d (jp + 1) i from funext HSE.out.2]
                    exact HSE.out.1 _
                  case measure => simp [intOf]; omega
            · obtain rfl : j = m := by omega
              have HF := Lib.hid hcw.sr
              clear hcw
              go_wp2
              go_ret
              refine ⟨C, ys, zs, by rw [HX.out.2]; rfl, ⟨?_, ?_, ?_⟩, ?_⟩
              · rw [HX.out.2]; exact HY.out.1
              · rw [HX.out.2, HDP.out, ← HL.out]; exact HZ.out.2.2.2.2.2.1
              · rw [HDP.out]; exact HZ.out.2.2.2.2.2.2.1
              · rw [HX.out.2]
                unfold codF
                rw [HDP.out, ← HZ.out.2.2.2.2.2.2.2, HZ.out.2.2.2.1]
                exact HF.out

end Go.Proofs.YtdidoecigkbffaaGreat
