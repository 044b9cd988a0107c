/- The contract of others. -/
import Derived.Test.YtdepncdknofocaaXJ
set_option maxRecDepth 100000
namespace Go.Proofs.Ytdepncdknofocaa
open Go.RowKit
open M
attribute [local go_sem ↓] Go.wp_at_zero Go.wp_at_succ

/-- Places laid by their ranks stand in order. -/
theorem ranked_list (κ : Int → Int) (m : Nat) (R : Int → Int → Prop) (pl : Nat → Int) (hκ : ∀ i j : Nat, i < m → j < m → κ i < κ j → R (pl i) (pl j)) (hinj : ∀ i j : Nat, i < m → j < m → κ i = κ j → i = j)
    {L : List Int} (hL : L.length = m) (hLa : ∀ i : Nat, i < m → L.getD (nless κ m (κ i)) 0 = pl i) : L.Pairwise R ∧ ∀ x, x ∈ L ↔ ∃ i, i < m ∧ x = pl i := by
  have hrk := rnk_rk κ m
  have hdf : Df (rnkL κ m) := hrk.inj_df (fun i j hi hj e => by
    rw [rnkL_length] at hi hj
    exact hinj i j hi hj ((rnk_lt κ m hi hj).2.1 e))
  have hall := allB_iff.1 (hrk.all hdf)
  rw [rnkL_length] at hall
  have hin : ∀ a, a < m → ∃ i, i < m ∧ nless κ m (κ (i : Nat)) = a ∧ L.getD a 0 = pl i := fun a ha => by
    obtain ⟨i, hi, e⟩ := List.getElem_of_mem (hall (a : Int) (plcs_mem.2 (by omega)))
    rw [rnkL_length] at hi
    have e2 := rnkL_at κ m i hi
    rw [List.getD_eq_getElem?_getD, List.getElem?_eq_getElem (by rw [rnkL_length]; exact hi), Option.getD_some, e] at e2
    have e3 : nless κ m (κ (i : Nat)) = a := by omega
    exact ⟨i, hi, e3, by rw [← e3]; exact hLa i hi⟩
  constructor
  · rw [List.pairwise_iff_getElem]
    intro a b ha hb hab
    rw [hL] at ha hb
    obtain ⟨i, hi, e1, e2⟩ := hin a ha
    obtain ⟨j, hj, e3, e4⟩ := hin b hb
    simp only [List.getD_eq_getElem?_getD, List.getElem?_eq_getElem (show a < L.length by omega), List.getElem?_eq_getElem (show b < L.length by omega), Option.getD_some] at e2 e4
    rw [e2, e4]
    exact hκ i j hi hj ((nless_iff κ m hi hj).1.1 (by omega))
  · intro x
    constructor
    · intro hx
      obtain ⟨a, ha, e⟩ := List.getElem_of_mem hx
      obtain ⟨i, hi, -, e2⟩ := hin a (by omega)
      simp only [List.getD_eq_getElem?_getD, List.getElem?_eq_getElem ha, Option.getD_some] at e2
      exact ⟨i, hi, by rw [← e, e2]⟩
    · rintro ⟨i, hi, rfl⟩
      rw [← hLa i hi]
      exact getD_mem (by rw [hL]; exact nless_below κ m hi)

/-- What is known of the sample's ranks. -/
def RkS (row rks : List Int) (n : Nat) : Prop := ∀ p q, p < n → q < n → (n - p) % 3 ≠ 0 → (n - q) % 3 ≠ 0 → (rks.getD p 0 < rks.getD q 0 ↔ sl (-1) row p q)

def numL (row : List Int) (n : Nat) : List Int := (List.range (thC n 0)).map fun i => row.getD (thS n 0 + 3 * i) 0
def behL (rks : List Int) (n : Nat) : List Int := (List.range (thC n 0)).map fun i => rks.getD (thS n 0 + 3 * i + 1) 0
theorem numL_len (row : List Int) (n : Nat) : (numL row n).length = thC n 0 := by simp [numL]
theorem behL_len (row : List Int) (n : Nat) : (behL row n).length = thC n 0 := by simp [behL]
theorem numL_at (row : List Int) (n i : Nat) (h : i < thC n 0) : (numL row n).getD i 0 = row.getD (thS n 0 + 3 * i) 0 := by simp [numL, List.getD_eq_getElem?_getD, h]
theorem behL_at (row : List Int) (n i : Nat) (h : i < thC n 0) : (behL row n).getD i 0 = row.getD (thS n 0 + 3 * i + 1) 0 := by simp [behL, List.getD_eq_getElem?_getD, h]
theorem oth_rest (n i : Nat) (h : i < thC n 0) : thS n 0 + 3 * i + 1 < n ∧ (n - (thS n 0 + 3 * i)) % 3 = 0 ∧ (n - (thS n 0 + 3 * i + 1)) % 3 = 2 := by
  have h1 := (thC_iff n 0 i).1 h
  have := th_vals n
  omega
theorem getD_i64 {l : List Int} (h : I64s l) (i : Nat) : -9223372036854775808 ≤ l.getD i 0 ∧ l.getD i 0 ≤ 9223372036854775807 := by
  by_cases e : i < l.length
  · exact h _ (memI l i e)
  · rw [getD_out (by omega)]; omega
theorem oth_lt {row rks : List Int} {n : Nat} (hk : I64s rks) (hl : row.length = n) (h : RkS row rks n) {i j : Nat} (hi : i < thC n 0) (hj : j < thC n 0) : kyP (numL row n) (behL rks n) i < kyP (numL row n) (behL rks n) j ↔ sl (-1) row (thS n 0 + 3 * i) (thS n 0 + 3 * j) := by
  have h64 : I64s (behL rks n) := fun x hx => by
    unfold behL at hx
    obtain ⟨k, -, rfl⟩ := List.mem_map.1 hx
    exact getD_i64 hk _
  obtain ⟨a1, a2, a3⟩ := oth_rest n i hi
  obtain ⟨b1, b2, b3⟩ := oth_rest n j hj
  rw [pair_lt (behL_len _ _) h64 hi hj, numL_at _ _ _ hi, numL_at _ _ _ hj, behL_at _ _ _ hi, behL_at _ _ _ hj, sl_step, getD_in (b := -1) (by omega), getD_in (b := -1) (by omega), h _ _ a1 b1 (by omega) (by omega)]

/-- Two rows of numbers of the call's own. -/
structure DD (w : World) (D1 D2 m1 m2 : Nat) (d1 d2 : Nat → Int) (u : World) : Prop where
  a : DI w D1 m1 d1 u
  b : DI w D2 m2 d2 u
  ne : D1 ≠ D2
theorem DD.set {w u : World} {D1 D2 m1 m2 : Nat} {d1 d2 : Nat → Int} (h : DD w D1 D2 m1 m2 d1 d2 u) {i j : Nat} (hi : i < m1) (hj : j < m2) (x y : Int) : DD w D1 D2 m1 m2 (fun k => if k = i then x else d1 k) (fun k => if k = j then y else d2 k) ((u.setCell ⟨D1, i, none⟩ (.int .i64 x)).setCell ⟨D2, j, none⟩ (.int .i64 y)) :=
  ⟨(h.a.set hi x).other h.b.lo (fun e => h.ne e.symm) _, (h.b.other h.a.lo h.ne _).set hj y, h.ne⟩
theorem DD.set' {w u : World} {D1 D2 m1 m2 : Nat} {d1 d2 : Nat → Int} (h : DD w D1 D2 m1 m2 d1 d2 u) {i j : Nat} (hi : i < m1) (hj : j < m2) (x y : Int) : DD w D1 D2 m1 m2 (fun k => if k = i then x else d1 k) (fun k => if k = j then y else d2 k) ((u.setCell ⟨D2, j, none⟩ (.int .i64 y)).setCell ⟨D1, i, none⟩ (.int .i64 x)) :=
  ⟨(h.a.other h.b.lo (fun e => h.ne e.symm) _).set hi x, (h.b.set hj y).other h.a.lo h.ne _, h.ne⟩
theorem DD.kept {w u u' : World} {D1 D2 m1 m2 : Nat} {d1 d2 : Nat → Int} (h : DD w D1 D2 m1 m2 d1 d2 u) (hb : Below u.heap.size u u') : DD w D1 D2 m1 m2 d1 d2 u' := ⟨h.a.kept hb, h.b.kept hb, h.ne⟩

theorem DI.laid {w u : World} (hb : Below w.heap.size w u) (m : Nat) : DI w u.heap.size m (fun _ => 0) (u.alloc (.cells (madeCells #[Value.int .i64 0] m) 3)) := by
  refine ⟨fun i hi => ?_, fun i _ => frozen_new _ _ _ _ _ rfl, hb.size, by simp, hb.alloc hb.size _⟩
  rw [cell_new _ _ _ _ _ rfl]
  have := madeInt m i hi
  rwa [Array.getElem?_toList] at this
theorem DD.laid {w u : World} (hb : Below w.heap.size w u) (m1 m2 : Nat) : DD w u.heap.size (u.heap.size + 1) m1 m2 (fun _ => 0) (fun _ => 0) (((u.alloc (.cells (madeCells #[Value.int .i64 0] m1) 3)).alloc (.cells (madeCells #[Value.int .i64 0] m2) 3)).drew) := by
  have h1 := DI.laid hb m1
  have h2 := DI.laid h1.bel m2
  rw [show (u.alloc (.cells (madeCells #[Value.int .i64 0] m1) 3)).heap.size = u.heap.size + 1 by simp] at h2
  exact ⟨(h1.kept (al _ _)).kept ((Below.refl _ _).drew), h2.kept ((Below.refl _ _).drew), by omega⟩
theorem DD.laid' {w u : World} (hb : Below w.heap.size w u) (m1 m2 : Nat) : DD w (u.heap.size + 1) u.heap.size m1 m2 (fun _ => 0) (fun _ => 0) (((u.alloc (.cells (madeCells #[Value.int .i64 0] m2) 3)).alloc (.cells (madeCells #[Value.int .i64 0] m1) 3)).drew) :=
  ⟨(DD.laid hb m2 m1).b, (DD.laid hb m2 m1).a, fun e => (DD.laid hb m2 m1).ne e.symm⟩

set_option maxHeartbeats 4000000 in
theorem others_any (R K : Option Addr) (n c ck : Nat) (row rks : List Int) (w : World) (hR : NumsAt .i64 w R row) (hlr : row.length = n) (hK : NumsAt .i64 w K rks) (hlk : rks.length = n) (hn : n ≤ 1000000) (hr : Rk row) (hk64 : I64s rks) (hS : RkS row rks n) :
    Calls Try.prog 47 #[.slice R n c, .slice K n ck] w fun e u => ∃ D L, e = .returned (.slice (some ⟨D, 0, none⟩) (thC n 0) (thC n 0)) ∧ NumsAt .i64 u (some ⟨D, 0, none⟩) L ∧ L.length = thC n 0 ∧ Below w.heap.size w u ∧ L.Pairwise (fun x y => sl (-1) row x.toNat y.toNat) ∧ ∀ x, x ∈ L ↔ ∃ i, i < thC n 0 ∧ x = ((thS n 0 + 3 * i : Nat) : Int) := by
  have hm := thC_le n 0
  have t0 : ∀ u, Calls Try.prog 53 #[.int .i64 (n : Int), .int .i64 0] u fun e u' => ∃ v, e = .returned v ∧ OwnI u v (thL n 0) u' := fun u => thirds_any n 0 u hn (by omega)
  have HX := Lib.hid (And.intro hR (And.intro hlr (And.intro hK (And.intro hlk (And.intro hr (And.intro hk64 (And.intro hS t0)))))))
  clear hR hlr hK hlk hr hk64 hS t0
  go_enter Try.func47, Try.ntmps47
  go_wp2_with fail
  (with_reducible refine (HX.out.2.2.2.2.2.2.2 _).mono ?_)
  rintro e u1 ⟨v, rfl, hI⟩
  obtain ⟨P, cP, rfl, hP, hPl, -, -, -⟩ := nums_of_own hI.1
  rw [thL_len]
  rw [thL_len] at hPl
  have HP := Lib.hid (And.intro hI.2 (And.intro hP hPl))
  clear hI hP hPl
  obtain ⟨m, hmm⟩ : ∃ m, m = thC n 0 := ⟨_, rfl⟩
  rw [← hmm] at hm ⊢
  have HM := Lib.hid hmm
  clear hmm
  obtain ⟨i0, hi, hz0, hz1, hz2⟩ := info_parts info3
  have hmk : ∀ u : World, (Instr.makeSlice 22 (.int .i64 (m : Int)) (.int .i64 (m : Int))).run Try.prog u = .ok (.slice (some ⟨u.heap.size, 0, none⟩) m m) (u.alloc (.cells (madeCells (Value.int .i64 0).cells (m * 1)) 3)) := fun u => by
    have := run_make (P := Try.prog) u 22 3 i0 (.int .i64 0) Try.underlying22 hi hz0 .i64 .i64 (m : Int) (m : Int) (by omega) (Int.le_refl _) (by rw [hz2]; omega) (by omega)
    rw [hz1] at this
    simpa using this
  go_upto_region 2 with fail
  go_cut [6, 7] from 18 to 23 (fun v6 v7 wx => ∃ D1 D2, v6 = .slice (some ⟨D1, 0, none⟩) m m ∧ v7 = .slice (some ⟨D2, 0, none⟩) m m ∧ DD u1 D1 D2 m m (fun _ => 0) (fun _ => 0) wx)
  case first =>
    go_region
    all_goals go_wp2
    all_goals go_meet
    all_goals first | exact ⟨_, _, rfl, rfl, DD.laid (Below.refl _ _) m m⟩ | exact ⟨_, _, rfl, rfl, DD.laid' (Below.refl _ _) m m⟩
  case rest =>
    obtain ⟨D1, D2, rfl, rfl, hDD⟩ := hcut
    have HD := Lib.hid hDD
    have hPl : (thL n 0).length = m := by rw [thL_len]; exact HM.out.symm
    have HPL := Lib.hid hPl
    clear hDD hPl hmk
    go_wp2
    go_loopw [8, 9, 26] (fun _ _ v26 wr => ∃ k : Nat, k ≤ m ∧ v26 = .int .i64 (k : Int) ∧ DD u1 D1 D2 m m (fun i => if i < k then row.getD (thS n 0 + 3 * i) 0 else 0) (fun i => if i < k then rks.getD (thS n 0 + 3 * i + 1) 0 else 0) wr) (fun _ _ v26 _ => m - (intOf v26).toNat)
    case atStart =>
      exact ⟨0, Nat.zero_le _, rfl, ⟨HD.out.a.congr fun i _ => by simp, HD.out.b.congr fun i _ => by simp, HD.out.ne⟩⟩
    case round =>
      obtain ⟨k, hk, rfl, hDr⟩ := hrel
      clear HD
      have hwb := HP.out.1.trans (hDr.a.bel.mono HP.out.1.size)
      have hPr := HP.out.2.1.kept hDr.a.bel
      by_cases hlt : k < m
      · obtain ⟨pb, po, hPe, -, cp⟩ := num_at hPr (i := k) (by rw [HPL.out]; exact hlt)
        rw [thL_at n 0 k (by rw [← HM.out]; exact hlt)] at cp
        obtain ⟨o1, o2, o3⟩ := oth_rest n k (by rw [← HM.out]; exact hlt)
        obtain ⟨rb, ro, hRe, -, cr⟩ := num_at (HX.out.1.kept hwb) (i := thS n 0 + 3 * k) (by rw [HX.out.2.1]; omega)
        obtain ⟨kb, ko, hKe, -, ckk⟩ := num_at (HX.out.2.2.1.kept hwb) (i := thS n 0 + 3 * k + 1) (by rw [HX.out.2.2.2.1]; omega)
        have d1 := hDr.a.cell k hlt
        have z1 := hDr.a.frz k hlt
        have d2 := hDr.b.cell k hlt
        have z2 := hDr.b.frz k hlt
        have hne := hDr.ne
        have hset := hDr.set hlt hlt (row.getD (thS n 0 + 3 * k) 0) (rks.getD (thS n 0 + 3 * k + 1) 0)
        have hset' := hDr.set' hlt hlt (row.getD (thS n 0 + 3 * k) 0) (rks.getD (thS n 0 + 3 * k + 1) 0)
        rw [if_neg (Nat.lt_irrefl k)] at d1 d2
        obtain ⟨x, hx⟩ : ∃ x, row.getD (thS n 0 + 3 * k) 0 = x := ⟨_, rfl⟩
        obtain ⟨y, hy⟩ : ∃ y, rks.getD (thS n 0 + 3 * k + 1) 0 = y := ⟨_, rfl⟩
        rw [hx] at cr hset hset'
        rw [hy] at ckk hset hset'
        obtain ⟨p, hp⟩ : ∃ p, thS n 0 + 3 * k = p := ⟨_, rfl⟩
        rw [hp] at cp cr ckk o1
        have HS := Lib.hid (And.intro hset (And.intro hset' (And.intro hx (And.intro hy (And.intro hPr (And.intro o2 o3))))))
        have HPE := Lib.hid hp
        subst hPe hRe hKe
        clear hset hset' hDr hx hy hPr hp o2 o3 hwb
        have q1 : (k : Int) < (m : Int) := by omega
        have q2 : (0 : Int) ≤ (k : Int) := by omega
        have q3 : (p : Int) < (n : Int) := by omega
        have q4 : (0 : Int) ≤ (p : Int) := by omega
        have q5 : IntKind.i64.wrap ((p : Int) + 1) = (p : Int) + 1 := IntWalk.i64_in _ (by omega)
        have q6 : (p : Int) + 1 < (n : Int) := by omega
        have q7 : (0 : Int) ≤ (p : Int) + 1 := by omega
        have q8 : ((p : Int) + 1).toNat = p + 1 := by omega
        have ckk' := ckk
        rw [← Nat.add_assoc] at ckk'
        go_wp2
        go_region
        all_goals
          go_wp2
          go_roundw
          case rel =>
            have hs := HS.out.1.kept ((Below.refl _ _).drew)
            refine ⟨k + 1, by omega, by go_num, ⟨hs.a.congr fun i _ => ?_, hs.b.congr fun i _ => ?_, hs.ne⟩⟩
            · by_cases e : i = k
              · rw [if_pos e, if_pos (by omega), e, HS.out.2.2.1]
              · rw [if_neg e]
                by_cases e2 : i < k
                · rw [if_pos e2, if_pos (by omega)]
                · rw [if_neg e2, if_neg (by omega)]
            · by_cases e : i = k
              · rw [if_pos e, if_pos (by omega), e, HS.out.2.2.2.1]
              · rw [if_neg e]
                by_cases e2 : i < k
                · rw [if_pos e2, if_pos (by omega)]
                · rw [if_neg e2, if_neg (by omega)]
          case measure => simp [intOf]; omega
      · obtain rfl : k = m := by omega
        have q1 : ¬ (k : Int) < (k : Int) := by omega
        have h1 := hDr.a.nums (l := numL row n) (by rw [numL_len]; exact HM.out.symm) (fun i hi => by rw [if_pos hi, numL_at _ _ _ (by rw [← HM.out]; exact hi)])
        have h2 := hDr.b.nums (l := behL rks n) (by rw [behL_len]; exact HM.out.symm) (fun i hi => by rw [if_pos hi, behL]; simp [List.getD_eq_getElem?_getD, show i < thC n 0 by rw [← HM.out]; exact hi])
        have h64n : I64s (numL row n) := fun x hx => by
          unfold numL at hx
          obtain ⟨i, -, rfl⟩ := List.mem_map.1 hx
          exact getD_i64 (rk_i64 HX.out.2.2.2.2.1 (by rw [HX.out.2.1]; exact hn)) _
        have h64b : I64s (behL rks n) := fun x hx => by
          unfold behL at hx
          obtain ⟨i, -, rfl⟩ := List.mem_map.1 hx
          exact getD_i64 HX.out.2.2.2.2.2.1 _
        have hp := pairs_any (some ⟨D1, 0, none⟩) (some ⟨D2, 0, none⟩) k k k (numL row n) (behL rks n) wr h1 h2 (by rw [numL_len]; exact HM.out.symm) (by rw [behL_len]; exact HM.out.symm) (by omega) h64n h64b
        have HQ := Lib.hid (And.intro hp (And.intro hPr (HP.out.1.trans (hDr.a.bel.mono HP.out.1.size))))
        clear hp hPr hDr h1 h2 h64n h64b hwb
        go_wp2_with fail
        (with_reducible refine HQ.out.1.mono ?_)
        rintro e u2 ⟨D3, rfl, h1, h2⟩
        have HR := Lib.hid (And.intro h1 (And.intro (HQ.out.2.1.kept h2) (HQ.out.2.2.trans (h2.mono HQ.out.2.2.size))))
        clear h1 h2
        obtain ⟨i0, hi, hz0, hz1, hz2⟩ := info_parts info3
        go_wp2_with (first | (at_make; refine wpList_make_full _ rfl _ _ 22 rfl u2.heap.size 3 i0 (.int .i64 0) 1 Try.underlying22 hi hz0 hz1 _ _ _ _ k rfl rfl rfl rfl ?b2 ?b3 (Nat.le_refl _) ?_))
        case b2 => first | omega | (rw [hz2]; omega)
        case b3 => unfold maxLen; omega
        intro w3 hown hgrow
        have hD := DI.made (Below.refl _ _) hown hgrow
        have HD := Lib.hid hD
        clear hown hgrow hD hi hz0 hz1 hz2
        obtain ⟨D, hDe⟩ : ∃ D, D = u2.heap.size := ⟨_, rfl⟩
        rw [← hDe] at HD
        rw [← hDe]
        clear hDe
        obtain ⟨m, rfl⟩ : ∃ m, m = k := ⟨_, rfl⟩
        obtain ⟨κ, hκ⟩ : ∃ κ, kyP (numL row n) (behL rks n) = κ := ⟨_, rfl⟩
        have hol : ∀ i j : Nat, i < m → j < m → (κ i < κ j ↔ sl (-1) row (thS n 0 + 3 * i) (thS n 0 + 3 * j)) := fun i j h1 h2 => by
          rw [← hκ]
          exact oth_lt HX.out.2.2.2.2.2.1 HX.out.2.1 HX.out.2.2.2.2.2.2.1 (by rw [← HM.out]; exact h1) (by rw [← HM.out]; exact h2)
        rw [hκ] at HR
        have hinj : ∀ i j : Nat, i < m → j < m → κ i = κ j → i = j := fun i j h1 h2 e => by
          apply Classical.byContradiction
          intro hne
          have o1 := oth_rest n i (by rw [← HM.out]; exact h1)
          have o2 := oth_rest n j (by rw [← HM.out]; exact h2)
          rcases sl_total HX.out.2.2.2.2.1.abv (p := thS n 0 + 3 * i) (q := thS n 0 + 3 * j) (by rw [HX.out.2.1]; omega) (by rw [HX.out.2.1]; omega) (by omega) with h | h
          · have := (hol i j h1 h2).2 h; omega
          · have := (hol j i h2 h1).2 h; omega
        have HK := Lib.hid (And.intro hol hinj)
        clear hκ hol hinj
        go_wp2
        go_loopw [13, 14, 58] (fun _ _ v58 wr => ∃ (k : Nat) (d : Nat → Int), k ≤ m ∧ v58 = .int .i64 (k : Int) ∧ DI u2 D m d wr ∧ ∀ i : Nat, i < k → d (nless κ m (κ i)) = ((thS n 0 + 3 * i : Nat) : Int)) (fun _ _ v58 _ => m - (intOf v58).toNat)
        case atStart => exact ⟨0, _, Nat.zero_le _, rfl, HD.out, fun i hi => by omega⟩
        case round =>
          obtain ⟨k, d, hk, rfl, hDr, hd⟩ := hrel
          clear HD
          by_cases hlt : k < m
          · obtain ⟨pb, po, hPe, -, cp⟩ := num_at (HR.out.2.1.kept hDr.bel) (i := k) (by rw [HPL.out]; exact hlt)
            rw [thL_at n 0 k (by rw [← HM.out]; exact hlt)] at cp
            obtain ⟨rb, ro, hRe, -, cr⟩ := num_at (HR.out.1.kept hDr.bel) (i := k) (by rw [rnkL_length]; exact hlt)
            simp only [Option.some.injEq, Addr.mk.injEq, and_true] at hRe
            obtain ⟨rfl, rfl⟩ := hRe
            rw [rnkL_at κ m k hlt, Nat.zero_add] at cr
            have hnl := nless_below κ m hlt
            have hnn : ∀ i : Nat, i < k → nless κ m (κ i) ≠ nless κ m (κ k) := fun i hi e => by
              have := HK.out.2 i k (by omega) hlt ((nless_iff κ m (by omega) hlt).2.1 e)
              omega
            obtain ⟨r, hr⟩ : ∃ r, nless κ m (κ k) = r := ⟨_, rfl⟩
            rw [hr] at cr hnl hnn
            obtain ⟨p, hp⟩ : ∃ p, thS n 0 + 3 * k = p := ⟨_, rfl⟩
            rw [hp] at cp
            have cd := hDr.cell r hnl
            have zd := hDr.frz r hnl
            have hset := hDr.set hnl (p : Int)
            have HS := Lib.hid (And.intro hset (And.intro hd (And.intro hnn (And.intro hr hp))))
            subst hPe
            clear hset hd hnn hr hp hDr
            have q1 : (k : Int) < (m : Int) := by omega
            have q2 : (0 : Int) ≤ (k : Int) := by omega
            have q3 : (r : Int) < (m : Int) := by omega
            have q4 : (0 : Int) ≤ (r : Int) := by omega
            go_wp2
            go_roundw
            case rel =>
              refine ⟨k + 1, _, by omega, by go_num, HS.out.1, fun i hi => ?_⟩
              by_cases e : i = k
              · rw [e, HS.out.2.2.2.1, HS.out.2.2.2.2, if_pos rfl]
              · rw [if_neg (HS.out.2.2.1 i (by omega))]
                exact HS.out.2.1 i (by omega)
            case measure => simp [intOf]; omega
          · obtain rfl : k = m := by omega
            have q2 : ¬ (k : Int) < (k : Int) := by omega
            have HF := Lib.hid (And.intro hDr hd)
            clear hDr hd
            go_wp2
            go_ret
            obtain ⟨hDr, hd⟩ := HF.out
            have hLl : ((List.range k).map d).length = k := by simp
            have hLa : ∀ q, q < k → ((List.range k).map d).getD q 0 = d q := fun q hq => by simp [List.getD_eq_getElem?_getD, hq]
            obtain ⟨pw, mem⟩ := ranked_list κ k (fun x y => sl (-1) row x.toNat y.toNat) (fun i => ((thS n 0 + 3 * i : Nat) : Int)) (fun i j h1 h2 h => by
              rw [Int.toNat_natCast, Int.toNat_natCast]
              exact (HK.out.1 i j h1 h2).1 h) HK.out.2 hLl (fun i hi => by rw [hLa _ (nless_below κ k hi)]; exact hd i hi)
            refine ⟨D, (by rw [← HM.out]; rfl), (List.range k).map d, hDr.nums hLl (fun j hj => (hLa j hj).symm), by rw [hLl]; exact HM.out, HR.out.2.2.trans (hDr.bel.mono HR.out.2.2.size), pw, fun x => ?_⟩
            rw [mem x, ← HM.out]
            constructor <;> rintro ⟨i, h1, h2⟩ <;> exact ⟨i, h1, by omega⟩

end Go.Proofs.Ytdepncdknofocaa
