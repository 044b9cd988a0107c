/- The walk of FmWhole. -/
import Derived.Test.YtbcjepkfjbibfaaGreatZU
set_option maxRecDepth 100000
namespace Go.Proofs.YtbcjepkfjbibfaaGreat
open Go.RowKit
open M
attribute [local go_sem ↓] Go.wp_at_zero Go.wp_at_succ

/-- Two numbers, in their box. -/
structure PQ (u : World) (b : Nat) (x y : Int) : Prop where
  c0 : u.cell? ⟨b, 0, none⟩ = some (.int .i64 x)
  c1 : u.cell? ⟨b, 1, none⟩ = some (.int .i64 y)
theorem PQ.lt {u : World} {b : Nat} {x y : Int} (h : PQ u b x y) : b < u.heap.size := World.block_lt_of_cell? u _ h.c0
theorem PQ.kept {u u' : World} {b : Nat} {x y : Int} (h : PQ u b x y) (hb : Below u.heap.size u u') : PQ u' b x y := by
  have cl : ∀ o, u'.cell? ⟨b, o, none⟩ = u.cell? ⟨b, o, none⟩ := fun o => hb.cell (p := ⟨b, o, none⟩) h.lt
  exact ⟨by rw [cl]; exact h.c0, by rw [cl]; exact h.c1⟩
theorem PQ.new (w : World) (x y : Int) : PQ (w.alloc (.cells #[.int .i64 x, .int .i64 y] 66)) w.heap.size x y := ⟨by simp, by simp⟩

/-- What the law holds. -/
structure WG (w : World) (qb : Nat) (w3 : World) (bx : Nat) (F : FQ) (L : List Int) (s : Nat) (x y : Int) (B : Option Addr) (u : World) : Prop where
  mx : MX w3 bx F L s u
  pq : PQ u qb x y
  bel : Below qb w u
  nums : NumsAt .i64 u B L
  lt : qb ≤ u.heap.size
theorem WG.kept {w w3 u u' : World} {qb bx s : Nat} {F : FQ} {L : List Int} {x y : Int} {B : Option Addr} (h : WG w qb w3 bx F L s x y B u) (hb : Below u.heap.size u u') : WG w qb w3 bx F L s x y B u' :=
  ⟨h.mx.kept hb, h.pq.kept hb, h.bel.trans (hb.mono h.lt), h.nums.kept hb, Nat.le_trans h.lt hb.size⟩

theorem exL_all (L : List Int) (n : Nat) (h : L.length = n) : exL L 0 (n : Int) = L := by
  unfold exL
  have : lo L.length 0 = 0 := lo_at L.length 0 (by omega)
  rw [this, List.drop_zero, Int.toNat_natCast, ← h, List.take_length]
theorem fnd_is {l p : List Int} {x : Int} (h : x ∈ fndL l p) : ∃ q : Nat, x = (q : Int) ∧ q ≤ l.length ∧ stB l p q = true := by
  unfold fndL at h
  obtain ⟨q, hq, rfl⟩ := List.mem_map.1 h
  obtain ⟨h1, h2⟩ := List.mem_filter.1 hq
  rw [List.mem_range] at h1
  exact ⟨q, rfl, by omega, h2⟩
theorem fnd_in {l p : List Int} {q : Nat} (hq : q ≤ l.length) (h : stB l p q = true) : (q : Int) ∈ fndL l p := by
  unfold fndL
  exact List.mem_map.2 ⟨q, List.mem_filter.2 ⟨List.mem_range.2 (by omega), h⟩, rfl⟩
theorem fnd_up {l p : List Int} {i : Nat} (h : i + 1 < (fndL l p).length) : (fndL l p).getD i 0 < (fndL l p).getD (i + 1) 0 := by
  have := List.pairwise_iff_getElem.1 (fndL_pw l p) i (i + 1) (by omega) h (by omega)
  rw [List.getD_eq_getElem?_getD, List.getD_eq_getElem?_getD, List.getElem?_eq_getElem (by omega), List.getElem?_eq_getElem h]
  exact this
/-- Does it lie among the first ones? -/
def hasA (E : List Int) (a : Int) (i : Nat) : Bool := (E.take i).any fun x => decide (x = a)
theorem hasA_succ {E : List Int} {a : Int} {i : Nat} (h : i < E.length) : hasA E a (i + 1) = (hasA E a i || decide (E.getD i 0 = a)) := by
  unfold hasA
  rw [List.getD_eq_getElem?_getD, List.getElem?_eq_getElem h, List.take_add_one, List.getElem?_eq_getElem h, List.any_append]
  simp
theorem hasA_all {E : List Int} {a : Int} (h : a ∈ E) : hasA E a E.length = true := by
  unfold hasA
  rw [List.take_length, List.any_eq_true]
  exact ⟨a, h, by simp⟩
theorem ex_st (l : List Int) (a k : Nat) (h : a + k ≤ l.length) : stB l (exL l (a : Int) (k : Int)) a = true ∧ (exL l (a : Int) (k : Int)).length = k := by
  have hlo := lo_at l.length a (by omega)
  have hl : (exL l (a : Int) (k : Int)).length = k := by rw [exL_len, hlo, Int.toNat_natCast]; omega
  refine ⟨(st_at _ _).2 ⟨by omega, fun i hi => ?_⟩, hl⟩
  rw [exL_at l (a : Int) (k : Int) a k i hlo hl (by omega)]

/-- A number brought between 0 and n. -/
theorem brought (x : Int) (n : Nat) (hn : n ≤ 60) : IntKind.i64.wrap ((n : Int) + 1) = (n : Int) + 1 ∧ IntKind.i64.wrap (x.tmod ((n : Int) + 1) + (n : Int)) = x.tmod ((n : Int) + 1) + (n : Int) ∧ IntKind.i64.wrap (x.tmod ((n : Int) + 1) + (n : Int) + 1) = x.tmod ((n : Int) + 1) + (n : Int) + 1 ∧ ∃ a : Nat, a ≤ n ∧ (x.tmod ((n : Int) + 1) + (n : Int) + 1).tmod ((n : Int) + 1) = (a : Int) := by
  have t1 := Int.tmod_lt_of_pos x (b := (n : Int) + 1) (by omega)
  have t2 := Int.lt_tmod_of_pos x (b := (n : Int) + 1) (by omega)
  obtain ⟨y, hy⟩ : ∃ y, x.tmod ((n : Int) + 1) = y := ⟨_, rfl⟩
  rw [hy] at t1 t2 ⊢
  have u1 := Int.tmod_lt_of_pos (y + (n : Int) + 1) (b := (n : Int) + 1) (by omega)
  have u2 := Int.tmod_nonneg (a := y + (n : Int) + 1) ((n : Int) + 1) (by omega)
  exact ⟨IntWalk.i64_in _ (by omega), IntWalk.i64_in _ (by omega), IntWalk.i64_in _ (by omega), ((y + (n : Int) + 1).tmod ((n : Int) + 1)).toNat, by omega, by omega⟩

set_option maxHeartbeats 8000000 in
theorem whole_walk (A : Option Addr) (n0 c0 : Nat) (xs : List Int) (sz x y : Int) (w : World) (hA : NumsAt .i64 w A xs) (hx : xs.length = n0) :
    Calls Tryz.prog 5 #[.slice A n0 c0, .int .i64 sz, .agg #[.int .i64 x, .int .i64 y]] w fun e w' => e = .returned (.bool true) ∧ Below w.heap.size w w' := by
  obtain ⟨w1, hw1⟩ : ∃ w1, w1 = w.alloc (.cells #[.int .i64 x, .int .i64 y] 66) := ⟨_, rfl⟩
  have hq1 : PQ w1 w.heap.size x y := by rw [hw1]; exact PQ.new _ _ _
  have hb1 : Below w.heap.size w w1 := by rw [hw1]; exact al w _
  have HX := Lib.hid (And.intro hA hx)
  obtain ⟨qb, hqb⟩ : ∃ qb, w.heap.size = qb := ⟨_, rfl⟩
  rw [hqb] at hq1 hb1
  have H1 := Lib.hid (And.intro hq1 hb1)
  have HQ := Lib.hid hqb
  clear hA hx hq1 hb1
  go_enter Tryz.func5, Tryz.ntmps5
  go_upto_region 1 with fail
  rw [← hw1]
  clear hw1
  go_wp2_with fail
  (with_reducible refine (awake_any _).mono ?_)
  rintro e u1 ⟨rfl, hb⟩
  have H2 := Lib.hid (And.intro (H1.out.1.kept hb) (H1.out.2.trans (hb.mono (by have := H1.out.1.lt; omega))))
  clear hb H1
  have hsy := symbols_any A n0 c0 xs sz u1 (HX.out.1.kept (by rw [HQ.out]; exact H2.out.2)) HX.out.2
  have HS := Lib.hid hsy
  clear hsy
  go_wp2_with fail
  (with_reducible refine HS.out.mono ?_)
  rintro e u2 ⟨v, rfl, hI⟩
  obtain ⟨B, bc, rfl, hB, hbc, hsh⟩ := own_at hI
  obtain ⟨h1, h2, h3⟩ := kind8_in sz
  have hll := cutL_len (kind8 sz) xs (min n0 60) (by rw [HX.out.2]; omega)
  have hin := cutL_in (kind8 sz) xs (min n0 60) (by omega)
  obtain ⟨L, hL⟩ : ∃ L, cutL (kind8 sz) xs (min n0 60) = L := ⟨_, rfl⟩
  obtain ⟨s, hs⟩ : ∃ s, kind8 sz = s := ⟨_, rfl⟩
  rw [hL] at hB hll hin hbc ⊢
  rw [hs] at hin h1 h2 ⊢
  obtain ⟨n, hn⟩ : ∃ n, L.length = n := ⟨_, rfl⟩
  rw [hn] at hll hbc ⊢
  have hn60 : n ≤ 60 := by omega
  have hq := H2.out.1.kept hI.2
  have hb2 := H2.out.2.trans (hI.2.mono (by have := H2.out.1.lt; omega))
  have hnw := fnew_any marked_said B n bc L s u2 hB hn (by omega) h1 (by omega) hin
  have HN := Lib.hid (And.intro hnw (And.intro hB (And.intro hq (And.intro hb2 (And.intro hin (And.intro hn hsh))))))
  have hsz : s ≤ 8 := h2
  clear hI hB hll hin hL hs hn hq hb2 hnw h1 h2 h3 H2 HS hsh
  go_wp2_with fail
  (with_reducible refine HN.out.1.mono ?_)
  rintro e u3 ⟨F, rfl, hF, hb⟩
  have hq3 := HN.out.2.2.1.kept hb
  have hb3 := HN.out.2.2.2.1.trans (hb.mono (by have := HN.out.2.2.1.lt; omega))
  have hB3 := HN.out.2.1.kept hb
  have hm3 := MX.boxed (w := u3) hF (Below.refl _ _)
  go_upto_region 4 with fail
  have hba := mbel u3 F
  obtain ⟨u4, hu4⟩ : ∃ u4, u3.alloc (.cells #[.int .i64 (F.N : Int), .int .i64 F.Z, .slice F.wa F.wW F.wc, .int .i64 (F.R.n : Int), .slice F.R.a F.R.m F.R.c, .int .i64 (F.R.cn : Int), .int .i64 (F.R.cW : Int), .int .i64 (F.R.cL : Int), .slice F.R.a2 F.R.m2 F.R.c2, .int .i64 (F.S.n : Int), .int .i64 (F.S.W : Int), .int .i64 (F.S.L : Int), .slice F.S.a F.S.m F.S.c, .int .i64 (F.P.n : Int), .int .i64 (F.P.W : Int), .int .i64 (F.P.L : Int), .slice F.P.a F.P.m F.P.c] 36) = u4 := ⟨_, rfl⟩
  rw [hu4] at hm3 hba
  rw [hu4]
  obtain ⟨bx, hbx⟩ : ∃ bx, u3.heap.size = bx := ⟨_, rfl⟩
  rw [hbx] at hm3
  simp only [hbx]
  have hG : WG w qb u3 bx F L s x y B u4 := ⟨hm3, hq3.kept hba, hb3.trans (hba.mono (by have := hq3.lt; omega)), hB3.kept hba, by have := hq3.lt; have := hba.size; omega⟩
  have H4 := Lib.hid hG
  have HL := Lib.hid (And.intro HN.out.2.2.2.2.1 (And.intro HN.out.2.2.2.2.2.1 HN.out.2.2.2.2.2.2))
  clear hF hb hq3 hb3 hB3 hm3 hba hu4 hbx hG HN
  clear HX
  go_wp2_with (refine load36 H4.out.mx.box _ (by with_reducible rfl) rfl rfl ?_)
  (with_reducible refine (flen_any H4.out.mx.fm).mono ?_)
  rintro e u5 ⟨rfl, hb⟩
  rw [HL.out.2.1]
  have H5 := Lib.hid (H4.out.kept hb)
  clear hb H4
  go_wp2_with (refine load36 H5.out.mx.box _ (by with_reducible rfl) rfl rfl ?_)
  (with_reducible refine (extract_mx H5.out.mx 0 (n : Int) (by omega) (by omega)).mono ?_)
  rintro e u6 ⟨D, rfl, hD, hb, -⟩
  rw [exL_all L n HL.out.2.1] at hD ⊢
  rw [HL.out.2.1]
  have h6 := H5.out.kept hb
  have hs := rsame_any (some ⟨D, 0, none⟩) B n n n bc L L u6 hD h6.nums HL.out.2.1 HL.out.2.1 (by omega)
  rw [decide_eq_true rfl] at hs
  have H6 := Lib.hid (And.intro hs h6)
  clear hs hD hb h6 H5
  go_wp2_with fail
  (with_reducible refine H6.out.1.mono ?_)
  rintro e u7 ⟨rfl, hb⟩
  have H7 := Lib.hid (H6.out.2.kept hb)
  clear hb H6
  have y0 := H7.out.pq.c0
  have y1 := H7.out.pq.c1
  obtain ⟨k1, k2, k3, a, ha, hae⟩ := brought x n hn60
  have hnz : ¬ ((n : Int) + 1 = 0) := by omega
  have hnz' : ((n : Int) + 1 == 0) = false := by simp; omega
  have sub1 : IntKind.i64.wrap ((n : Int) - (a : Int)) = ((n - a : Nat) : Int) := by rw [show (n : Int) - (a : Int) = ((n - a : Nat) : Int) by omega]; exact IntWalk.i64_in _ (by omega)
  obtain ⟨j1, j2, j3, k, hk, hke⟩ := brought y (n - a) (by omega)
  have hnz2 : ¬ (((n - a : Nat) : Int) + 1 = 0) := by omega
  have hnz2' : (((n - a : Nat) : Int) + 1 == 0) = false := by simp; omega
  obtain ⟨b, hb⟩ : ∃ b, n - a = b := ⟨_, rfl⟩
  rw [hb] at sub1 j1 j2 j3 hk hke hnz2 hnz2'
  have mid : IntKind.i64.wrap (y.tmod ((b : Int) + 1) + (n : Int)) = y.tmod ((b : Int) + 1) + (n : Int) := by
    have t1 := Int.tmod_lt_of_pos y (b := (b : Int) + 1) (by omega)
    have t2 := Int.lt_tmod_of_pos y (b := (b : Int) + 1) (by omega)
    exact IntWalk.i64_in _ (by omega)
  have mid2 : y.tmod ((b : Int) + 1) + (n : Int) - (a : Int) = y.tmod ((b : Int) + 1) + (b : Int) := by omega
  go_upto_region 11 with fail
  have hex := ex_st L a k (by rw [HL.out.2.1]; omega)
  have HK := Lib.hid (And.intro hex (And.intro ha (And.intro hb hk)))
  clear y0 y1 k1 k2 k3 hae sub1 j1 j2 j3 hke mid mid2 hnz hnz' hnz2 hnz2' hex
  go_wp2_with (refine load36 H7.out.mx.box _ (by with_reducible rfl) rfl rfl ?_)
  (with_reducible refine (extract_mx H7.out.mx (a : Int) (k : Int) (by omega) (by omega)).mono ?_)
  rintro e u8 ⟨D, rfl, hD, hb8, -⟩
  obtain ⟨⟨hst, hpl⟩, -, -, -⟩ := HK.out
  obtain ⟨p, hp⟩ : ∃ p, exL L (a : Int) (k : Int) = p := ⟨_, rfl⟩
  rw [hp] at hD hst hpl ⊢
  rw [hpl]
  have hmem := fnd_in (l := L) (p := p) (by rw [HL.out.2.1]; exact ha) hst
  have H8 := Lib.hid (And.intro (H7.out.kept hb8) (And.intro hD (And.intro hpl hmem)))
  have hk60 : k ≤ 60 := by omega
  clear hb8 hD hst hpl hp hmem HK H7 hb hk
  go_wp2_with (refine load36 H8.out.1.mx.box _ (by with_reducible rfl) rfl rfl ?_)
  (with_reducible refine (find_mx H8.out.1.mx (some ⟨D, 0, none⟩) k k p H8.out.2.1 H8.out.2.2.1 (by omega)).mono ?_)
  rintro e u9 ⟨C, cc, rfl, hC, hb9, -⟩
  have hle := fndL_len H8.out.1.mx.fm.i64 H8.out.1.mx.fm.nn p
  have hf1 := frN_le L true p
  have hE : ∀ i, i < (fndL L p).length → ∃ q : Nat, (fndL L p).getD i 0 = (q : Int) ∧ q ≤ n ∧ stB L p q = true := fun i hi => by
    obtain ⟨q, h1, h2, h3⟩ := fnd_is (getD_mem (b := 0) hi)
    exact ⟨q, h1, by rw [← HL.out.2.1]; exact h2, h3⟩
  have hup : ∀ i, i + 1 < (fndL L p).length → (fndL L p).getD i 0 < (fndL L p).getD (i + 1) 0 := fun i hi => fnd_up hi
  have hmem := H8.out.2.2.2
  obtain ⟨E, hEE⟩ : ∃ E, fndL L p = E := ⟨_, rfl⟩
  rw [hEE] at hC hle hE hup hmem ⊢
  obtain ⟨el, hel⟩ : ∃ el, E.length = el := ⟨_, rfl⟩
  rw [hel] at hle hE hup ⊢
  have hel9 : el ≤ 61 := by have := HL.out.2.1; omega
  have H9 := Lib.hid (And.intro (H8.out.1.kept hb9) (And.intro (H8.out.2.1.kept hb9) (And.intro hC (And.intro hE (And.intro hup (And.intro hmem (And.intro hEE hel)))))))
  have HPL := Lib.hid H8.out.2.2.1
  clear hb9 hC hle hf1 hE hup hmem hEE hel H8
  go_wp2
  go_loopw [17, 18, 19] (fun v17 v18 _ wr => ∃ i : Nat, i ≤ el ∧ v18 = .int .i64 (i : Int) ∧ v17 = .bool (hasA E (a : Int) i) ∧ WG w qb u3 bx F L s x y B wr ∧ NumsAt .i64 wr (some ⟨D, 0, none⟩) p ∧ NumsAt .i64 wr C E) (fun _ v18 _ _ => el - (intOf v18).toNat)
  case atStart => exact ⟨0, Nat.zero_le _, rfl, rfl, H9.out.1, H9.out.2.1, H9.out.2.2.1⟩
  case round =>
    obtain ⟨i, hin, rfl, rfl, hG, hP, hC⟩ := hrel
    obtain ⟨-, -, -, hE, hup, hmem, hEE, hel⟩ := H9.out
    by_cases hlt : i < el
    · obtain ⟨q, hq1, hq2, hq3⟩ := hE i hlt
      have hsuc := hasA_succ (E := E) (a := (a : Int)) (i := i) (by rw [hel]; exact hlt)
      rw [hq1] at hsuc
      rcases hC with h0 | ⟨bb, off, hCe, hbl, hcs⟩
      · subst h0; simp at hel; omega
      have hcs' : ∀ j, j < el → wr.cell? ⟨bb, off + j, none⟩ = some (.int .i64 (E.getD j 0)) := fun j hj => hcs j (by rw [hel]; exact hj)
      have c1 := hcs' i hlt
      rw [hq1] at c1
      have hs := stands_any B (some ⟨D, 0, none⟩) n k bc k L p q wr hG.nums hP HL.out.2.1 HPL.out hq2 (by omega) (by omega)
      rw [hq3] at hs
      have hCC : NumsAt .i64 wr C E := .inr ⟨bb, off, hCe, hbl, hcs⟩
      have HI := Lib.hid (And.intro hs (And.intro hG (And.intro hP (And.intro hCC (And.intro hsuc (And.intro hcs' (And.intro hup hq1)))))))
      have r0 : ¬ ∃ h, h + 1 = i ∧ ¬ h < el := by rintro ⟨h, h1, h2⟩; omega
      clear hs hG hP hCC hsuc hcs hcs' hup hE hmem hEE hel hq1 hq3
      subst hCe
      obtain ⟨g, hg⟩ : ∃ g, hasA E (a : Int) i = g := ⟨_, rfl⟩
      rw [hg]
      have HGG := Lib.hid hg
      clear hg
      have q3 : (i : Int) < (el : Int) := by omega
      have q4 : (0 : Int) ≤ (i : Int) := by omega
      go_wp2_with fail
      (with_reducible refine HI.out.1.mono ?_)
      rintro e w2 ⟨rfl, m, hm⟩
      have hbb : Below wr.heap.size wr w2 := by rw [hm]; exact below_drN wr m
      have c1' := (hbb.cell (p := ⟨bb, off + i, none⟩) hbl).trans c1
      have HJ := Lib.hid hbb
      clear hm c1
      by_cases hi0 : i = 0
      · have q5 : ¬ (0 : Int) < (i : Int) := by omega
        have q5n : ¬ 0 < i := by omega
        clear hbb hi0
        go_wp2
        go_quiet (fail)
        have c2 := c1'
        have HK2 := Lib.hid (HJ.out.trans ((below_drN w2 nq).mono HJ.out.size))
        cases g with
        | true =>
          go_wp2
          go_roundw
          case rel => exact ⟨i + 1, by omega, by go_num, by rw [HI.out.2.2.2.2.1, HGG.out]; rfl, HI.out.2.1.kept HK2.out, HI.out.2.2.1.kept HK2.out, HI.out.2.2.2.1.kept HK2.out⟩
          case measure => first | (simp [intOf]; done) | (simp [intOf]; omega)
        | false =>
          by_cases hqa : q = a
          · have qa : ((q : Int) == (a : Int)) = true := by simp [hqa]
            go_wp2
            go_roundw
            case rel => exact ⟨i + 1, by omega, by go_num, by rw [HI.out.2.2.2.2.1, HGG.out, hqa]; simp, HI.out.2.1.kept HK2.out, HI.out.2.2.1.kept HK2.out, HI.out.2.2.2.1.kept HK2.out⟩
            case measure => first | (simp [intOf]; done) | (simp [intOf]; omega)
          · have qa : ((q : Int) == (a : Int)) = false := by simp; omega
            go_wp2
            go_roundw
            case rel => exact ⟨i + 1, by omega, by go_num, by rw [HI.out.2.2.2.2.1, HGG.out, decide_eq_false (by omega)]; rfl, HI.out.2.1.kept HK2.out, HI.out.2.2.1.kept HK2.out, HI.out.2.2.2.1.kept HK2.out⟩
            case measure => first | (simp [intOf]; done) | (simp [intOf]; omega)
      · obtain ⟨h, hh⟩ : ∃ h, h + 1 = i := ⟨i - 1, by omega⟩
        have c0 := (hbb.cell (p := ⟨bb, off + h, none⟩) hbl).trans (HI.out.2.2.2.2.2.1 h (by omega))
        have hz := HI.out.2.2.2.2.2.2.1 h (by omega)
        rw [hh, HI.out.2.2.2.2.2.2.2] at hz
        obtain ⟨z, hzz⟩ : ∃ z, E.getD h 0 = z := ⟨_, rfl⟩
        rw [hzz] at c0 hz
        clear hzz hbb
        have q5 : (0 : Int) < (i : Int) := by omega
        have q5n : 0 < i := by omega
        have q6 : IntKind.i64.wrap ((i : Int) - 1) = (h : Int) := by rw [show (i : Int) - 1 = (h : Int) by omega]; exact IntWalk.i64_in _ (by omega)
        have q7 : (h : Int) < (el : Int) := by omega
        have q8 : (0 : Int) ≤ (h : Int) := by omega
        have q9 : ¬ (q : Int) ≤ z := by omega
        go_wp2
        go_quiet (fail)
        have c2 := c1'
        have HK2 := Lib.hid (HJ.out.trans ((below_drN w2 nq).mono HJ.out.size))
        cases g with
        | true =>
          go_wp2
          go_roundw
          case rel => exact ⟨i + 1, by omega, by go_num, by rw [HI.out.2.2.2.2.1, HGG.out]; rfl, HI.out.2.1.kept HK2.out, HI.out.2.2.1.kept HK2.out, HI.out.2.2.2.1.kept HK2.out⟩
          case measure => first | (simp [intOf]; done) | (simp [intOf]; omega)
        | false =>
          by_cases hqa : q = a
          · have qa : ((q : Int) == (a : Int)) = true := by simp [hqa]
            go_wp2
            go_roundw
            case rel => exact ⟨i + 1, by omega, by go_num, by rw [HI.out.2.2.2.2.1, HGG.out, hqa]; simp, HI.out.2.1.kept HK2.out, HI.out.2.2.1.kept HK2.out, HI.out.2.2.2.1.kept HK2.out⟩
            case measure => first | (simp [intOf]; done) | (simp [intOf]; omega)
          · have qa : ((q : Int) == (a : Int)) = false := by simp; omega
            go_wp2
            go_roundw
            case rel => exact ⟨i + 1, by omega, by go_num, by rw [HI.out.2.2.2.2.1, HGG.out, decide_eq_false (by omega)]; rfl, HI.out.2.1.kept HK2.out, HI.out.2.2.1.kept HK2.out, HI.out.2.2.2.1.kept HK2.out⟩
            case measure => first | (simp [intOf]; done) | (simp [intOf]; omega)
    · obtain rfl : i = el := by omega
      rw [← hel, hasA_all hmem]
      rw [hel]
      have hcn := count_mx hG.mx (some ⟨D, 0, none⟩) k k p hP HPL.out (by omega)
      rw [hEE, hel] at hcn
      have HF := Lib.hid (And.intro hcn hG)
      have r1 : ¬ (i : Int) < (i : Int) := by omega
      clear hG hP hC hE hup hmem hEE hel hcn H9
      go_wp2_with (refine load36 HF.out.2.mx.box _ (by with_reducible rfl) rfl rfl ?_)
      (with_reducible refine HF.out.1.mono ?_)
      rintro e u10 ⟨rfl, hb, -⟩
      have HB := Lib.hid (HF.out.2.bel.trans (hb.mono HF.out.2.lt))
      clear hb HF
      go_wp2
      go_ret
      exact ⟨rfl, by rw [HQ.out]; exact HB.out⟩

end Go.Proofs.YtbcjepkfjbibfaaGreat
