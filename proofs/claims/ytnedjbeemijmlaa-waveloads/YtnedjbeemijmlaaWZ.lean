/- The contract of Load. -/
import Derived.Test.YtnedjbeemijmlaaWW
import Derived.Deep.AppendLies
import Derived.Deep.RegionLaw
import Derived.Deep.CutRange
import Derived.Deep.CutBlock
set_option maxRecDepth 100000
namespace Go.Proofs.Ytnedjbeemijmlaa
open Go.RowKit
open M
attribute [local go_sem ↓] Go.wp_at_zero Go.wp_at_succ

/-- Rows of bits, side by side. -/
structure BG2 (w : World) (a : Option Addr) (m : Nat) (ls : List (List Bool)) : Prop where
  len : ls.length = m
  at_ : ∀ j, j < m → ∃ g o b k c, a = some ⟨g, o, none⟩ ∧ w.cell? ⟨g, o + j * 2, none⟩ = some (.int .i64 ((ls.getD j []).length : Int)) ∧ w.cell? ⟨g, o + j * 2 + 1, none⟩ = some (.slice b k c) ∧ RowAt w (.slice b k c) (ls.getD j [])
theorem BG2.kept {w w' : World} {a : Option Addr} {m : Nat} {ls : List (List Bool)} (h : BG2 w a m ls) (hb : Below w.heap.size w w') : BG2 w' a m ls :=
  ⟨h.len, fun j hj => by
    obtain ⟨g, o, b, k, c, e, h1, h2, h3⟩ := h.at_ j hj
    have hg := World.block_lt_of_cell? w _ h1
    exact ⟨g, o, b, k, c, e, by rw [hb.cell (p := ⟨g, o + j * 2, none⟩) hg]; exact h1, by rw [hb.cell (p := ⟨g, o + j * 2 + 1, none⟩) hg]; exact h2, h3.kept hb⟩⟩

/-- What Load tells. -/
def LoadEnd (w : World) (n size : Int) (m : Nat) (ls : List (List Bool)) (P : List Int → Prop) (e : Ending) (w' : World) : Prop :=
  Below w.heap.size w w' ∧
  ((e = .returned (.tuple #[.agg #[.int .i64 0, .int .i64 0, .slice none 0 0], .int .i64 10]) ∧
      (n < 0 ∨ 16777216 < n ∨ sizeB size = false ∨ m ≠ wdt size ∨ (∃ j, j < m ∧ ((ls.getD j []).length : Int) ≠ n) ∨ ∃ l, P l ∧ ∃ x ∈ l, size ≤ x)) ∨
   (∃ l a cap, e = .returned (.tuple #[.agg #[.int .i64 n, .int .i64 size, .slice a m cap], .int .i64 0]) ∧ P l ∧ (l.length : Int) = n ∧ WX w' l m a ∧ sizeB size = true ∧ m = wdt size ∧ ∀ x ∈ l, 0 ≤ x ∧ x < size))

theorem lt_eq (l : List Int) (c : Nat) : ltN l c + eqN l c = l.countP fun x => decide (x < (c : Int) + 1) := by
  unfold ltN eqN
  refine (countP_split l _ _ _ (fun x => ?_) (fun x hx => ?_)).symm
  · rw [← Bool.decide_or, decide_eq_decide]; omega
  · simp only [decide_eq_true_eq] at hx; simp only [decide_eq_false_iff_not]; omega

set_option maxHeartbeats 8000000 in
theorem load_no (n size : Int) (ra : Option Addr) (m rc : Nat) (ls : List (List Bool)) (P : List Int → Prop) (w : World)
    (h : n < 0 ∨ 16777216 < n ∨ sizeB size = false ∨ m ≠ wdt size) :
    Calls Try.prog 35 #[.int .i64 n, .int .i64 size, .slice ra m rc] w (LoadEnd w n size m ls P) := by
  have HB : Hid (Below w.heap.size w (w.alloc (.cells #[.int .i64 0, .int .i64 0, .slice none 0 0] 27))) := Lib.hid ((Below.refl _ _).alloc (Nat.le_refl _) _)
  have HH := Lib.hid h
  have fin : ∀ u, Below w.heap.size w u → LoadEnd w n size m ls P (.returned (.tuple #[.agg #[.int .i64 0, .int .i64 0, .slice none 0 0], .int .i64 10])) u := fun u hu =>
    ⟨hu, .inl ⟨rfl, by
      rcases h with h | h | h | h
      · exact .inl h
      · exact .inr (.inl h)
      · exact .inr (.inr (.inl h))
      · exact .inr (.inr (.inr (.inl h)))⟩⟩
  have FIN := Lib.hid fin
  clear fin h
  by_cases h1 : n < 0
  · go_enter Try.func35, Try.ntmps35
    go_wp2
    refine bodyPost_ret (v := .tuple #[.agg #[.int .i64 0, .int .i64 0, .slice none 0 0], .int .i64 10]) (by simp [results, Try.results35, go_sem]) rfl ?_
    exact FIN.out _ HB.out
  · by_cases h2 : 16777216 < n
    · go_enter Try.func35, Try.ntmps35
      go_wp2
      refine bodyPost_ret (v := .tuple #[.agg #[.int .i64 0, .int .i64 0, .slice none 0 0], .int .i64 10]) (by simp [results, Try.results35, go_sem]) rfl ?_
      exact FIN.out _ HB.out
    · by_cases h3 : sizeB size = true
      · have h4 : m ≠ wdt size := by
          rcases HH.out with h | h | h | h
          · exact absurd h h1
          · exact absurd h h2
          · rw [h3] at h; cases h
          · exact h
        have hsz : 1 ≤ size ∧ size ≤ 65536 := by unfold sizeB at h3; rwa [decide_eq_true_eq] at h3
        have hwd := fun u => width_any (size - 1) u (by omega)
        rw [show wid (size - 1).toNat = wdt size from rfl] at hwd
        have hW16 := wdt_le size h3
        have HS := Lib.hid h3
        have HWD := Lib.hid hwd
        clear hwd h3
        generalize wdt size = W at *
        have h5 : ((m : Int) != (W : Int)) = true := by simp; omega
        have h6 : ¬ (m : Int) = (W : Int) := by omega
        clear h4
        go_enter Try.func35, Try.ntmps35
        go_wp2_with fail
        refine (isSize_any size _).mono ?_
        rintro e u ⟨rfl, rfl⟩
        rw [HS.out]
        go_wp2_with fail
        refine (HWD.out _).mono ?_
        rintro e u ⟨rfl, rfl⟩
        go_wp2
        refine bodyPost_ret (v := .tuple #[.agg #[.int .i64 0, .int .i64 0, .slice none 0 0], .int .i64 10]) (by simp [results, Try.results35, go_sem]) rfl ?_
        exact FIN.out _ HB.out
      · have HS : Hid (sizeB size = false) := Lib.hid (by simpa using h3)
        clear h3
        go_enter Try.func35, Try.ntmps35
        go_wp2_with fail
        refine (isSize_any size _).mono ?_
        rintro e u ⟨rfl, rfl⟩
        rw [HS.out]
        go_wp2
        refine bodyPost_ret (v := .tuple #[.agg #[.int .i64 0, .int .i64 0, .slice none 0 0], .int .i64 10]) (by simp [results, Try.results35, go_sem]) rfl ?_
        exact FIN.out _ HB.out

set_option maxHeartbeats 8000000 in
theorem load_any (n : Nat) (size : Int) (ra : Option Addr) (W rc : Nat) (ls : List (List Bool)) (P : List Int → Prop) (w : World) (hB : BG2 w ra W ls) (hls : ∀ j, j < W → (ls.getD j []).length ≤ 1000000) (hn : n ≤ 1000000)
    (hs : sizeB size = true) (hW : W = wdt size) (hex : (∀ j, j < W → (ls.getD j []).length = n) → ∃ l, P l ∧ l.length = n ∧ Sy l W ∧ rowsI l W W = ls) :
    Calls Try.prog 35 #[.int .i64 (n : Int), .int .i64 size, .slice ra W rc] w (LoadEnd w (n : Int) size W ls P) := by
  have hI := NI.start w n size
  have hsz : 1 ≤ size ∧ size ≤ 65536 := by unfold sizeB at hs; rwa [decide_eq_true_eq] at hs
  have hwd := fun u => width_any (size - 1) u (by omega)
  rw [show wid (size - 1).toNat = wdt size from rfl, ← hW] at hwd
  have hW16 := wdt_le size hs
  have hpow := wdt_pow size hsz.1
  rw [← hW] at hW16 hpow
  have HI := Lib.hid hI
  have HS := Lib.hid (And.intro hs hW)
  have HWD := Lib.hid hwd
  have HB := Lib.hid (And.intro hB hls)
  have HEX := Lib.hid hex
  clear hI hs hW hwd hB hls hex
  have q1 : ¬ (n : Int) < 0 := by omega
  have q2 : ¬ 16777216 < (n : Int) := by omega
  go_enter Try.func35, Try.ntmps35
  go_wp2_with fail
  refine (isSize_any size _).mono ?_
  rintro e u ⟨rfl, rfl⟩
  rw [HS.out.1]
  go_wp2_with fail
  refine (HWD.out _).mono ?_
  rintro e u ⟨rfl, rfl⟩
  clear HWD
  go_wp2
  go_loopw [39] (fun v39 wr => ∃ (k : Nat) (rv : Value) (Rs : List RP), k ≤ W ∧ v39 = .int .i64 (k : Int) ∧ (∀ j, j < k → (ls.getD j []).length = n) ∧ NI w n size rv Rs (ls.take k) wr) (fun v39 _ => W - (intOf v39).toNat)
  case atStart => exact ⟨0, .slice none 0 0, [], Nat.zero_le _, rfl, fun j hj => by omega, by simpa using HI.out⟩
  case round =>
    obtain ⟨k, rv, Rs, hk, rfl, hlen, hNI⟩ := hrel
    clear HI
    by_cases hlt : k < W
    · obtain ⟨g, o, rb, rk, rcp, rfl, y0, y1, hrow⟩ := (HB.out.1.kept hNI.bel).at_ k hlt
      have hle := HB.out.2 k hlt
      have hbox : Below wr.heap.size wr (wr.alloc (.cells #[.int .i64 ((ls.getD k []).length : Int), .slice rb rk rcp] 41)) := (Below.refl _ _).alloc (Nat.le_refl _) _
      have hN1 := hNI.kept hbox
      have hrow1 := hrow.kept hbox
      have hlc := fun u (hu : RowAt u (.slice rb rk rcp) (ls.getD k [])) => len_any (.slice rb rk rcp) (ls.getD k []) u hu
      have hrn := fun u (hu : RowAt u (.slice rb rk rcp) (ls.getD k [])) => rnew_any rb rk rcp (ls.getD k []) u hu (by omega)
      have htk : ls.take (k + 1) = ls.take k ++ [ls.getD k []] := by
        rw [List.take_add_one]; simp [List.getD_eq_getElem?_getD, show k < ls.length by rw [HB.out.1.len]; exact hlt]
      have hlk : (ls.take k).length = k := by rw [List.length_take, HB.out.1.len]; omega
      have HTK := Lib.hid (And.intro htk hlen)
      have HLC := Lib.hid hlc
      have HRN := Lib.hid hrn
      have HN1 := Lib.hid (And.intro hN1 hrow1)
      clear hN1 hrow1 hlc hrn htk hlen hrow hNI hbox
      generalize hro : ls.getD k [] = row at *
      have HRO := Lib.hid hro
      clear hro
      generalize hrl : row.length = rl at *
      generalize ls.take k = lk at *
      have s1 : (k : Int) < (W : Int) := by omega
      have s2 : (0 : Int) ≤ (k : Int) := by omega
      go_wp2_with fail
      refine (HLC.out _ HN1.out.2).mono ?_
      rintro e u1 ⟨rfl, hb1⟩
      have hN2 := HN1.out.1.kept hb1
      have hrow2 := HN1.out.2.kept hb1
      have bx0 := hb1.cell (p := ⟨wr.heap.size, 0, none⟩) (by simp)
      have bx1 := hb1.cell (p := ⟨wr.heap.size, 1, none⟩) (by simp)
      rw [cell_new _ _ _ _ _ rfl] at bx0 bx1
      have bx0 : u1.cell? ⟨wr.heap.size, 0, none⟩ = some (.int .i64 (rl : Int)) := bx0
      have bx1 : u1.cell? ⟨wr.heap.size, 1, none⟩ = some (.slice rb rk rcp) := bx1
      have hbl := World.block_lt_of_cell? u1 _ bx0
      simp only at hbl
      clear y0 y1 hb1 HLC HN1
      generalize wr.heap.size = bb at *
      by_cases hln : rl = n
      · subst hln
        have hN := hN2
        have hrow := hrow2
        obtain ⟨x0, x1, x2⟩ := hN.box
        obtain ⟨i0, hi, hz0, hz1, hz2⟩ := info_parts info66
        subst hlk
        have h63 : lk.length + 1 ≤ maxLen := by unfold maxLen; omega
        have h64 : (lk.length + 1) * 80 ≤ 140737488355328 := by omega
        have hlt1 := hN.t1.lt
        clear hN2 hrow2
        go_wp2
        go_region_law
            (first
              | (go_simp
                 first
                  | (go_at_call 39; (with_reducible refine (HRN.out _ hrow).mono ?_); rintro e u3 ⟨R, rfl, hrk, -, hb⟩; have hN := hN.kept hb; clear x0 x1 x2 hlt1; obtain ⟨x0, x1, x2⟩ := hN.box; have hlt1 := hN.t1.lt)
                  | (go_at_call 39; (with_reducible refine (HRN.out _ (hrow.kept ((Below.refl _ _).drew))).mono ?_); rintro e u3 ⟨R, rfl, hrk, -, hb⟩; have hN := hN.drew.kept hb; clear x0 x1 x2 hlt1; obtain ⟨x0, x1, x2⟩ := hN.box; have hlt1 := hN.t1.lt))
              | (refine step_append_lies _ (by rfl) _ _ _ (by rfl) w.heap.size 66 i0 _ 6 80 Try.underlying25 hi hz0 hz1 hz2 rfl (by omega) rv lk.length (Rs.flatMap rcl) (by rfl) (own_kept hN.orr.own ((Below.refl _ _).alloc (Nat.le_refl _) _)) ⟨u3.heap.size, 0, none⟩ 1 1 (rcl R) (by rfl) (by rfl) (World.news_of_block (cs := #[.int .i64 (R.n : Int), .slice R.a R.m R.c, .int .i64 (R.cn : Int), .int .i64 (R.cW : Int), .int .i64 (R.cL : Int), .slice R.a2 R.m2 R.c2]) (t := 66) (fr := (0, 0)) (heap_alloc_new u3 _)) (by simp [rcl, Value.oneCell']) (by omega) h63 h64 (by have := hN.bel.size; simp; omega) (u3.heap.size + 1) (by simp) ?_
                 intro g2 cap2 w1 hown hgrow hat hlt2
                 have f1 : w1.cell? ⟨w.heap.size + 1, 2, none⟩ = some rv := by rw [hgrow.cell_far _ (by simp; omega) (fun e => by have := hN.far (w.heap.size + 1) e.symm; omega)]; exact (hN.kept ((Below.refl _ _).alloc (Nat.le_refl _) _)).box.c2
                 have f2 : w1.frozen? ⟨w.heap.size + 1, 2, none⟩ = false := by rw [hgrow.frozen_far _ (by simp; omega) (fun e => by have := hN.far (w.heap.size + 1) e.symm; omega)]; exact (hN.kept ((Below.refl _ _).alloc (Nat.le_refl _) _)).bz))
        all_goals
            have hRn : R.n = rl := by rw [← hrk.len]; exact hrl
            obtain ⟨hNI2, hKp⟩ := hN.app hrk hRn _ hown hgrow hat
            have HN2 := Lib.hid hNI2
            have HRL := Lib.hid hrl
            clear hNI2 hKp hRn hown hgrow hat f1 f2 x0 x1 x2 hrl hN hrow bx0 bx1 hrk
            go_wp2
            go_roundw
            case rel =>
              refine ⟨lk.length + 1, .slice (some ⟨g2, 0, none⟩) (lk.length + 1) cap2, Rs ++ [R], hlt, by go_num, fun j hj => ?_, by rw [HTK.out.1]; exact HN2.out⟩
              by_cases hjk : j < lk.length
              · exact HTK.out.2 j hjk
              · rw [show j = lk.length by omega, HRO.out]; exact HRL.out
            case measure => simp [intOf]; omega
      · have hln2 : ((rl : Int) != (n : Int)) = true := by simp; omega
        have hln3 : ¬ (rl : Int) = (n : Int) := by omega
        obtain ⟨⟨v0, y0⟩, f0⟩ := hN2.res.ex 0 (by omega)
        obtain ⟨⟨v1, y1⟩, f1⟩ := hN2.res.ex 1 (by omega)
        obtain ⟨⟨v2, y2⟩, f2⟩ := hN2.res.ex 2 (by omega)
        have HE := Lib.hid hN2
        have HRL := Lib.hid hrl
        clear hN2 hrow2 hrl bx0 bx1
        go_wp2
        have k0 : (((u1.setCell ⟨w.heap.size, 0, none⟩ (.int .i64 0)).setCell ⟨w.heap.size, 1, none⟩ (.int .i64 0)).setCell ⟨w.heap.size, 2, none⟩ (.slice none 0 0)).cell? ⟨w.heap.size, 0, none⟩ = some (.int .i64 0) := (far_off (by decide)).trans ((far_off (by decide)).trans (World.cell?_setCell_same _ _ _ y0))
        have k1 : (((u1.setCell ⟨w.heap.size, 0, none⟩ (.int .i64 0)).setCell ⟨w.heap.size, 1, none⟩ (.int .i64 0)).setCell ⟨w.heap.size, 2, none⟩ (.slice none 0 0)).cell? ⟨w.heap.size, 1, none⟩ = some (.int .i64 0) := (far_off (by decide)).trans (World.cell?_setCell_same _ _ _ ((far_off (by decide)).trans y1))
        have k2 : (((u1.setCell ⟨w.heap.size, 0, none⟩ (.int .i64 0)).setCell ⟨w.heap.size, 1, none⟩ (.int .i64 0)).setCell ⟨w.heap.size, 2, none⟩ (.slice none 0 0)).cell? ⟨w.heap.size, 2, none⟩ = some (.slice none 0 0) := World.cell?_setCell_same _ _ _ ((far_off (by decide)).trans ((far_off (by decide)).trans y2))
        have hbl2 := ((HE.out.bel.setCell (p := ⟨w.heap.size, 0, none⟩) (Nat.le_refl _) (.int .i64 0)).setCell (p := ⟨w.heap.size, 1, none⟩) (Nat.le_refl _) (.int .i64 0)).setCell (p := ⟨w.heap.size, 2, none⟩) (Nat.le_refl _) (.slice none 0 0)
        generalize ((u1.setCell ⟨w.heap.size, 0, none⟩ (.int .i64 0)).setCell ⟨w.heap.size, 1, none⟩ (.int .i64 0)).setCell ⟨w.heap.size, 2, none⟩ (.slice none 0 0) = U at *
        refine bodyPost_ret (v := .tuple #[.agg #[.int .i64 0, .int .i64 0, .slice none 0 0], .int .i64 10]) (by simp [results, Try.results35, go_sem, k0, k1, k2]) rfl ?_
        exact ⟨hbl2, .inl ⟨rfl, .inr (.inr (.inr (.inr (.inl ⟨k, hlt, by rw [HRO.out, HRL.out]; exact hln3⟩))))⟩⟩
    · obtain rfl : k = W := by omega
      have htk : ls.take k = ls := List.take_of_length_le (by rw [HB.out.1.len]; omega)
      rw [htk] at hNI
      obtain ⟨l, hP, hll, hsy, hrw⟩ := HEX.out hlen
      obtain ⟨a9, c9, e9, hrs⟩ := hNI.orr.rs hNI.bel
      rw [HB.out.1.len] at e9 hrs
      subst e9
      have hwx : WX wr l k a9 := ⟨by rw [hll, hrw]; exact hrs, hsy, by rw [hll]; exact hn, by omega⟩
      obtain ⟨c, hc⟩ : ∃ c : Nat, size - 1 = (c : Int) := ⟨(size - 1).toNat, by omega⟩
      have hcw : c < 2 ^ k := by
        have e : ((2 ^ k : Nat) : Int) = 2 ^ k := by simp
        omega
      have hdn := down_any l k a9 c9 size c 0 n wr hwx hcw (Nat.zero_le _) (by rw [hll]; exact Nat.le_refl _)
      rw [hll] at hdn
      have hrz : rng l 0 n = l := by rw [rng_zero, List.take_of_length_le (by rw [hll]; exact Nat.le_refl _)]
      unfold DownEnd at hdn
      rw [hrz] at hdn
      have hsum := lt_eq l c
      have hcl : (l.countP fun x => decide (x < (c : Int) + 1)) ≤ n := by rw [← hll]; exact List.countP_le_length
      have hall : (l.countP fun x => decide (x < (c : Int) + 1)) = n ↔ ∀ x ∈ l, x < size := by
        rw [← hll, List.countP_eq_length]
        constructor
        · intro h x hx; have := h x hx; rw [decide_eq_true_eq] at this; omega
        · intro h x hx; rw [decide_eq_true_eq]; have := h x hx; omega
      generalize (l.countP fun x => decide (x < (c : Int) + 1)) = cp at *
      generalize ltN l c = p1 at *
      generalize eqN l c = p2 at *
      have HRW := Lib.hid hrw
      have HD := Lib.hid hdn
      have HQ := Lib.hid (And.intro hP (And.intro hll (And.intro hsy (And.intro hall (And.intro hrs hwx)))))
      obtain ⟨x0, x1, x2⟩ := hNI.box
      have HNI := Lib.hid hNI
      clear hdn hP hll hsy hrw hrs hwx hrz hall hcw hNI hlen htk
      go_wp2_with fail
      clear x0 x1 x2
      refine HD.out.mono ?_
      rintro e u1 ⟨r, rfl, hb1⟩
      obtain ⟨P1, hP1⟩ : ∃ P1 : Int, (p1 : Int) = P1 := ⟨_, rfl⟩
      obtain ⟨ri, hri⟩ : ∃ ri : Int, (r : Int) = ri := ⟨_, rfl⟩
      obtain ⟨R1, hR1⟩ : ∃ R1 : Int, ((r + p2 : Nat) : Int) = R1 := ⟨_, rfl⟩
      obtain ⟨A1, hA1⟩ : ∃ A1 : Int, IntKind.i64.wrap (P1 + R1) = A1 := ⟨_, rfl⟩
      have hB1 : IntKind.i64.wrap (A1 - ri) = (cp : Int) := by
        rw [← hA1]
        simp only [IntKind.wrap_i64]
        omega
      rw [hP1, hri, hR1]
      clear hP1 hri hR1
      have hN2 := HNI.out.kept hb1
      have HW1 := Lib.hid (HQ.out.2.2.2.2.2.kept hb1)
      obtain ⟨x0, x1, x2⟩ := hN2.box
      obtain ⟨⟨v0, y0⟩, f0⟩ := hN2.res.ex 0 (by omega)
      obtain ⟨⟨v1, y1⟩, f1⟩ := hN2.res.ex 1 (by omega)
      obtain ⟨⟨v2, y2⟩, f2⟩ := hN2.res.ex 2 (by omega)
      have HE := Lib.hid hN2
      clear hN2 hb1 HD HNI
      obtain ⟨hPl, hll, hsy, hall, -, -⟩ := HQ.out
      by_cases hcn : cp = n
      · have hx := hall.1 hcn
        have hO := ((HE.out.orr.set HE.out.t0 0 (.int .i64 (n : Int))).set (HE.out.t0.set _ _) 1 (.int .i64 size)).set ((HE.out.t0.set _ _).set _ _) 2 (.slice a9 k c9)
        have hbl := ((HE.out.bel.setCell (p := ⟨w.heap.size, 0, none⟩) (Nat.le_refl _) (.int .i64 (n : Int))).setCell (p := ⟨w.heap.size, 1, none⟩) (Nat.le_refl _) (.int .i64 size)).setCell (p := ⟨w.heap.size, 2, none⟩) (Nat.le_refl _) (.slice a9 k c9)
        obtain ⟨a8, c8, e8, hrs⟩ := hO.rs hbl
        rw [HB.out.1.len] at e8 hrs
        simp only [Value.slice.injEq, true_and] at e8
        obtain ⟨rfl, rfl⟩ := e8
        have k0 : (((u1.setCell ⟨w.heap.size, 0, none⟩ (.int .i64 (n : Int))).setCell ⟨w.heap.size, 1, none⟩ (.int .i64 size)).setCell ⟨w.heap.size, 2, none⟩ (.slice a9 k c9)).cell? ⟨w.heap.size, 0, none⟩ = some (.int .i64 (n : Int)) := (far_off (by decide)).trans ((far_off (by decide)).trans (World.cell?_setCell_same _ _ _ y0))
        have k1 : (((u1.setCell ⟨w.heap.size, 0, none⟩ (.int .i64 (n : Int))).setCell ⟨w.heap.size, 1, none⟩ (.int .i64 size)).setCell ⟨w.heap.size, 2, none⟩ (.slice a9 k c9)).cell? ⟨w.heap.size, 1, none⟩ = some (.int .i64 size) := (far_off (by decide)).trans (World.cell?_setCell_same _ _ _ ((far_off (by decide)).trans y1))
        have k2 : (((u1.setCell ⟨w.heap.size, 0, none⟩ (.int .i64 (n : Int))).setCell ⟨w.heap.size, 1, none⟩ (.int .i64 size)).setCell ⟨w.heap.size, 2, none⟩ (.slice a9 k c9)).cell? ⟨w.heap.size, 2, none⟩ = some (.slice a9 k c9) := World.cell?_setCell_same _ _ _ ((far_off (by decide)).trans ((far_off (by decide)).trans y2))
        have HKK := Lib.hid (And.intro k0 (And.intro k1 (And.intro k2 (And.intro hrs hbl))))
        have HPX := Lib.hid (And.intro hPl (And.intro hll (And.intro hsy hx)))
        clear k0 k1 k2 hrs hbl hO hx hPl hll hsy hall
        subst hcn
        go_wp2
        obtain ⟨k0, k1, k2, hrs, hbl⟩ := HKK.out
        clear HKK
        generalize ((u1.setCell ⟨w.heap.size, 0, none⟩ (.int .i64 (cp : Int))).setCell ⟨w.heap.size, 1, none⟩ (.int .i64 size)).setCell ⟨w.heap.size, 2, none⟩ (.slice a9 k c9) = U at *
        refine bodyPost_ret (v := .tuple #[.agg #[.int .i64 (cp : Int), .int .i64 size, .slice a9 k c9], .int .i64 0]) (by simp [results, Try.results35, go_sem, k0, k1, k2]) rfl ?_
        obtain ⟨hPl, hll, hsy, hx⟩ := HPX.out
        exact ⟨hbl, .inr ⟨l, a9, c9, rfl, hPl, by rw [hll], ⟨by rw [hll, HRW.out]; exact hrs, hsy, by rw [hll]; exact hn, by omega⟩, HS.out.1, HS.out.2, fun x hx1 => ⟨(hsy x hx1).1, hx x hx1⟩⟩⟩
      · have hno : ∃ x ∈ l, size ≤ x := by
          by_cases h9 : ∃ x ∈ l, size ≤ x
          · exact h9
          · exact absurd (hall.2 (fun x hx => by
              by_cases h8 : x < size
              · exact h8
              · exact absurd ⟨x, hx, by omega⟩ h9)) hcn
        have k0 : (((u1.setCell ⟨w.heap.size, 0, none⟩ (.int .i64 0)).setCell ⟨w.heap.size, 1, none⟩ (.int .i64 0)).setCell ⟨w.heap.size, 2, none⟩ (.slice none 0 0)).cell? ⟨w.heap.size, 0, none⟩ = some (.int .i64 0) := (far_off (by decide)).trans ((far_off (by decide)).trans (World.cell?_setCell_same _ _ _ y0))
        have k1 : (((u1.setCell ⟨w.heap.size, 0, none⟩ (.int .i64 0)).setCell ⟨w.heap.size, 1, none⟩ (.int .i64 0)).setCell ⟨w.heap.size, 2, none⟩ (.slice none 0 0)).cell? ⟨w.heap.size, 1, none⟩ = some (.int .i64 0) := (far_off (by decide)).trans (World.cell?_setCell_same _ _ _ ((far_off (by decide)).trans y1))
        have k2 : (((u1.setCell ⟨w.heap.size, 0, none⟩ (.int .i64 0)).setCell ⟨w.heap.size, 1, none⟩ (.int .i64 0)).setCell ⟨w.heap.size, 2, none⟩ (.slice none 0 0)).cell? ⟨w.heap.size, 2, none⟩ = some (.slice none 0 0) := World.cell?_setCell_same _ _ _ ((far_off (by decide)).trans ((far_off (by decide)).trans y2))
        have hbl2 := ((HE.out.bel.setCell (p := ⟨w.heap.size, 0, none⟩) (Nat.le_refl _) (.int .i64 0)).setCell (p := ⟨w.heap.size, 1, none⟩) (Nat.le_refl _) (.int .i64 0)).setCell (p := ⟨w.heap.size, 2, none⟩) (Nat.le_refl _) (.slice none 0 0)
        have HKK := Lib.hid (And.intro k0 (And.intro k1 (And.intro k2 (And.intro hbl2 (And.intro hPl hno)))))
        have hc5 : ((cp : Int) != (n : Int)) = true := by simp; omega
        have hc6 : ¬ (cp : Int) = (n : Int) := by omega
        clear k0 k1 k2 hbl2 hPl hll hsy hall hno
        go_wp2
        obtain ⟨k0, k1, k2, hbl2, hPl, hno⟩ := HKK.out
        clear HKK
        generalize ((u1.setCell ⟨w.heap.size, 0, none⟩ (.int .i64 0)).setCell ⟨w.heap.size, 1, none⟩ (.int .i64 0)).setCell ⟨w.heap.size, 2, none⟩ (.slice none 0 0) = U at *
        refine bodyPost_ret (v := .tuple #[.agg #[.int .i64 0, .int .i64 0, .slice none 0 0], .int .i64 10]) (by simp [results, Try.results35, go_sem, k0, k1, k2]) rfl ?_
        exact ⟨hbl2, .inl ⟨rfl, .inr (.inr (.inr (.inr (.inr ⟨l, hPl, hno⟩))))⟩⟩

end Go.Proofs.Ytnedjbeemijmlaa
