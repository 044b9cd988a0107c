/- The contract of bucketed. -/
import Derived.Test.YtdepncdknofocaaOB
set_option maxRecDepth 100000
namespace Go.Proofs.Ytdepncdknofocaa
open Go.RowKit
open M

/-- What is asked of the closure: it tells a digit of each place, and only reads. -/
def DigC (w : World) (cb cs : Value) (ins : List Int) (δ : Int → Nat) : Prop :=
  ∀ u, Below w.heap.size w u → ∀ x ∈ ins, Calls Try.prog 50 #[.int .i64 x, cb, cs] u fun e u' => e = .returned (.int .i64 (δ x : Nat)) ∧ ∃ n, u' = u.drewN n

def BktEnd (w : World) (ins : List Int) (δ : Int → Nat) (e : Ending) (u : World) : Prop :=
  ∃ D, e = .returned (.slice (some ⟨D, 0, none⟩) ins.length ins.length) ∧ NumsAt .i64 u (some ⟨D, 0, none⟩) (bks δ ins 256) ∧ Below w.heap.size w u

def Z256 : Array Value := Array.replicate 256 (.int .i64 0)
theorem zero53 (w : World) : (zeroValue 53).run Try.prog w = .ok (.agg Z256) w := by kernel_rfl
theorem Z256_at (i : Nat) (h : i < 256) : Z256[i]? = some (.int .i64 0) := by simp [Z256, h]

theorem bk_get (δ : Int → Nat) (l : List Int) (i : Nat) (h : i < l.length) (d : Nat) : bk δ (l.take (i + 1)) d = bk δ (l.take i) d ++ if δ (l.getD i 0) = d then [l.getD i 0] else [] := by
  have e : l.getD i 0 = l[i] := by simp [List.getD_eq_getElem?_getD, h]
  rw [bk_snoc δ l i h d, e]

/-- What bucketed holds while it lays places: the counts, and the row that it lays. -/
structure BW (w : World) (N D n : Nat) (c : Nat → Int) (ins : List Int) (δ : Int → Nat) (i : Nat) (u : World) : Prop where
  cnt : DI w N 256 c u
  cell : ∀ d j, d < 256 → j < (bk δ (ins.take i) d).length → u.cell? ⟨D, st δ ins d + j, none⟩ = some (.int .i64 ((bk δ (ins.take i) d).getD j 0))
  had : ∀ k, k < n → ∃ v, u.cell? ⟨D, k, none⟩ = some v
  frz : ∀ k, k < n → u.frozen? ⟨D, k, none⟩ = false
  lo : w.heap.size ≤ D
  hi : D < u.heap.size
  ne : D ≠ N

theorem BW.kept {w u u' : World} {N D n : Nat} {c : Nat → Int} {ins : List Int} {δ : Int → Nat} {i : Nat} (h : BW w N D n c ins δ i u) (hb : Below u.heap.size u u') : BW w N D n c ins δ i u' :=
  ⟨h.cnt.kept hb, fun d j hd hj => by rw [hb.cell (p := ⟨D, st δ ins d + j, none⟩) h.hi]; exact h.cell d j hd hj, fun k hk => by rw [hb.cell (p := ⟨D, k, none⟩) h.hi]; exact h.had k hk, fun k hk => by rw [hb.frozen (p := ⟨D, k, none⟩) h.hi]; exact h.frz k hk, h.lo, Nat.lt_of_lt_of_le h.hi hb.size, h.ne⟩

theorem st_bk_lt (δ : Int → Nat) (l : List Int) (i : Nat) (h : i < l.length) : st δ l (δ (l.getD i 0)) + (bk δ (l.take i) (δ (l.getD i 0))).length < st δ l (δ (l.getD i 0) + 1) := by
  have h1 := st_succ δ l (δ (l.getD i 0))
  have h2 := bk_get δ l i h (δ (l.getD i 0))
  rw [if_pos rfl] at h2
  have h3 := bk_le δ l (i + 1) (δ (l.getD i 0))
  rw [h2, List.length_append, List.length_singleton] at h3
  omega

/-- One place more. -/
theorem BW.lay {w u : World} {N D n : Nat} {c : Nat → Int} {ins : List Int} {δ : Int → Nat} {i : Nat} (h : BW w N D n c ins δ i u) (hi : i < ins.length) (hd : δ (ins.getD i 0) < 256)
    (hn : ins.length = n) (x : Int) :
    BW w N D n (fun k => if k = δ (ins.getD i 0) then x else c k) ins δ (i + 1) ((u.setCell ⟨D, st δ ins (δ (ins.getD i 0)) + (bk δ (ins.take i) (δ (ins.getD i 0))).length, none⟩ (.int .i64 (ins.getD i 0))).setCell ⟨N, δ (ins.getD i 0), none⟩ (.int .i64 x)) := by
  obtain ⟨y, hy⟩ : ∃ y, y = ins.getD i 0 := ⟨_, rfl⟩
  have hlt := st_bk_lt δ ins i hi
  have hle := st_le δ ins (δ (ins.getD i 0) + 1)
  have hbk := bk_get δ ins i hi
  rw [← hy] at hlt hle hbk hd ⊢
  have hNl := h.cnt.lo
  refine ⟨(h.cnt.other (p := ⟨D, _, none⟩) h.lo h.ne _).set hd x, fun d j hdl hj => ?_, fun k hk => ?_, fun k hk => by simpa using h.frz k hk, h.lo, by simpa using h.hi, h.ne⟩
  · rw [World.cell?_setCell_other _ _ _ _ (ne_addr h.ne.symm)]
    rw [hbk d] at hj
    rw [hbk d]
    by_cases e : δ y = d
    · subst e
      rw [if_pos rfl] at hj ⊢
      rw [List.length_append, List.length_singleton] at hj
      by_cases ej : j = (bk δ (ins.take i) (δ y)).length
      · subst ej
        obtain ⟨v, hv⟩ := h.had (st δ ins (δ y) + (bk δ (ins.take i) (δ y)).length) (by omega)
        rw [cell_set _ _ _ _ _ _ hv, if_pos rfl]
        simp [List.getD_eq_getElem?_getD]
      · have hj2 : j < (bk δ (ins.take i) (δ y)).length := by omega
        rw [cell_set _ _ _ _ _ _ (h.cell (δ y) j hdl hj2), if_neg (by omega)]
        simp [List.getD_eq_getElem?_getD, List.getElem?_append_left hj2]
    · rw [if_neg e, List.append_nil] at hj ⊢
      have hne : st δ ins d + j ≠ st δ ins (δ y) + (bk δ (ins.take i) (δ y)).length := by
        have l1 := bk_le δ ins i d
        have l2 := st_succ δ ins d
        rcases Nat.lt_or_gt_of_ne e with hlt2 | hlt2
        · have := st_mono δ ins (show δ y + 1 ≤ d by omega); omega
        · have := st_mono δ ins (show d + 1 ≤ δ y by omega); omega
      rw [cell_set _ _ _ _ _ _ (h.cell d j hdl hj), if_neg hne]
  · obtain ⟨v, hv⟩ := h.had k hk
    rw [World.cell?_setCell_other _ _ _ _ (ne_addr h.ne.symm), cell_set _ _ _ _ _ _ hv]
    exact ⟨_, rfl⟩

set_option maxHeartbeats 4000000 in
theorem bucketed_any (A : Option Addr) (n cA : Nat) (ins : List Int) (cb cs : Value) (δ : Int → Nat) (w : World) (hx : NumsAt .i64 w A ins) (hl : ins.length = n) (hn : n ≤ 1000000) (hC : DigC w cb cs ins δ) (hδ : ∀ x ∈ ins, δ x < 256) :
    Calls Try.prog 49 #[.slice A n cA, .func (.func 50) #[] #[cb, cs]] w (BktEnd w ins δ) := by
  have HX := Lib.hid (And.intro hx (And.intro hl (And.intro hC hδ)))
  clear hx hl hC hδ
  have hz := zero53
  have hN : DI w w.heap.size 256 (fun d => ((bk δ (ins.take 0) d).length : Nat)) (w.alloc (.cells Z256 53)) :=
    ⟨fun i hi => by rw [cell_new _ _ _ _ _ rfl, Z256_at i hi]; simp [bk], fun i _ => frozen_new _ _ _ _ _ rfl, Nat.le_refl _, by simp, (Below.refl _ _).alloc (Nat.le_refl _) _⟩
  have HN := Lib.hid hN
  clear hN
  go_enter Try.func49, Try.ntmps49
  go_wp2
  obtain ⟨N, hNe⟩ : ∃ N, N = w.heap.size := ⟨_, rfl⟩
  obtain ⟨w0, hw0⟩ : ∃ w0, w0 = w.alloc (.cells Z256 53) := ⟨_, rfl⟩
  rw [← hw0, ← hNe] at HN
  try rw [← hw0]
  rw [← hNe]
  clear hw0
  have HNE := Lib.hid hNe
  clear hNe
  go_loopw [7, 16] (fun _ v16 wr => ∃ i : Nat, i ≤ n ∧ v16 = .int .i64 (i : Int) ∧ DI w N 256 (fun d => ((bk δ (ins.take i) d).length : Nat)) wr) (fun _ v16 _ => n - (intOf v16).toNat)
  case atStart => exact ⟨0, Nat.zero_le _, rfl, HN.out⟩
  case round =>
    obtain ⟨i, hin, rfl, hDr⟩ := hrel
    by_cases hlt : i < n
    · obtain ⟨bb, off, hAe, hbl, hcb⟩ := num_at (HX.out.1.kept hDr.bel) (i := i) (by rw [HX.out.2.1]; exact hlt)
      have hxm : ins.getD i 0 ∈ ins := by simp [List.getD_eq_getElem?_getD, HX.out.2.1, hlt]
      have hd := HX.out.2.2.2 _ hxm
      have hcl := HX.out.2.2.1 wr hDr.bel _ hxm
      have hsn := fun d => bk_get δ ins i (by rw [HX.out.2.1]; exact hlt) d
      have hle : (bk δ (ins.take i) (δ (ins.getD i 0))).length ≤ i := Nat.le_trans (List.length_filter_le _ _) (List.length_take_le _ _)
      obtain ⟨x, hx⟩ : ∃ x, x = ins.getD i 0 := ⟨_, rfl⟩
      rw [← hx] at hcb hd hcl hsn hle
      clear hx hxm
      have c1 := hDr.cell (δ x) hd
      have z1 := hDr.frz (δ x) hd
      have hset := fun q => (hDr.drewN q).set hd (((bk δ (ins.take i) (δ x)).length : Nat) + 1 : Int)
      have HS := Lib.hid (And.intro hset hsn)
      have HCL := Lib.hid hcl
      subst hAe
      clear hset hDr hcl hsn
      obtain ⟨dx, hdx⟩ : ∃ dx, dx = δ x := ⟨_, rfl⟩
      rw [← hdx] at hd hle c1 z1 HS HCL
      clear hdx
      obtain ⟨ct, hct⟩ : ∃ ct, ct = (bk δ (ins.take i) dx).length := ⟨_, rfl⟩
      rw [← hct] at c1 HS hle
      have HCT := Lib.hid hct
      clear hct
      have q1 : (i : Int) < (n : Int) := by omega
      have q2 : (0 : Int) ≤ (i : Int) := by omega
      have q3 : (dx : Int) < 256 := by omega
      have q4 : (0 : Int) ≤ (dx : Int) := by omega
      go_wp2_with fail
      (with_reducible refine HCL.out.mono ?_)
      rintro e u1 ⟨rfl, q, rfl⟩
      have c1' : (wr.drewN q).cell? ⟨N, dx, none⟩ = some (.int .i64 (ct : Nat)) := by simpa using c1
      have z1' : (wr.drewN q).frozen? ⟨N, dx, none⟩ = false := by simpa using z1
      clear c1 z1 HCL
      go_wp2
      go_roundw
      case rel =>
        refine ⟨i + 1, by omega, by go_num, (HS.out.1 q).congr fun d _ => ?_⟩
        rw [HS.out.2 d, List.length_append]
        by_cases e : d = dx
        · rw [if_pos e, if_pos e.symm, HCT.out, e]; rfl
        · rw [if_neg e, if_neg (fun h => e h.symm)]; rfl
      case measure => simp [intOf]; omega
    · obtain rfl : i = n := by omega
      have hD2 : DI w N 256 (fun d => if d < 0 then ((st δ ins d : Nat) : Int) else ((bk δ ins d).length : Nat)) wr := hDr.congr fun d _ => by
        rw [if_neg (by omega), show ins.take i = ins from List.take_of_length_le (by have := HX.out.2.1; omega)]
      have HD2 := Lib.hid hD2
      clear hDr hD2
      go_wp2
      go_loopw [8, 9, 28] (fun v8 _ v28 wr => ∃ d : Nat, d ≤ 256 ∧ v28 = .int .i64 (d : Int) ∧ v8 = .int .i64 (st δ ins d : Nat) ∧ DI w N 256 (fun k => if k < d then ((st δ ins k : Nat) : Int) else ((bk δ ins k).length : Nat)) wr) (fun _ _ v28 _ => 256 - (intOf v28).toNat)
      case atStart => exact ⟨0, by omega, rfl, by rw [st_zero]; rfl, HD2.out⟩
      case round =>
        obtain ⟨d, hd, rfl, rfl, hDr⟩ := hrel
        by_cases hlt : d < 256
        · have c1 := hDr.cell d hlt
          have z1 := hDr.frz d hlt
          simp only [Nat.lt_irrefl, if_false] at c1
          have hsu := st_succ δ ins d
          have hle := st_le δ ins (d + 1)
          rw [HX.out.2.1] at hle
          have hset := hDr.set hlt ((st δ ins d : Nat) : Int)
          have HS := Lib.hid (And.intro hset hsu)
          clear hset hDr
          obtain ⟨s0, hs0⟩ : ∃ s0, s0 = st δ ins d := ⟨_, rfl⟩
          obtain ⟨b0, hb0⟩ : ∃ b0, b0 = (bk δ ins d).length := ⟨_, rfl⟩
          rw [hsu, ← hs0, ← hb0] at hle
          rw [← hb0] at c1 HS
          rw [← hs0] at HS ⊢
          have HS0 := Lib.hid (And.intro hs0 hb0)
          clear hs0 hb0 hsu
          have q1 : (d : Int) < 256 := by omega
          have q2 : (0 : Int) ≤ (d : Int) := by omega
          go_wp2
          go_roundw
          case rel =>
            refine ⟨d + 1, by omega, by go_num, by rw [HS.out.2]; go_num, HS.out.1.congr fun k _ => ?_⟩
            by_cases e : k = d
            · rw [if_pos e, if_pos (by omega), HS0.out.1, e]
            · rw [if_neg e]
              by_cases e2 : k < d
              · rw [if_pos e2, if_pos (by omega)]
              · rw [if_neg e2, if_neg (by omega)]
          case measure => simp [intOf]; omega
        · obtain rfl : d = 256 := by omega
          have q1 : ¬ ((256 : Nat) : Int) < 256 := by omega
          have HD3 := Lib.hid hDr
          clear hDr HD2
          obtain ⟨i0, hi, hz0, hz1, hz2⟩ := info_parts info3
          go_wp2_with (first | (at_make; refine wpList_make_full _ rfl _ _ 22 rfl wr.heap.size 3 i0 (.int .i64 0) 1 Try.underlying22 hi hz0 hz1 _ _ _ _ i rfl rfl rfl rfl ?b2 ?b3 (Nat.le_refl _) ?_))
          case b2 => first | omega | (rw [hz2]; omega)
          case b3 => unfold maxLen; omega
          intro w3 hown hgrow
          have hb3 : Below wr.heap.size wr w3 := below_grown hgrow
          have hBW : BW w N wr.heap.size i (fun d => ((st δ ins d + (bk δ (ins.take 0) d).length : Nat) : Int)) ins δ 0 w3 := by
            have hg := hown.lt wr.heap.size rfl
            refine ⟨(HD3.out.kept hb3).congr fun d hd => by rw [if_pos hd]; simp [bk], fun d j _ hj => by simp [bk] at hj, fun k hk => ?_, fun k _ => hown.frozenAt k, HD3.out.bel.size, hg.2, by have := HD3.out.hi; omega⟩
            rw [hown.cellAt k (by omega)]
            exact ⟨_, madeInt i k hk⟩
          have HBW := Lib.hid hBW
          clear hown hgrow hb3 hBW hi hz0 hz1 hz2 HD3
          generalize wr.heap.size = D at *
          go_wp2
          go_loopw [12, 13, 45] (fun _ _ v45 wr => ∃ k : Nat, k ≤ i ∧ v45 = .int .i64 (k : Int) ∧ BW w N D i (fun d => ((st δ ins d + (bk δ (ins.take k) d).length : Nat) : Int)) ins δ k wr) (fun _ _ v45 _ => i - (intOf v45).toNat)
          case atStart => exact ⟨0, Nat.zero_le _, rfl, HBW.out⟩
          case round =>
            obtain ⟨k, hk, rfl, hB⟩ := hrel
            clear HBW
            by_cases hlt : k < i
            · obtain ⟨bb, off, hAe, hbl, hcb⟩ := num_at (HX.out.1.kept hB.cnt.bel) (i := k) (by rw [HX.out.2.1]; exact hlt)
              have hkl : k < ins.length := by rw [HX.out.2.1]; exact hlt
              have hxm : ins.getD k 0 ∈ ins := by simp [List.getD_eq_getElem?_getD, hkl]
              have hd := HX.out.2.2.2 _ hxm
              have hcl := HX.out.2.2.1 wr hB.cnt.bel _ hxm
              have hsn := fun d => bk_get δ ins k hkl d
              have hlt1 := st_bk_lt δ ins k hkl
              have hle1 := st_le δ ins (δ (ins.getD k 0) + 1)
              have hlay := fun q x => (hB.kept (below_drewN wr q)).lay hkl hd HX.out.2.1 x
              rw [HX.out.2.1] at hle1
              have c1 := hB.cnt.cell _ hd
              have z1 := hB.cnt.frz _ hd
              obtain ⟨v2, c2⟩ := hB.had (st δ ins (δ (ins.getD k 0)) + (bk δ (ins.take k) (δ (ins.getD k 0))).length) (by omega)
              have z2 := hB.frz (st δ ins (δ (ins.getD k 0)) + (bk δ (ins.take k) (δ (ins.getD k 0))).length) (by omega)
              have hne := hB.ne
              obtain ⟨x, hx⟩ : ∃ x, x = ins.getD k 0 := ⟨_, rfl⟩
              rw [← hx] at hcb hd hcl hsn hlt1 hle1 hlay c1 z1 c2 z2
              obtain ⟨dx, hdx⟩ : ∃ dx, dx = δ x := ⟨_, rfl⟩
              rw [← hdx] at hd hcl hlt1 hle1 hlay c1 z1 c2 z2
              obtain ⟨ps, hps⟩ : ∃ ps, ps = st δ ins dx + (bk δ (ins.take k) dx).length := ⟨_, rfl⟩
              rw [← hps] at hlt1 hlay c1 c2 z2
              have hpsl : ps < i := by omega
              have HL := Lib.hid (And.intro hlay (And.intro hsn (And.intro hdx hps)))
              have HCL := Lib.hid hcl
              subst hAe
              clear hlay hsn hdx hps hcl hB hx hxm hlt1 hle1 hkl
              have q1 : (k : Int) < (i : Int) := by omega
              have q2 : (0 : Int) ≤ (k : Int) := by omega
              have q3 : (dx : Int) < 256 := by omega
              have q4 : (0 : Int) ≤ (dx : Int) := by omega
              have q5 : (ps : Int) < (i : Int) := by omega
              have q6 : (0 : Int) ≤ (ps : Int) := by omega
              go_wp2_with fail
              (with_reducible refine HCL.out.mono ?_)
              rintro e u1 ⟨rfl, q, rfl⟩
              have c1' : (wr.drewN q).cell? ⟨N, dx, none⟩ = some (.int .i64 (ps : Nat)) := by simpa using c1
              have z1' : (wr.drewN q).frozen? ⟨N, dx, none⟩ = false := by simpa using z1
              have c2' : (wr.drewN q).cell? ⟨D, ps, none⟩ = some v2 := by simpa using c2
              have z2' : (wr.drewN q).frozen? ⟨D, ps, none⟩ = false := by simpa using z2
              have c3' : ∀ v, ((wr.drewN q).setCell ⟨D, ps, none⟩ v).cell? ⟨N, dx, none⟩ = some (.int .i64 (ps : Nat)) := fun v => by rw [World.cell?_setCell_other _ _ _ _ (ne_addr hne)]; exact c1'
              have HL2 := Lib.hid (And.intro (HL.out.1 q ((ps : Int) + 1)) HL.out.2)
              clear c1 z1 c2 z2 HCL HL
              generalize wr.drewN q = wq at *
              go_wp2
              go_roundw
              case rel =>
                obtain ⟨h1, h2, h3, h4⟩ := HL2.out
                refine ⟨k + 1, by omega, by go_num, { h1 with cnt := h1.cnt.congr fun d _ => ?_ }⟩
                rw [h2 d, List.length_append]
                by_cases e : d = dx
                · rw [if_pos e, if_pos (by rw [h3] at e; exact e.symm), h4, e]; rfl
                · rw [if_neg e, if_neg (by rw [h3] at e; exact fun h => e h.symm)]; rfl
              case measure => simp [intOf]; omega
            · obtain rfl : k = i := by omega
              have HF := Lib.hid hB
              clear hB
              go_wp2
              go_ret
              have htk : ins.take k = ins := List.take_of_length_le (by have := HX.out.2.1; omega)
              refine ⟨D, by rw [HX.out.2.1]; rfl, .inr ⟨D, 0, rfl, HF.out.hi, fun j hj => ?_⟩, HF.out.cnt.bel⟩
              rw [bks_length] at hj
              obtain ⟨d, t, h1, h2, rfl⟩ := bks_at δ ins 256 j hj
              have h3 := HF.out.cell d t h1 (by rw [htk]; exact h2)
              rw [htk] at h3
              rw [Nat.zero_add, h3]
              simp only [List.getD_eq_getElem?_getD, bks_get δ ins h2 256 h1]

end Go.Proofs.Ytdepncdknofocaa
