/- The contracts of places (with what its closure counts) and of following. -/
import Derived.Test.YtdepncdknofocaaYE
import Derived.StillTailTactics
set_option maxRecDepth 100000
namespace Go.Proofs.Ytdepncdknofocaa
open Go.RowKit
open M
attribute [local go_sem ↓] Go.wp_at_zero Go.wp_at_succ

theorem plcs_take {n i : Nat} (h : i ≤ n) : (plcs n).take i = plcs i := by
  unfold plcs
  rw [← List.map_take, List.take_range, Nat.min_eq_left h]
theorem bkP_succ (δ : Int → Nat) (i d : Nat) : bk δ (plcs (i + 1)) d = bk δ (plcs i) d ++ if δ (i : Int) = d then [(i : Int)] else [] := by
  have h := bk_get δ (plcs (i + 1)) i (by rw [plcs_length]; omega) d
  rw [plcs_take (Nat.le_refl _), plcs_take (by omega), plcs_at _ _ (by omega)] at h
  exact h
theorem bkP_len (δ : Int → Nat) (i d : Nat) : (bk δ (plcs i) d).length ≤ i := by
  have := List.length_filter_le (fun x => decide (δ x = d)) (plcs i)
  rw [plcs_length] at this
  exact this
theorem stP_le (δ : Int → Nat) (n d : Nat) : st δ (plcs n) d ≤ n := by
  have := st_le δ (plcs n) d
  rwa [plcs_length] at this

/-- Places put in buckets by ranks are in the order of the keys. -/
theorem bks_ord {δ κ : Int → Int} {n : Nat} (h : ∀ x y : Nat, x < n → y < n → (δ x < δ y ↔ κ x < κ y)) : ordP δ n = ordP κ n := by
  apply ord_uniq
  · rw [List.pairwise_iff_getElem]
    intro i j hi hj hij
    rw [ordP_length] at hi hj
    have hr := ordP_rise δ n hij hj
    obtain ⟨p, hp, hpn⟩ := ordP_at δ n hi
    obtain ⟨q, hq, hqn⟩ := ordP_at δ n hj
    have e1 : (ordP δ n)[i]'(by rw [ordP_length]; exact hi) = (p : Int) := by
      rw [← hp, List.getD_eq_getElem?_getD, List.getElem?_eq_getElem (by rw [ordP_length]; exact hi), Option.getD_some]
    have e2 : (ordP δ n)[j]'(by rw [ordP_length]; exact hj) = (q : Int) := by
      rw [← hq, List.getD_eq_getElem?_getD, List.getElem?_eq_getElem (by rw [ordP_length]; exact hj), Option.getD_some]
    rw [e1, e2]
    rw [hp, hq] at hr
    have h1 := h p q hpn hqn
    have h2 := h q p hqn hpn
    unfold Ahd
    omega
  · intro x; exact ordP_mem

def cntF (δ : Int → Nat) (i d : Nat) : Int := if d = 0 then 0 else ((bk δ (plcs i) (d - 1)).length : Nat)
def sumF (δ : Int → Nat) (n r d : Nat) : Int := if d ≤ r then ((st δ (plcs n) d : Nat) : Int) else ((bk δ (plcs n) (d - 1)).length : Nat)

set_option maxHeartbeats 4000000 in
theorem tplaces_any (A : Option Addr) (n c : Nat) (l : List Int) (δ : Int → Nat) (w : World) (hA : NumsAt .i64 w A l) (hl : l.length = n) (hn : n ≤ 1000000) (hδ : ∀ i : Nat, i < n → l.getD i 0 = ((δ (i : Int) : Nat) : Int) ∧ δ (i : Int) < n) :
    Calls Try.prog 34 #[.slice A n c] w fun e u => ∃ B, e = .returned (.func (.func 48) #[] #[.pointer (some ⟨B, 0, none⟩)]) ∧ ∃ N, Cn w B N (n + 1) (fun d => ((st δ (plcs n) d : Nat) : Int)) u := by
  have HX := Lib.hid (And.intro hA (And.intro hl hδ))
  obtain ⟨i0, hi, hz0, hz1, hz2⟩ := info_parts info3
  clear hA hl hδ
  have q0 : IntKind.i64.wrap ((n : Int) + 1) = ((n + 1 : Nat) : Int) := by rw [Int.natCast_add]; exact IntWalk.i64_in _ (by omega)
  go_enter Try.func34, Try.ntmps34
  go_wp2_with (first | (at_make; refine wpList_make_full _ rfl _ _ 22 rfl w.heap.size 3 i0 (.int .i64 0) 1 Try.underlying22 hi hz0 hz1 _ _ _ _ (n + 1) rfl rfl rfl rfl ?b2 ?b3 (Nat.le_refl _) ?_))
  case b2 => first | omega | (rw [hz2]; omega)
  case b3 => unfold maxLen; omega
  intro w1 hown hgrow
  have hD := DI.made (Below.refl _ _) hown hgrow
  have hC := Cn.new hD
  have HC := Lib.hid hC
  have hsz := hD.bel.size
  clear hown hgrow hD hi hz0 hz1 hz2 hC q0
  obtain ⟨N, hNe⟩ : ∃ N, N = w.heap.size := ⟨_, rfl⟩
  rw [← hNe] at HC
  rw [← hNe]
  clear hNe
  go_upto_region 2 with fail
  obtain ⟨w2, hw2⟩ : ∃ w2, w2 = w1.alloc (.cells #[.slice (some ⟨N, 0, none⟩) (n + 1) (n + 1)] 22) := ⟨_, rfl⟩
  rw [← hw2] at HC
  rw [← hw2]
  clear hw2
  generalize w1.heap.size = B at *
  go_wp2
  go_loopw [5, 13] (fun _ v13 wr => ∃ i : Nat, i ≤ n ∧ v13 = .int .i64 (i : Int) ∧ Cn w B N (n + 1) (fun d => cntF δ i d) wr) (fun _ v13 _ => n - (intOf v13).toNat)
  case atStart => exact ⟨0, Nat.zero_le _, rfl, HC.out.congr fun d _ => by unfold cntF; split <;> simp [bk, plcs]⟩
  case round =>
    obtain ⟨i, hin, rfl, hCn⟩ := hrel
    clear HC
    by_cases hlt : i < n
    · obtain ⟨bb, off, hAe, -, ck⟩ := num_at (HX.out.1.kept hCn.row.bel) (i := i) (by rw [HX.out.2.1]; exact hlt)
      obtain ⟨hd1, hd2⟩ := HX.out.2.2 i hlt
      rw [hd1] at ck
      have hbs := fun d => bkP_succ δ i d
      have hbl := bkP_len δ i
      obtain ⟨e, he⟩ : ∃ e, δ (i : Int) = e := ⟨_, rfl⟩
      rw [he] at ck hd2
      simp only [he] at hbs
      have hble := hbl e
      obtain ⟨f, hf⟩ : ∃ f, e + 1 = f := ⟨_, rfl⟩
      have c0 := hCn.box
      have c1 := hCn.row.cell f (by omega)
      have z1 := hCn.row.frz f (by omega)
      have hcf : cntF δ i f = ((bk δ (plcs i) e).length : Nat) := by unfold cntF; rw [if_neg (by omega), ← hf, Nat.add_sub_cancel]
      simp only [hcf] at c1
      obtain ⟨y, hy⟩ : ∃ y, (bk δ (plcs i) e).length = y := ⟨_, rfl⟩
      rw [hy] at c1 hble
      have hset := hCn.set (i := f) (by omega) ((y : Int) + 1)
      have HS := Lib.hid (And.intro hset (And.intro hbs (And.intro hf hy)))
      have q1 : (i : Int) < (n : Int) := by omega
      have q2 : (0 : Int) ≤ (i : Int) := by omega
      have q3 : IntKind.i64.wrap ((e : Int) + 1) = (f : Int) := by rw [← hf, Int.natCast_add]; exact IntWalk.i64_in _ (by omega)
      have q4 : (0 : Int) ≤ (f : Int) := by omega
      have q5 : (f : Int) < ((n + 1 : Nat) : Int) := by omega
      have q5' : (f : Int) < (n : Int) + 1 := by omega
      have q6 : IntKind.i64.wrap ((y : Int) + 1) = (y : Int) + 1 := IntWalk.i64_in _ (by omega)
      subst hAe
      clear hCn hd1 hbs hbl he hcf hset hf hy
      go_wp2
      go_roundw
      case rel =>
        obtain ⟨h1, h2, h3, h4⟩ := HS.out
        refine ⟨i + 1, by omega, by go_num, h1.congr fun d _ => ?_⟩
        unfold cntF
        by_cases e1 : d = f
        · rw [if_pos e1, if_neg (by omega), e1, ← h3, Nat.add_sub_cancel, h2, if_pos rfl, List.length_append, h4]
          simp
        · rw [if_neg e1]
          by_cases e0 : d = 0
          · rw [if_pos e0, if_pos e0]
          · rw [if_neg e0, if_neg e0, h2, if_neg (by omega), List.append_nil]
      case measure => simp [intOf]; omega
    · obtain rfl : i = n := by omega
      have q1 : ¬ (i : Int) < (i : Int) := by omega
      have hC2 : Cn w B N (i + 1) (fun d => sumF δ i 0 d) wr := hCn.congr fun d _ => by
        unfold cntF sumF
        by_cases e0 : d = 0
        · rw [if_pos e0, if_pos (by omega), e0, st_zero]; rfl
        · rw [if_neg e0, if_neg (by omega)]
      have HC2 := Lib.hid hC2
      clear hCn hC2
      obtain ⟨n, rfl⟩ : ∃ n, n = i := ⟨_, rfl⟩
      go_wp2
      go_loopw [6, 27] (fun _ v27 wr => ∃ r : Nat, r ≤ n ∧ v27 = .int .i64 (r : Int) ∧ Cn w B N (n + 1) (fun d => sumF δ n r d) wr) (fun _ v27 _ => n - (intOf v27).toNat)
      case atStart => exact ⟨0, Nat.zero_le _, rfl, HC2.out⟩
      case round =>
        obtain ⟨r, hrn, rfl, hCn⟩ := hrel
        clear HC2
        by_cases hlt : r < n
        · have hsu := st_succ δ (plcs n) r
          have hsl := stP_le δ n (r + 1)
          have c0 := hCn.box
          have c1 := hCn.row.cell r (by omega)
          have c2 := hCn.row.cell (r + 1) (by omega)
          have z2 := hCn.row.frz (r + 1) (by omega)
          have e1 : sumF δ n r r = ((st δ (plcs n) r : Nat) : Int) := by unfold sumF; rw [if_pos (Nat.le_refl _)]
          have e2 : sumF δ n r (r + 1) = ((bk δ (plcs n) r).length : Nat) := by unfold sumF; rw [if_neg (by omega), Nat.add_sub_cancel]
          simp only [e1] at c1
          simp only [e2] at c2
          rw [hsu] at hsl
          obtain ⟨x, hx⟩ : ∃ x, st δ (plcs n) r = x := ⟨_, rfl⟩
          obtain ⟨y, hy⟩ : ∃ y, (bk δ (plcs n) r).length = y := ⟨_, rfl⟩
          rw [hx] at c1 hsl
          rw [hy] at c2 hsl
          obtain ⟨f, hf⟩ : ∃ f, r + 1 = f := ⟨_, rfl⟩
          have hset := (hCn.kept ((Below.refl _ _).drew)).set (i := f) (by omega) ((y : Int) + (x : Int))
          rw [hf] at c2 z2
          have HS := Lib.hid (And.intro hset (And.intro hsu (And.intro hf (And.intro hx hy))))
          have q1 : (r : Int) < (n : Int) := by omega
          have q2 : (0 : Int) ≤ (r : Int) := by omega
          have q3 : IntKind.i64.wrap ((r : Int) + 1) = (f : Int) := by rw [← hf, Int.natCast_add]; exact IntWalk.i64_in _ (by omega)
          have q4 : (0 : Int) ≤ (f : Int) := by omega
          have q5 : (f : Int) < (n : Int) + 1 := by omega
          have q6 : IntKind.i64.wrap ((y : Int) + (x : Int)) = (y : Int) + (x : Int) := IntWalk.i64_in _ (by omega)
          have q7 : (r : Int) < (n : Int) + 1 := by omega
          clear hCn hset hsu e1 e2 hx hy
          go_wp2
          go_still_tail 11, (by kernel_rfl)
          change wpList _ _ _ _ _ wr.drew
          have c2' : wr.drew.cell? ⟨N, f, none⟩ = some (.int .i64 (y : Int)) := c2
          have z2' : wr.drew.frozen? ⟨N, f, none⟩ = false := z2
          clear c0 c1 c2 z2
          obtain ⟨w3, hw3⟩ : ∃ w3, w3 = wr.drew := ⟨_, rfl⟩
          rw [← hw3] at c2' z2' HS ⊢
          clear hw3
          go_wp2
          go_roundw
          case rel =>
            obtain ⟨h1, h2, h3, h4, h5⟩ := HS.out
            refine ⟨r + 1, by omega, by go_num, h1.congr fun d _ => ?_⟩
            unfold sumF
            by_cases e1 : d = f
            · rw [if_pos e1, if_pos (by omega), e1, ← h3, h2, h4, h5, Int.natCast_add, Int.add_comm]
            · rw [if_neg e1]
              by_cases e0 : d ≤ r
              · rw [if_pos e0, if_pos (by omega)]
              · rw [if_neg e0, if_neg (by omega)]
          case measure => simp [intOf]; omega
        · obtain rfl : r = n := by omega
          have HF := Lib.hid hCn
          clear hCn
          have q1 : ¬ (r : Int) < (r : Int) := by omega
          go_wp2
          go_ret
          exact ⟨B, rfl, N, HF.out.congr fun d hd => by unfold sumF; rw [if_pos (by omega)]⟩

/-! ## following -/
/-- What following holds: the counts, and the row that it lays. -/
structure FO (w : World) (B N D n : Nat) (δ : Int → Nat) (i : Nat) (u : World) : Prop where
  cn : Cn w B N (n + 1) (fun d => ((st δ (plcs n) d + (bk δ (plcs i) d).length : Nat) : Int)) u
  out : ∃ o, DI w D n o u ∧ ∀ d j, d < n → j < (bk δ (plcs i) d).length → o (st δ (plcs n) d + j) = (bk δ (plcs i) d).getD j 0
  n1 : D ≠ N
  n2 : D ≠ B
theorem stP_lt {δ : Int → Nat} {n i : Nat} (hi : i < n) : st δ (plcs n) (δ (i : Int)) + (bk δ (plcs i) (δ (i : Int))).length < st δ (plcs n) (δ (i : Int) + 1) := by
  have := st_bk_lt δ (plcs n) i (by rw [plcs_length]; exact hi)
  rw [plcs_at n i hi, plcs_take (by omega)] at this
  exact this
theorem FO.lay {w u : World} {B N D n i : Nat} {δ : Int → Nat} (h : FO w B N D n δ i u) (hi : i < n) (hd : δ (i : Int) < n) :
    FO w B N D n δ (i + 1) ((u.setCell ⟨N, δ (i : Int), none⟩ (.int .i64 (((st δ (plcs n) (δ (i : Int)) + (bk δ (plcs i) (δ (i : Int))).length : Nat) : Int) + 1))).setCell ⟨D, st δ (plcs n) (δ (i : Int)) + (bk δ (plcs i) (δ (i : Int))).length, none⟩ (.int .i64 (i : Int))) := by
  have hlt := stP_lt (δ := δ) hi
  have hle := stP_le δ n (δ (i : Int) + 1)
  have hbs := fun d => bkP_succ δ i d
  obtain ⟨e, he⟩ : ∃ e, δ (i : Int) = e := ⟨_, rfl⟩
  rw [he] at hlt hle hd
  simp only [he] at hbs ⊢
  have h1 := h.cn.set (i := e) (by omega) (((st δ (plcs n) e + (bk δ (plcs i) e).length : Nat) : Int) + 1)
  obtain ⟨o, ho, hv⟩ := h.out
  obtain ⟨p, hp⟩ : ∃ p, st δ (plcs n) e + (bk δ (plcs i) e).length = p := ⟨_, rfl⟩
  rw [hp] at h1 hlt ⊢
  have h2 : Cn w B N (n + 1) (fun k => if k = e then (p : Int) + 1 else ((st δ (plcs n) k + (bk δ (plcs i) k).length : Nat) : Int)) ((u.setCell ⟨N, e, none⟩ (.int .i64 ((p : Int) + 1))).setCell ⟨D, p, none⟩ (.int .i64 (i : Int))) :=
    ⟨by rw [World.cell?_setCell_other _ _ _ _ (ne_addr h.n2)]; exact h1.box, h1.row.other (p := ⟨D, p, none⟩) ho.lo h.n1 _, h1.lo, by simpa using h1.hi, h1.ne⟩
  refine ⟨h2.congr fun d _ => ?_, ⟨_, (ho.other (p := ⟨N, e, none⟩) h.cn.row.lo (Ne.symm h.n1) _).set (i := p) (by omega) (i : Int), fun d j hdn hj => ?_⟩, h.n1, h.n2⟩
  · rw [hbs d, List.length_append]
    by_cases e1 : d = e
    · rw [if_pos e1, if_pos e1.symm, e1, ← hp]
      simp only [List.length_singleton]
      omega
    · rw [if_neg e1, if_neg (fun h => e1 h.symm)]; rfl
  · rw [hbs d] at hj ⊢
    by_cases e1 : e = d
    · subst e1
      rw [if_pos rfl] at hj ⊢
      rw [List.length_append, List.length_singleton] at hj
      by_cases ej : j = (bk δ (plcs i) e).length
      · subst ej
        rw [if_pos hp]
        simp [List.getD_eq_getElem?_getD]
      · have hj2 : j < (bk δ (plcs i) e).length := by omega
        rw [if_neg (by omega), hv e j hdn hj2]
        simp [List.getD_eq_getElem?_getD, List.getElem?_append_left hj2]
    · rw [if_neg e1, List.append_nil] at hj ⊢
      have hne : st δ (plcs n) d + j ≠ p := by
        have l1 := bk_le δ (plcs n) i d
        rw [plcs_take (by omega)] at l1
        have l2 := st_succ δ (plcs n) d
        have l3 := st_succ δ (plcs n) e
        rcases Nat.lt_or_gt_of_ne e1 with hlt2 | hlt2
        · have := st_mono δ (plcs n) (show e + 1 ≤ d by omega); omega
        · have := st_mono δ (plcs n) (show d + 1 ≤ e by omega); omega
      rw [if_neg hne, hv d j hdn hj]

set_option maxHeartbeats 4000000 in
theorem following_any (A : Option Addr) (n c : Nat) (b : List Int) (w : World) (hA : NumsAt .i64 w A b) (hl : b.length = n) (hn : n ≤ 100000) (h64 : I64s b) :
    Calls Try.prog 27 #[.slice A n c] w fun e u => ∃ D, e = .returned (.slice (some ⟨D, 0, none⟩) n n) ∧ NumsAt .i64 u (some ⟨D, 0, none⟩) (ordP (kyI b) n) ∧ Below w.heap.size w u := by
  obtain ⟨κ, hκ⟩ : ∃ κ, κ = kyI b := ⟨_, rfl⟩
  have hrk := ranks_any A n c b w hA hl (by omega) h64
  rw [← hκ] at hrk ⊢
  obtain ⟨δ, hδ⟩ : ∃ δ : Int → Nat, δ = fun x => nless κ n (κ x) := ⟨_, rfl⟩
  have hδe : ∀ x, δ x = nless κ n (κ x) := fun x => by rw [hδ]
  clear hδ
  have hd : ∀ i : Nat, i < n → (rnkL κ n).getD i 0 = ((δ (i : Int) : Nat) : Int) ∧ δ (i : Int) < n := fun i hi => ⟨by rw [rnkL_at κ n i hi, hδe], by rw [hδe]; exact nless_below κ n hi⟩
  have hord : bks δ (plcs n) n = ordP κ n := by
    have hb := bks_same δ (plcs n) n (fun x hx => by
      have := plcs_mem.1 hx
      obtain ⟨k, rfl⟩ : ∃ k : Nat, x = (k : Int) := ⟨x.toNat, by omega⟩
      exact (hd k (by omega)).2)
    have h1 : bks δ (plcs n) n = ordP (fun x => ((δ x : Nat) : Int)) n := isort_uniq hb.1 hb.2
    rw [h1]
    apply bks_ord
    intro x y hx hy
    have := (nless_iff κ n hx hy).1
    rw [hδe, hδe]
    omega
  clear hδe hκ
  have HX := Lib.hid (And.intro hrk (And.intro hd (And.intro hord (And.intro hA hl))))
  obtain ⟨i0, hi, hz0, hz1, hz2⟩ := info_parts info3
  clear hA hl hrk hd hord h64
  go_enter Try.func27, Try.ntmps27
  go_wp2_with fail
  (with_reducible refine HX.out.1.mono ?_)
  rintro e u1 ⟨D1, rfl, h1, h2⟩
  have htp := tplaces_any (some ⟨D1, 0, none⟩) n n (rnkL κ n) δ u1 h1 (rnkL_length _ _) (by omega) HX.out.2.1
  have H1 := Lib.hid (And.intro h1 (And.intro h2 htp))
  clear h1 h2 htp
  go_wp2_with fail
  (with_reducible refine H1.out.2.2.mono ?_)
  rintro e u2 ⟨B, rfl, N, hC⟩
  have H2 := Lib.hid hC
  have hs2 := hC.row.bel.size
  have hs1 := H1.out.2.1.size
  clear hC
  go_wp2_with (first | (at_make; refine wpList_make_full _ rfl _ _ 22 rfl u2.heap.size 3 i0 (.int .i64 0) 1 Try.underlying22 hi hz0 hz1 _ _ _ _ n rfl rfl rfl rfl ?b2 ?b3 (Nat.le_refl _) ?_))
  case b2 => first | omega | (rw [hz2]; omega)
  case b3 => unfold maxLen; omega
  intro w3 hown hgrow
  have hb3 : Below u2.heap.size u2 w3 := below_grown hgrow
  have hD := DI.made H2.out.row.bel hown hgrow
  have hFO : FO u1 B N u2.heap.size n δ 0 w3 := by
    refine ⟨(H2.out.kept hb3).congr fun d _ => by simp [bk, plcs], ⟨_, hD, fun d j _ hj => by simp [bk, plcs] at hj⟩, ?_, ?_⟩
    · have := H2.out.row.hi; omega
    · have := H2.out.hi; omega
  have HF := Lib.hid hFO
  clear hown hgrow hb3 hD hFO hi hz0 hz1 hz2 H2
  generalize u2.heap.size = D at *
  go_wp2
  go_loopw [6, 7, 17] (fun _ _ v17 wr => ∃ i : Nat, i ≤ n ∧ v17 = .int .i64 (i : Int) ∧ FO u1 B N D n δ i wr) (fun _ _ v17 _ => n - (intOf v17).toNat)
  case atStart => exact ⟨0, Nat.zero_le _, rfl, HF.out⟩
  case round =>
    obtain ⟨i, hin, rfl, hF⟩ := hrel
    clear HF
    by_cases hlt : i < n
    · obtain ⟨hd1, hd2⟩ := HX.out.2.1 i hlt
      obtain ⟨bb, off, hAe, -, ck⟩ := num_at (H1.out.1.kept hF.cn.row.bel) (i := i) (by rw [rnkL_length]; exact hlt)
      simp only [Option.some.injEq, Addr.mk.injEq, and_true] at hAe
      obtain ⟨rfl, rfl⟩ := hAe
      rw [hd1, Nat.zero_add] at ck
      have hlay := hF.lay hlt hd2
      have hpn := stP_lt (δ := δ) hlt
      have hpe := stP_le δ n (δ (i : Int) + 1)
      have hcl := tplace_any B N (n + 1) (δ (i : Int)) _ u1 wr hF.cn (by omega) (by omega)
      obtain ⟨o, ho, -⟩ := hF.out
      have hn1 := hF.n1
      obtain ⟨e, he⟩ : ∃ e, δ (i : Int) = e := ⟨_, rfl⟩
      rw [he] at ck hlay hpn hcl hd2 hpe
      obtain ⟨p, hp⟩ : ∃ p, st δ (plcs n) e + (bk δ (plcs i) e).length = p := ⟨_, rfl⟩
      rw [hp] at hlay hpn hcl
      have cD := ho.cell p (by omega)
      have zD := ho.frz p (by omega)
      have cD' : (wr.setCell ⟨N, e, none⟩ (.int .i64 ((p : Int) + 1))).cell? ⟨D, p, none⟩ = some (.int .i64 (o p)) := by rw [World.cell?_setCell_other _ _ _ _ (ne_addr hn1.symm)]; exact cD
      have zD' : (wr.setCell ⟨N, e, none⟩ (.int .i64 ((p : Int) + 1))).frozen? ⟨D, p, none⟩ = false := by simpa using zD
      have HL := Lib.hid (And.intro hlay hcl)
      have q1 : (i : Int) < (n : Int) := by omega
      have q2 : (0 : Int) ≤ (i : Int) := by omega
      have q3 : (p : Int) < (n : Int) := by omega
      have q4 : (0 : Int) ≤ (p : Int) := by omega
      generalize o p = ov at *
      clear hd1 hlay hcl ho hn1 he hp cD zD hF hpe
      go_wp2_with fail
      (with_reducible refine HL.out.2.mono ?_)
      rintro e u5 ⟨rfl, rfl⟩
      go_wp2
      go_roundw
      case rel => exact ⟨i + 1, by omega, by go_num, HL.out.1⟩
      case measure => simp [intOf]; omega
    · obtain rfl : i = n := by omega
      have HF := Lib.hid hF
      clear hF
      have q1 : ¬ (i : Int) < (i : Int) := by omega
      go_wp2
      go_ret
      obtain ⟨o, ho, hv⟩ := HF.out.out
      have hall : st δ (plcs i) i = i := by
        have := st_all δ (plcs i) i (fun x hx => by
          have := plcs_mem.1 hx
          obtain ⟨k, rfl⟩ : ∃ k : Nat, x = (k : Int) := ⟨x.toNat, by omega⟩
          exact (HX.out.2.1 k (by omega)).2)
        rwa [plcs_length] at this
      refine ⟨D, rfl, ho.nums (ordP_length _ _) (fun j hj => ?_), H1.out.2.1.trans (ho.bel.mono H1.out.2.1.size)⟩
      obtain ⟨d, j', h1, h2, h3⟩ := bks_at δ (plcs i) i j (by omega)
      have h4 := bks_get δ (plcs i) h2 i h1
      rw [HX.out.2.2.1] at h4
      rw [h3, hv d j' h1 h2, List.getD_eq_getElem?_getD, List.getD_eq_getElem?_getD, h4]

end Go.Proofs.Ytdepncdknofocaa
