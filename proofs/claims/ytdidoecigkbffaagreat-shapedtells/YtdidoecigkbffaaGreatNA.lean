/- The contract of New. -/
import Derived.Test.YtdidoecigkbffaaGreatMD
set_option maxRecDepth 100000
namespace Go.Proofs.YtdidoecigkbffaaGreat
open Go.RowKit
open S J M

/-- How often each of the first k symbols stands in the row. -/
def cntI (xs : List Int) (c : Nat) : Int := (xs.count (c : Int) : Nat)
def cntL (xs : List Int) (size : Nat) : List Int := (List.range size).map (cntI xs)

theorem cntL_length (xs : List Int) (size : Nat) : (cntL xs size).length = size := by simp [cntL]
theorem cntL_at (xs : List Int) (size c : Nat) (h : c < size) : (cntL xs size).getD c 0 = cntI xs c := by simp [cntL, List.getD_eq_getElem?_getD, h]
theorem cntI_snoc (xs : List Int) (i : Nat) (h : i < xs.length) (c : Nat) : cntI (xs.take (i + 1)) c = if (c : Int) = xs.getD i 0 then cntI (xs.take i) c + 1 else cntI (xs.take i) c := by
  unfold cntI
  rw [List.take_succ_eq_append_getElem h, List.count_append]
  have e : xs.getD i 0 = xs[i] := by simp [List.getD_eq_getElem?_getD, h]
  rw [e, List.count_singleton]
  by_cases e2 : (c : Int) = xs[i]
  · rw [if_pos e2, if_pos (by simpa using e2.symm)]; omega
  · rw [if_neg e2, if_neg (by simpa using fun h => e2 h.symm)]; omega
theorem cntI_le (xs : List Int) (c : Nat) : 0 ≤ cntI xs c ∧ cntI xs c ≤ xs.length := by
  unfold cntI
  have := List.count_le_length (a := (c : Int)) (l := xs)
  omega

/-- The symbol of each code, of the first k symbols. -/
def symN (f : Nat → List Bool) (cn : Nat → Int) : Nat → List Bool → Option Value
  | 0, _ => none
  | k + 1, p => if 0 < cn k then (if p = f k then some (.int .i64 (k : Int)) else symN f cn k p) else symN f cn k p

/-- What a row of symbols is made of. -/
structure SH (w : World) (C sb b : Nat) (size : Nat) (f : Nat → List Bool) (cn : Nat → Int) (ks : List (List Bool)) (cs : List (List Bool)) (Rf : List Bool → RP) (u : World) : Prop where
  codes : ∀ i, i < size → u.cell? ⟨C, i, none⟩ = some (.string (str (f i)))
  syms : ∃ N, MapAt u sb N (symN f cn size)
  parts : ∃ N, PM u b N ks (partB cs) Rf
  keys : ∀ p, p ∈ ks ↔ partB cs p ≠ []
  bel : Below w.heap.size w u

def NewOk (w : World) (xs : List Int) (size : Nat) (e : Ending) (u : World) : Prop :=
  ∃ (C sb b : Nat) (ys : List Hp) (zs : List Int) (ks : List (List Bool)) (Rf : List Bool → RP), e = .returned (.tuple #[.agg #[.int .i64 (xs.length : Int), .slice (some ⟨C, 0, none⟩) size size, .map (some sb), .map (some b)], .int .i64 0]) ∧
    Cod (cntL xs size) size ys zs ∧ SH w C sb b size (codF ys zs) (cntI xs) ks (codesL xs (codF ys zs)) Rf u

theorem codN_len (z : Nat → Int) (d : Nat → Nat) (B : Nat) : ∀ K, (∀ k, k < K → (codeSeq d k).length ≤ B) → ∀ c, (codN z d K c).length ≤ B := by
  intro K
  induction K with
  | zero => intro _ c; simp [codN]
  | succ K ih =>
    intro h c
    show (if (c : Int) = z K then codeSeq d K else codN z d K c).length ≤ B
    split
    · exact h K (by omega)
    · exact ih (fun k hk => h k (by omega)) c

theorem Cod.few {xs : List Int} {n : Nat} {ys : List Hp} {zs : List Int} (h : Cod xs n ys zs) (hl : ys.length ≤ 1) : zs = [] := by
  have hp := same_perm h.same
  have : symL (depF ys) n = [] := by
    apply List.eq_nil_iff_forall_not_mem.2
    intro x hx
    obtain ⟨c, -, -, h3⟩ := symL_mem.1 hx
    rw [h.yo.few hl] at h3
    omega
  rw [this] at hp
  exact List.nil_perm.1 hp

theorem Cod.len {xs : List Int} {n : Nat} {ys : List Hp} {zs : List Int} (h : Cod xs n ys zs) (c : Nat) : (codF ys zs c).length ≤ n := by
  by_cases hl : 2 ≤ ys.length
  · obtain ⟨h1, h2⟩ := h.yo.full hl (same_perm h.same) h.pw
    unfold codF
    apply codN_len
    intro k hk
    rw [(h2.codes k hk).1]
    have h3 := h.yo.dep_le (zs.getD k 0).toNat
    have h4 := h.yo.perm.length_eq
    have h5 := loneL_length xs n
    show depF ys (zs.getD k 0).toNat ≤ n
    omega
  · rw [h.few (by omega)]
    exact Nat.zero_le _

set_option maxHeartbeats 4000000 in
theorem new_ok (A : Option Addr) (n cA size : Nat) (xs : List Int) (w : World) (hx : NumsAt .i64 w A xs) (hl : xs.length = n) (hn : n ≤ 1000) (hxs : ∀ x ∈ xs, 0 ≤ x ∧ x < size) (hs1 : 1 ≤ size) (hs2 : size ≤ 39) :
    Calls Tryz.prog 6 #[.slice A n cA, .int .i64 (size : Int)] w (NewOk w xs size) := by
  have HX := Lib.hid (And.intro hx (And.intro hl hxs))
  clear hx hl hxs
  have q1 : ¬ (size : Int) < 1 := by omega
  have q2 : ¬ (65536 : Int) < (size : Int) := by omega
  obtain ⟨i0, hi, hz0, hz1, hz2⟩ := info_parts info3
  go_enter Tryz.func6, Tryz.ntmps6
  go_wp2_with (first | (at_make; refine wpList_make_full _ rfl _ _ 22 rfl (w.heap.size + 1) 3 i0 (.int .i64 0) 1 Tryz.underlying22 hi hz0 hz1 _ _ _ _ size rfl rfl rfl rfl ?b2 ?b3 (by simp) ?_))
  case b2 => first | omega | (rw [hz2]; omega)
  case b3 => unfold maxLen; omega
  intro w1 hown hgrow
  obtain ⟨wA, hwA⟩ : ∃ wA, wA = w.alloc (.cells #[.int .i64 0, .slice none 0 0, .map none, .map none] 31) := ⟨_, rfl⟩
  have hAs : wA.heap.size = w.heap.size + 1 := by rw [hwA]; simp
  obtain ⟨D, hDe⟩ : ∃ D, D = w.heap.size + 1 := ⟨_, rfl⟩
  have hgA : wA.grownBy w1 none := by rw [hwA]; exact hgrow
  have hD : DI wA D size (fun c => cntI (xs.take 0) c) w1 := by
    rw [hDe]
    have ho : w1.ownsRow (w.heap.size + 1) 3 1 (.slice (some ⟨w.heap.size + 1, 0, none⟩) size size) size (madeCells #[Value.int .i64 0] size).toList := by simpa using hown
    have hg := ho.lt _ rfl
    refine ⟨fun i hi => ?_, fun i _ => ho.frozenAt i, by omega, hg.2, (below_grown hgA).mono (Nat.le_refl _)⟩
    rw [ho.cellAt i (by omega)]
    simpa [cntI] using madeInt size i hi
  have hAb : Below w.heap.size w wA := by rw [hwA]; exact (Below.refl _ _).alloc (Nat.le_refl _) _
  have hAc : wA.cell? ⟨w.heap.size, 0, none⟩ = some (.int .i64 0) ∧ wA.cell? ⟨w.heap.size, 1, none⟩ = some (.slice none 0 0) ∧ wA.cell? ⟨w.heap.size, 2, none⟩ = some (.map none) ∧ wA.cell? ⟨w.heap.size, 3, none⟩ = some (.map none) ∧ (∀ i, wA.frozen? ⟨w.heap.size, i, none⟩ = false) := by
    rw [hwA]
    exact ⟨by rw [cell_new _ _ _ _ _ rfl]; rfl, by rw [cell_new _ _ _ _ _ rfl]; rfl, by rw [cell_new _ _ _ _ _ rfl]; rfl, by rw [cell_new _ _ _ _ _ rfl]; rfl, fun i => frozen_new _ _ _ _ _ rfl⟩
  have hAo : wA.heap[w.heap.size]? = some (.cells #[.int .i64 0, .slice none 0 0, .map none, .map none] 31) := by rw [hwA]; exact heap_alloc_new _ _
  have HAO := Lib.hid hAo
  have HD := Lib.hid (And.intro hD (And.intro hAb (And.intro hAc (And.intro hAs hDe))))
  try simp only [World.size_alloc]
  rw [← hDe]
  clear hown hgrow hgA hD hAb hAc hAs hDe hwA hAo hi hz0 hz1 hz2
  go_wp2
  go_loopw [8, 24] (fun _ v24 wr => ∃ i : Nat, i ≤ n ∧ v24 = .int .i64 (i : Int) ∧ DI wA D size (fun c => cntI (xs.take i) c) wr) (fun _ v24 _ => n - (intOf v24).toNat)
  case atStart => exact ⟨0, Nat.zero_le _, rfl, HD.out.1⟩
  case round =>
    obtain ⟨i, hin, rfl, hDr⟩ := hrel
    by_cases hlt : i < n
    · have hb0 := HD.out.2.1.trans (hDr.bel.mono HD.out.2.1.size)
      obtain ⟨bb, off, hAe, hbl, hcb⟩ := num_at (HX.out.1.kept hb0) (i := i) (by rw [HX.out.2.1]; exact hlt)
      have hxm : xs.getD i 0 ∈ xs := by simp [List.getD_eq_getElem?_getD, HX.out.2.1, hlt]
      have hxb := HX.out.2.2 _ hxm
      obtain ⟨y, hy⟩ : ∃ y : Nat, xs.getD i 0 = (y : Int) := ⟨(xs.getD i 0).toNat, by omega⟩
      have hys : y < size := by omega
      have hsn := fun c => cntI_snoc xs i (by rw [HX.out.2.1]; exact hlt) c
      have c1 := hDr.cell y hys
      have z1 := hDr.frz y hys
      have hle := cntI_le (xs.take i) y
      have hle2 : (xs.take i).length ≤ i := List.length_take_le _ _
      have hset := hDr.set hys (cntI (xs.take i) y + 1)
      have HS := Lib.hid (And.intro hset (And.intro hsn hy))
      subst hAe
      rw [hy] at hcb
      clear hset hsn hDr hxb hxm hy hb0
      obtain ⟨cy, hcy⟩ : ∃ cy, cy = cntI (xs.take i) y := ⟨_, rfl⟩
      rw [← hcy] at c1 hle HS
      have HCY := Lib.hid hcy
      clear hcy
      have q3 : (i : Int) < (n : Int) := by omega
      have q4 : (0 : Int) ≤ (i : Int) := by omega
      have q5 : ¬ (y : Int) < 0 := by omega
      have q6 : ¬ (size : Int) ≤ (y : Int) := by omega
      have q7 : (y : Int) < (size : Int) := by omega
      have q8 : (0 : Int) ≤ (y : Int) := by omega
      go_wp2
      go_roundw
      case rel =>
        refine ⟨i + 1, by omega, by go_num, HS.out.1.congr fun c _ => ?_⟩
        rw [HS.out.2.1 c, HS.out.2.2]
        by_cases e : c = y
        · rw [if_pos e, if_pos (by omega), HCY.out, e]
        · rw [if_neg e, if_neg (by omega)]
      case measure => simp [intOf]; omega
    · obtain rfl : i = n := by omega
      have q3 : ¬ (i : Int) < (i : Int) := by omega
      have hDr2 : DI wA D size (cntI xs) wr := by
        have e : xs.take i = xs := List.take_of_length_le (by have := HX.out.2.1; omega)
        rw [e] at hDr; exact hDr
      have hb0 : Below w.heap.size w wr := HD.out.2.1.trans (hDr.bel.mono HD.out.2.1.size)
      have hnums : NumsAt .i64 wr (some ⟨D, 0, none⟩) (cntL xs size) := by
        refine .inr ⟨D, 0, rfl, hDr2.hi, fun j hj => ?_⟩
        rw [cntL_length] at hj
        rw [Nat.zero_add, cntL_at xs size j hj]
        exact hDr2.cell j hj
      have hco := codes_any (some ⟨D, 0, none⟩) size size (cntL xs size) wr hnums (cntL_length _ _) hs2
      have HCO := Lib.hid hco
      have HDR := Lib.hid (And.intro hDr2 hb0)
      clear hco hnums hDr hDr2 hb0
      have hmm := fun (t : TypeId) (w : World) => (show (Instr.makeMap t none).run Tryz.prog w = .ok (.map (some w.heap.size)) (w.alloc (.map #[] 0)) from rfl)
      go_wp2_with fail
      (with_reducible refine HCO.out.mono ?_)
      rintro e u2 ⟨C, ys, zs, rfl, hcod, hSR⟩
      rw [cntL_length] at hcod hSR
      rw [cntL_length]
      obtain ⟨f, hf⟩ : ∃ f, f = codF ys zs := ⟨_, rfl⟩
      rw [← hf] at hSR
      obtain ⟨sb, hsb⟩ : ∃ sb, sb = u2.heap.size := ⟨_, rfl⟩
      obtain ⟨u3, hu3⟩ : ∃ u3, u3 = u2.alloc (.map #[] 0) := ⟨_, rfl⟩
      have hal : Below u2.heap.size u2 u3 := by rw [hu3]; exact (Below.refl _ _).alloc (Nat.le_refl _) _
      have hm0 : MapAt u3 sb 0 (symN f (cntI xs) 0) := by rw [hu3, hsb]; exact MapAt.made u2
      have hD3 := (HDR.out.1.kept hSR.bel).kept hal
      have hS3 := hSR.kept hal
      have hCs : C < sb := by rw [hsb]; exact hSR.hi
      have hDs : D < sb := by rw [hsb]; exact Nat.lt_of_lt_of_le HDR.out.1.hi hSR.bel.size
      have hsbw : wr.heap.size ≤ sb := by rw [hsb]; exact hSR.bel.size
      have hA3 : Below wA.heap.size wA u3 := (HDR.out.1.bel.trans (hSR.bel.mono HDR.out.1.bel.size)).trans (hal.mono (Nat.le_trans HDR.out.1.bel.size hSR.bel.size))
      have hsbA : wA.heap.size ≤ sb := Nat.le_trans HDR.out.1.bel.size hsbw
      have hCw : w.heap.size < C := by have := hSR.lo; have := HDR.out.1.bel.size; have := HD.out.2.2.2.1; omega
      have HA3 := Lib.hid (And.intro hA3 hsbA)
      have HCw := Lib.hid hCw
      have HU := Lib.hid (And.intro hm0 (And.intro hD3 (And.intro hS3 (And.intro hcod (And.intro hf hsb)))))
      have HU3 := Lib.hid (And.intro hu3 hsb)
      clear hm0 hD3 hS3 hcod hf hSR hal HCO hA3 hsbA hsbw hCw
      go_wp2
      rw [← HU3.out.1, ← HU3.out.2]
      clear hu3 hsb hmm
      go_loopw [11, 12, 48] (fun _ _ v48 wq => ∃ k N : Nat, k ≤ size ∧ N ≤ k ∧ v48 = .int .i64 (k : Int) ∧ MapAt wq sb N (symN f (cntI xs) k) ∧ Kp (fun b => b = sb) u3 wq) (fun _ _ v48 _ => size - (intOf v48).toNat)
      case atStart => exact ⟨0, 0, Nat.zero_le _, Nat.le_refl _, rfl, HU.out.1, Kp.refl _ _⟩
      case round =>
        obtain ⟨k, N, hks, hNk, rfl, hm, hK⟩ := hrel
        by_cases hkl : k < size
        · have c1 : wr.cell? ⟨D, k, none⟩ = some (.int .i64 (cntI xs k)) := by
            rw [hK.cell (p := ⟨D, k, none⟩) HU.out.2.1.hi (fun e => by simp only at e; omega)]; exact HU.out.2.1.cell k hkl
          have c2 : wr.cell? ⟨C, k, none⟩ = some (.string (str (f k))) := by
            rw [hK.cell (p := ⟨C, k, none⟩) HU.out.2.2.1.hi (fun e => by simp only at e; omega)]; exact HU.out.2.2.1.cell k hkl
          have q4 : (k : Int) < (size : Int) := by omega
          have q5 : (0 : Int) ≤ (k : Int) := by omega
          by_cases hpos : 0 < cntI xs k
          · have hfl : (f k).length ≤ 1000 := by have := HU.out.2.2.2.1.len k; rw [HU.out.2.2.2.2.1]; omega
            obtain ⟨u7, hrun, hm7, hg7⟩ := hm.put (t := 28) (e := 3) Tryz.underlying28 (by omega) (f k) hfl (.int .i64 (k : Int))
            have hk7 : Kp (fun b => b = sb) u3 u7 := hK.trans ⟨hg7.os, hg7.tape, hg7.output, hg7.size, fun b hb hx => hg7.block b hb (fun e => hx (by cases e; rfl))⟩
            have hsy : symN f (cntI xs) (k + 1) = fun p => if p = f k then some (.int .i64 (k : Int)) else symN f (cntI xs) k p := by
              funext p
              show (if 0 < cntI xs k then _ else _) = _
              rw [if_pos hpos]
            have H7 := Lib.hid (And.intro hm7 (And.intro hk7 hsy))
            clear hm7 hk7 hsy hg7 hm hK
            generalize cntI xs k = ck at *
            go_wp2
            go_roundw
            case rel => exact ⟨k + 1, N + 1, by omega, by omega, by go_num, by rw [H7.out.2.2]; exact H7.out.1, H7.out.2.1⟩
            case measure => simp [intOf]; omega
          · have hsy : symN f (cntI xs) (k + 1) = symN f (cntI xs) k := by
              funext p
              show (if 0 < cntI xs k then _ else _) = _
              rw [if_neg hpos]
            have H7 := Lib.hid (And.intro hm (And.intro hK hsy))
            clear hsy hm hK
            generalize cntI xs k = ck at *
            go_wp2
            go_roundw
            case rel => exact ⟨k + 1, N, by omega, by omega, by go_num, by rw [H7.out.2.2]; exact H7.out.1, H7.out.2.1⟩
            case measure => simp [intOf]; omega
        · obtain rfl : k = size := by omega
          have q4 : ¬ (k : Int) < (k : Int) := by omega
          have hAq : Below wA.heap.size wA wr := HA3.out.1.trans (hK.toBelow HA3.out.1.size (fun b hb e => by have := HA3.out.2; omega))
          have hbq : Below w.heap.size w wr := HD.out.2.1.trans (hAq.mono HD.out.2.1.size)
          have hpw := parts_walk A i cA C k xs f wr (HX.out.1.kept hbq) HX.out.2.1 hn HX.out.2.2 (fun j hj => by
            rw [hK.cell (p := ⟨C, j, none⟩) HU.out.2.2.1.hi (fun e => by simp only at e; omega)]; exact HU.out.2.2.1.cell j hj) (fun j => by have := HU.out.2.2.2.1.len j; rw [HU.out.2.2.2.2.1]; omega)
          have HPW := Lib.hid hpw
          have HM := Lib.hid (And.intro hm (And.intro hK (And.intro hbq hAq)))
          clear hpw hm hK hbq hAq
          go_wp2_with fail
          (with_reducible refine HPW.out.mono ?_)
          rintro e u9 ⟨b, NP, ks, Rf, rfl, hPM, hks, hbb, hb9⟩
          have hA9 : Below wA.heap.size wA u9 := HM.out.2.2.2.trans (hb9.mono HM.out.2.2.2.size)
          have hlA : w.heap.size < wA.heap.size := by have := HD.out.2.2.2.1; omega
          obtain ⟨a0, a1, a2, a3, az⟩ := HD.out.2.2.1
          have x0 : u9.cell? ⟨w.heap.size, 0, none⟩ = some (.int .i64 0) := by rw [hA9.cell (p := ⟨w.heap.size, 0, none⟩) hlA]; exact a0
          have x1 : u9.cell? ⟨w.heap.size, 1, none⟩ = some (.slice none 0 0) := by rw [hA9.cell (p := ⟨w.heap.size, 1, none⟩) hlA]; exact a1
          have x2 : u9.cell? ⟨w.heap.size, 2, none⟩ = some (.map none) := by rw [hA9.cell (p := ⟨w.heap.size, 2, none⟩) hlA]; exact a2
          have x3 : u9.cell? ⟨w.heap.size, 3, none⟩ = some (.map none) := by rw [hA9.cell (p := ⟨w.heap.size, 3, none⟩) hlA]; exact a3
          have z0 : u9.frozen? ⟨w.heap.size, 0, none⟩ = false := by rw [hA9.frozen (p := ⟨w.heap.size, 0, none⟩) hlA]; exact az 0
          have z1 : u9.frozen? ⟨w.heap.size, 1, none⟩ = false := by rw [hA9.frozen (p := ⟨w.heap.size, 1, none⟩) hlA]; exact az 1
          have z2 : u9.frozen? ⟨w.heap.size, 2, none⟩ = false := by rw [hA9.frozen (p := ⟨w.heap.size, 2, none⟩) hlA]; exact az 2
          have z3 : u9.frozen? ⟨w.heap.size, 3, none⟩ = false := by rw [hA9.frozen (p := ⟨w.heap.size, 3, none⟩) hlA]; exact az 3
          have H9 := Lib.hid (And.intro hPM (And.intro hks (And.intro hb9 (And.intro hA9 (And.intro hlA hbb)))))
          clear hPM hks hb9 hA9 a0 a1 a2 a3 az hbb hlA
          go_wp2
          refine bodyPost_ret (v := .tuple #[.agg #[.int .i64 (i : Int), .slice (some ⟨C, 0, none⟩) k k, .map (some sb), .map (some b)], .int .i64 0]) (by simp [results, Tryz.results6, go_sem, x0, x1, x2, x3]) rfl ?_
          obtain ⟨hPM, hks, hb9, hA9, hlA, hbb⟩ := H9.out
          have hk : ∀ (U : World) (p : Addr) (v : Value), p.block = w.heap.size → Kp (fun k => k = w.heap.size) U (U.setCell p v) := fun U p v hp => Kp.setCell (X := fun k => k = w.heap.size) (Kp.refl _ U) (.inl hp) v
          have hk10 := (((hk u9 ⟨w.heap.size, 0, none⟩ (.int .i64 (i : Int)) rfl).trans (hk _ ⟨w.heap.size, 1, none⟩ (.slice (some ⟨C, 0, none⟩) k k) rfl)).trans (hk _ ⟨w.heap.size, 2, none⟩ (.map (some sb)) rfl)).trans (hk _ ⟨w.heap.size, 3, none⟩ (.map (some b)) rfl)
          have hwA9 := hA9.size
          have hs9 := HM.out.2.2.2.size
          refine ⟨C, sb, b, ys, zs, ks, Rf, by rw [HX.out.2.1], by have := HU.out.2.2.2.1; exact this, ⟨fun j hj => ?_, ⟨N, ?_⟩, ⟨NP, ?_⟩, ?_, ?_⟩⟩
          · rw [← HU.out.2.2.2.2.1]
            have h1 := HU.out.2.2.1.cell j hj
            have h2 : wr.cell? ⟨C, j, none⟩ = some (.string (str (f j))) := by rw [HM.out.2.1.cell (p := ⟨C, j, none⟩) HU.out.2.2.1.hi (fun e => by simp only at e; omega)]; exact h1
            have h3 : u9.cell? ⟨C, j, none⟩ = some (.string (str (f j))) := by rw [hb9.cell (p := ⟨C, j, none⟩) (World.block_lt_of_cell? wr _ h2)]; exact h2
            rw [hk10.cell (p := ⟨C, j, none⟩) (World.block_lt_of_cell? u9 _ h3) (fun e => by have := HCw.out; simp only at e; omega)]
            exact h3
          · rw [← HU.out.2.2.2.2.1]
            exact (HM.out.1.kept hb9).kp hk10 (fun e => by have := HA3.out.2; omega)
          · rw [← HU.out.2.2.2.2.1]
            refine ⟨hPM.map.kp hk10 (fun e => by omega), fun l hl => (hPM.rk l hl).kpT hk10 (fun q e cs t h => ?_), hPM.nd⟩
            rw [e, hA9.block _ hlA, HAO.out] at h
            cases h
          · rw [← HU.out.2.2.2.2.1]; exact hks
          · exact (HM.out.2.2.1.trans (hb9.mono HM.out.2.2.1.size)).trans (hk10.toBelow (Nat.le_trans HM.out.2.2.1.size hb9.size) (fun q hq e => by omega))

end Go.Proofs.YtdidoecigkbffaaGreat
