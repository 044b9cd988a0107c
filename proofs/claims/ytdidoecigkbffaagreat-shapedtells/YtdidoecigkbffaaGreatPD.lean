/- The contract of Rank. -/
import Derived.Test.YtdidoecigkbffaaGreatPC
set_option maxRecDepth 100000
namespace Go.Proofs.YtdidoecigkbffaaGreat
open Go.RowKit
open S J M
attribute [local go_sem ↓] Go.wp_at_zero Go.wp_at_succ

theorem zero56 (w : World) : (zeroValue 56).run Tryz.prog w = .ok (.agg #[.int .i64 0, .slice none 0 0, .int .i64 0, .int .i64 0, .int .i64 0, .slice none 0 0]) w := by kernel_rfl
theorem lo_nat (n x : Nat) (h : x ≤ n) : lo n (x : Int) = x := by unfold lo; omega
theorem take_snocB (l : List Bool) (k : Nat) (h : k < l.length) : l.take (k + 1) = l.take k ++ [l.getD k false] := by
  rw [List.take_succ_eq_append_getElem h]
  simp [List.getD_eq_getElem?_getD, h]

variable {w u u' : World} {C sb b size : Nat} {xs : List Int} {f : Nat → List Bool} {ks : List (List Bool)} {Rf : List Bool → RP} {bx n : Nat}
/-- The part of what begins a code. -/
theorem SX.part (h : SX u C sb b size xs f ks Rf) {c : Int} (hc : c ∈ xs) {k : Nat} (hk : k < (f c.toNat).length) (hl : (f c.toNat).length ≤ 1000) :
    (Instr.lookup 29 (.map (some b)) (.string (str ((f c.toNat).take k))) false).run Tryz.prog u = .ok (rv (Rf ((f c.toNat).take k))) u ∧ RK u (Rf ((f c.toNat).take k)) (partB (codesL xs f) ((f c.toNat).take k)) := by
  obtain ⟨N, hp⟩ := h.parts
  have hm : (f c.toNat).take k ∈ ks := by
    rw [h.keys]
    intro e
    have hmem : f c.toNat ∈ codesL xs f := List.mem_map.2 ⟨c, hc, rfl⟩
    have hn : nxt ((f c.toNat).take k) (f c.toNat) ≠ [] := (nxt_ne _ _).2 (by rw [List.length_take, Nat.min_eq_left (by omega)]; exact ⟨hk, rfl⟩)
    apply hn
    unfold partB at e
    rw [List.flatMap_eq_nil_iff] at e
    exact e _ hmem
  refine ⟨?_, hp.rk _ hm⟩
  rw [hp.map.look (t := 29) (e := 56) Tryz.underlying29 zero56 _ (by rw [List.length_take]; omega), if_pos hm]; rfl

/-- One digit on. -/
theorem step_rank (hF : FR xs size f) {c : Int} (hc : c ∈ xs) {k : Nat} (hk : k < (f c.toNat).length) (t : Nat) (d : Bool) (hd : d = (f c.toNat).getD k false) :
    rkN d (partB (codesL xs f) ((f c.toNat).take k)) (lo (partB (codesL xs f) ((f c.toNat).take k)).length ((bgn ((codesL xs f).take t) ((f c.toNat).take k) : Nat) : Int)) = bgn ((codesL xs f).take t) ((f c.toNat).take (k + 1)) := by
  have h1 := part_rank (codesL xs f) ((f c.toNat).take k) t d (hF.part hc hk)
  rw [lo_nat _ _ h1.1, h1.2, take_snocB _ k hk, hd]

/-- A row in its box, beside an iterator. -/
structure SI (w : World) (bx n C sb b size : Nat) (xs : List Int) (f : Nat → List Bool) (ks : List (List Bool)) (Rf : List Bool → RP) (ib : Nat) (s : ByteArray) (k : Nat) (u : World) : Prop where
  sb : SB w bx n C sb b size xs f ks Rf u
  it : u.heap[ib]? = some (.stringIter s k)
theorem SI.kept {ib k : Nat} {s : ByteArray} (h : SI w bx n C sb b size xs f ks Rf ib s k u) (hb : Below u.heap.size u u') : SI w bx n C sb b size xs f ks Rf ib s k u' :=
  ⟨h.sb.kept hb, by rw [hb.block ib (Array.getElem?_eq_some_iff.1 h.it).1]; exact h.it⟩
theorem SI.drew {ib k : Nat} {s : ByteArray} (h : SI w bx n C sb b size xs f ks Rf ib s k u) : SI w bx n C sb b size xs f ks Rf ib s k u.drew := h.kept ((Below.refl _ _).drew)

set_option maxHeartbeats 8000000 in
theorem srank_any (c i : Int) (h : SX w C sb b size xs f ks Rf) (hF : FR xs size f) (hsz : size ≤ 39) (hn : xs.length = n) (hn2 : n ≤ 1000) : Calls Tryz.prog 18 #[.agg #[.int .i64 (n : Int), .slice (some ⟨C, 0, none⟩) size size, .map (some sb), .map (some b)], .int .i64 c, .int .i64 i] w fun e w' => e = .returned (.int .i64 ((xs.take (lo n i)).count c : Nat)) ∧ Below w.heap.size w w' := by
  obtain ⟨r, hr⟩ : ∃ r, r = (xs.take (lo n i)).count c := ⟨_, rfl⟩
  rw [← hr]
  have HR := Lib.hid hr
  clear hr
  have hS := SB.new n h
  have hst := stands_any n c hS.sx hF hsz
  obtain ⟨w0, hw0⟩ : ∃ w0, w0 = w.alloc (.cells #[.int .i64 (n : Int), .slice (some ⟨C, 0, none⟩) size size, .map (some sb), .map (some b)] 31) := ⟨_, rfl⟩
  obtain ⟨bx, hbx⟩ : ∃ bx, bx = w.heap.size := ⟨_, rfl⟩
  rw [← hw0] at hS hst
  rw [← hbx] at hS
  have HS := Lib.hid hS
  have HST := Lib.hid hst
  have HF := Lib.hid (And.intro hF hn)
  have hbxw : w.heap.size ≤ bx := by omega
  clear hst h hF hn
  have l0 := hS.c0
  have l1 := hS.c1
  have l2 := hS.c2
  have l3 := hS.c3
  clear hS
  go_enter Tryz.func18, Tryz.ntmps18
  go_upto_region 1 with fail
  rw [← hw0, ← hbx]
  clear hw0 hbx
  go_wp2_with fail
  (with_reducible refine HST.out.mono ?_)
  rintro e u1 ⟨rfl, hb1⟩
  have hS1 := HS.out.kept hb1
  clear l0 l1 l2 l3 hb1 HST HS
  by_cases hc : c ∈ xs
  · rw [decide_eq_true hc]
    have hin := HF.out.1.isIn c hc
    obtain ⟨cn, rfl⟩ : ∃ cn : Nat, c = (cn : Int) := ⟨c.toNat, by omega⟩
    have hcn : cn < size := by omega
    obtain ⟨t, ht⟩ : ∃ t, t = lo n i := ⟨_, rfl⟩
    have hmin : min (max i 0) (n : Int) = (t : Int) := by rw [ht]; unfold lo; omega
    have htn : t ≤ n := by rw [ht]; unfold lo; omega
    have hwh := HF.out.1.whole hc t
    have hr := HR.out
    rw [← ht, ← hwh] at hr
    clear ht hwh HR
    have hb0 : bgn ((codesL xs f).take t) ((f cn).take 0) = t := by
      rw [List.take_zero, bgn_nil, List.length_take]
      unfold codesL
      rw [List.length_map, HF.out.2]; omega
    have hstep := fun k (hk : k < (f cn).length) d hd => step_rank HF.out.1 hc (k := k) hk t d hd
    have hlen := HF.out.1.len cn
    have hpart := fun (u : World) (h : SX u C sb b size xs f ks Rf) k (hk : k < (f cn).length) => h.part hc (k := k) hk (by rw [Int.toNat_natCast]; omega)
    rw [Int.toNat_natCast] at hstep hpart hr
    obtain ⟨code, hcode⟩ : ∃ code, code = f cn := ⟨_, rfl⟩
    have l4 := hS1.sx.codes cn hcn
    rw [← hcode] at hstep hpart hlen hb0 l4 hr
    have l0 := hS1.c0
    have l1 := hS1.c1
    have HP := Lib.hid (And.intro hstep (And.intro hpart hb0))
    have HS1 := Lib.hid hS1
    clear hstep hpart hb0 hS1 hcode hin
    obtain ⟨g, hg⟩ : ∃ g : List Bool → Nat, g = bgn ((codesL xs f).take t) := ⟨_, rfl⟩
    rw [← hg] at HP hr
    have HR := Lib.hid hr
    clear hg hr
    have q1 : (cn : Int) < (size : Int) := by omega
    have q2 : (0 : Int) ≤ (cn : Int) := by omega
    go_upto_region 3 with fail
    go_cut [2] from 14 to 18 (fun v2 wx => v2 = .int .i64 (t : Int) ∧ wx = u1)
    case first =>
      clear HP HR HS1
      by_cases h0 : i < 0
      · have e0 : t = 0 := by omega
        subst e0
        by_cases h1 : (n : Int) < 0
        · omega
        · go_wp2
          all_goals go_meet
          all_goals first | exact ⟨rfl, rfl⟩ | (refine ⟨?_, rfl⟩; simp only [Value.int.injEq, true_and]; omega)
      · by_cases h1 : (n : Int) < i
        · have e0 : t = n := by omega
          subst e0
          go_wp2
          all_goals go_meet
          all_goals first | exact ⟨rfl, rfl⟩ | (refine ⟨?_, rfl⟩; simp only [Value.int.injEq, true_and]; omega)
        · obtain rfl : i = (t : Int) := by omega
          go_wp2
          all_goals go_meet
          all_goals first | exact ⟨rfl, rfl⟩ | (refine ⟨?_, rfl⟩; simp only [Value.int.injEq, true_and]; omega)
    case rest =>
    obtain ⟨rfl, hwx⟩ := hcut
    rw [hwx]
    clear hwx
    go_wp2
    obtain ⟨ib, hib⟩ : ∃ ib, ib = u1.heap.size := ⟨_, rfl⟩
    obtain ⟨wi, hwi⟩ : ∃ wi, wi = u1.alloc (.stringIter (str code) 0) := ⟨_, rfl⟩
    have hit : wi.heap[ib]? = some (.stringIter (str code) 0) := by rw [hwi, hib]; exact heap_alloc_new _ _
    have hSi : SB w bx n C sb b size xs f ks Rf wi := by rw [hwi]; exact HS1.out.kept ((Below.refl _ _).alloc (Nat.le_refl _) _)
    have hibw : w.heap.size ≤ ib := by rw [hib]; exact HS1.out.bel.size
    try rw [show u1.iter (str code) 0 = wi from hwi.symm]
    try rw [← hwi]
    rw [← hib]
    have HI := Lib.hid (And.intro hit hSi)
    clear hit hSi hib hwi l0 l1 l4 HS1
    go_loopw [2, 8, 9] (fun v2 _ _ wq => ∃ k : Nat, k ≤ code.length ∧ v2 = .int .i64 (g (code.take k) : Nat) ∧ wq.heap[ib]? = some (.stringIter (str code) k) ∧ SB w bx n C sb b size xs f ks Rf wq) (fun _ _ _ wq => code.length - wq.iterPos ib)
    case atStart => exact ⟨0, Nat.zero_le _, by rw [HP.out.2.2], HI.out.1, HI.out.2⟩
    case round =>
      obtain ⟨k, hkc, rfl, hit, hSB⟩ := hrel
      clear HI
      have hpos0 : wr.iterPos ib = k := by simp [World.iterPos, hit]
      by_cases hkl : k < code.length
      · have hsz' : k < (str code).size := by rw [str_size]; exact hkl
        have hnx0 := fun ty => Lib.run_next_ascii_at (P := Tryz.prog) wr ib (str code) k ty hit hsz' (by rw [str_at code k hkl hsz']; cases code.getD k false <;> decide)
        rw [str_at code k hkl hsz', dig_nat] at hnx0
        obtain ⟨w1, hw1⟩ : ∃ w1, w1 = wr.iterAt ib (str code) (k + 1) := ⟨_, rfl⟩
        rw [← hw1] at hnx0
        have hS2 : SB w bx n C sb b size xs f ks Rf w1 := by rw [hw1]; exact hSB.iter hit hibw
        have hit1 : w1.heap[ib]? = some (.stringIter (str code) (k + 1)) := by rw [hw1]; exact Lib.iterAt_heap _ _ _ _ _ hit
        have hex := str_take code k
        have q5 : (k : Int) ≤ ((str code).size : Int) := by omega
        have q6 : (0 : Int) ≤ (k : Int) := by omega
        obtain ⟨bit, hbit⟩ : ∃ bit, bit = code.getD k false := ⟨_, rfl⟩
        rw [← hbit] at hnx0
        have hstp := HP.out.1 k hkl bit hbit
        have hpt := fun u h => HP.out.2.1 u h k hkl
        obtain ⟨p, hp⟩ : ∃ p, p = code.take k := ⟨_, rfl⟩
        rw [← hp] at hex hstp hpt ⊢
        obtain ⟨L, hL⟩ : ∃ L, L = partB (codesL xs f) p := ⟨_, rfl⟩
        rw [← hL] at hstp hpt
        obtain ⟨R, hR⟩ : ∃ R, R = Rf p := ⟨_, rfl⟩
        rw [← hR] at hpt
        have l3 := hS2.c3
        have l4 := (hpt _ hS2.sx).1
        unfold rv at l4 hpt
        have HPT := Lib.hid hpt
        have HSTP := Lib.hid hstp
        have hA := Lib.hid (show SI w bx n C sb b size xs f ks Rf ib (str code) (k + 1) w1 from ⟨hS2, hit1⟩)
        have HPS := Lib.hid hpos0
        clear hit hSB hw1 hit1 hstp hpt hbit hp hL hR hpos0 hS2
        generalize g p = ik at *
        cases bit
        · have hrk := fun (u : World) (h : SI w bx n C sb b size xs f ks Rf ib (str code) (k + 1) u) => rank0_any R L (ik : Int) u (HPT.out u h.sb.sx).2
          unfold rk0 at hrk
          rw [HSTP.out] at hrk
          have hrk2 := fun (u : World) (h : SI w bx n C sb b size xs f ks Rf ib (str code) (k + 1) u) => (hrk u h).mono fun e u' hh => And.intro hh.1 (h.kept hh.2)
          have HRK := Lib.hid hrk2
          clear hrk hrk2
          obtain ⟨ik', hgk⟩ : ∃ ik', ik' = g (code.take (k + 1)) := ⟨_, rfl⟩
          rw [← hgk] at HRK
          have HGK := Lib.hid hgk
          clear hgk HSTP
          go_wp2
          go_region_held3 (fun w' => w'.cell? ⟨bx, 3, none⟩ = some (.map (some b)) ∧ (Instr.lookup 29 (.map (some b)) (.string (str p)) false).run Tryz.prog w' = .ok (.agg #[.int .i64 (R.n : Int), .slice R.a R.m R.c, .int .i64 (R.cn : Int), .int .i64 (R.cW : Int), .int .i64 (R.cL : Int), .slice R.a2 R.m2 R.c2]) w')
            (first
              | (with_reducible exact ⟨hA.out.sb.c3, (HPT.out _ hA.out.sb.sx).1⟩)
              | (with_reducible exact ⟨hA.out.drew.sb.c3, (HPT.out _ hA.out.drew.sb.sx).1⟩)
              | go_keep)
            (first
              | (go_at_call 29; (with_reducible refine (HRK.out _ hA.out.drew).mono ?_); rintro e u ⟨rfl, hA'⟩; have hA := Lib.hid hA'; clear hA')
              | (go_at_call 29; (with_reducible refine (HRK.out _ hA.out).mono ?_); rintro e u ⟨rfl, hA'⟩; have hA := Lib.hid hA'; clear hA'))
          all_goals
            have HF2 := Lib.hid (And.intro hA.out.sb hA.out.it)
            clear hA
            go_wp2
            go_roundw
            case rel => exact ⟨k + 1, by omega, by rw [← HGK.out], HF2.out.2, HF2.out.1⟩
            case measure =>
              have e1 : u.iterPos ib = k + 1 := by simp [World.iterPos, HF2.out.2]
              rw [e1, HPS.out]; omega
        · have hrk := fun (u : World) (h : SI w bx n C sb b size xs f ks Rf ib (str code) (k + 1) u) => rank1_any R L (ik : Int) u (HPT.out u h.sb.sx).2
          unfold rk1 at hrk
          rw [HSTP.out] at hrk
          have hrk2 := fun (u : World) (h : SI w bx n C sb b size xs f ks Rf ib (str code) (k + 1) u) => (hrk u h).mono fun e u' hh => And.intro hh.1 (h.kept hh.2)
          have HRK := Lib.hid hrk2
          clear hrk hrk2
          obtain ⟨ik', hgk⟩ : ∃ ik', ik' = g (code.take (k + 1)) := ⟨_, rfl⟩
          rw [← hgk] at HRK
          have HGK := Lib.hid hgk
          clear hgk HSTP
          go_wp2
          go_region_held3 (fun w' => w'.cell? ⟨bx, 3, none⟩ = some (.map (some b)) ∧ (Instr.lookup 29 (.map (some b)) (.string (str p)) false).run Tryz.prog w' = .ok (.agg #[.int .i64 (R.n : Int), .slice R.a R.m R.c, .int .i64 (R.cn : Int), .int .i64 (R.cW : Int), .int .i64 (R.cL : Int), .slice R.a2 R.m2 R.c2]) w')
            (first
              | (with_reducible exact ⟨hA.out.sb.c3, (HPT.out _ hA.out.sb.sx).1⟩)
              | (with_reducible exact ⟨hA.out.drew.sb.c3, (HPT.out _ hA.out.drew.sb.sx).1⟩)
              | go_keep)
            (first
              | (go_at_call 28; (with_reducible refine (HRK.out _ hA.out.drew).mono ?_); rintro e u ⟨rfl, hA'⟩; have hA := Lib.hid hA'; clear hA')
              | (go_at_call 28; (with_reducible refine (HRK.out _ hA.out).mono ?_); rintro e u ⟨rfl, hA'⟩; have hA := Lib.hid hA'; clear hA'))
          all_goals
            have HF2 := Lib.hid (And.intro hA.out.sb hA.out.it)
            clear hA
            go_wp2
            go_roundw
            case rel => exact ⟨k + 1, by omega, by rw [← HGK.out], HF2.out.2, HF2.out.1⟩
            case measure =>
              have e1 : u.iterPos ib = k + 1 := by simp [World.iterPos, HF2.out.2]
              rw [e1, HPS.out]; omega
      · obtain rfl : k = code.length := by omega
        have hnx := fun ty => Lib.run_next_end_at (P := Tryz.prog) wr ib (str code) code.length ty hit (by rw [str_size]; omega)
        have HB := Lib.hid hSB.bel
        rw [List.take_length]
        have hr := HR.out
        clear hSB hit hpos0
        go_wp2
        go_ret
        exact ⟨by rw [HR.out]; rfl, HB.out⟩
  · rw [decide_eq_false hc]
    have h0 : r = 0 := by
      rw [HR.out, List.count_eq_zero]
      exact fun hm => hc (List.mem_of_mem_take hm)
    subst h0
    have HB := Lib.hid hS1.bel
    clear hS1
    go_wp2
    go_ret
    exact ⟨rfl, HB.out⟩

end Go.Proofs.YtdidoecigkbffaaGreat
