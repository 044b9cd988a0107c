/- The contract of At. -/
import Derived.Test.YtdidoecigkbffaaGreatPF
import Derived.Deep.LoopGhost
set_option maxRecDepth 100000
namespace Go.Proofs.YtdidoecigkbffaaGreat
open Go.RowKit
open S J M
attribute [local go_sem ↓] Go.wp_at_zero Go.wp_at_succ

variable {w u u' : World} {C sb b size : Nat} {xs : List Int} {f : Nat → List Bool} {ks : List (List Bool)} {Rf : List Bool → RP} {bx n : Nat}
/-- The digit that stands there. -/
theorem part_at (hF : FR xs size f) {c : Int} (hc : c ∈ xs) {k : Nat} (hk : k < (f c.toNat).length) {P : Nat} (hP : P < xs.length) (hx : xs.getD P 0 = c) :
    (partB (codesL xs f) ((f c.toNat).take k)).getD (bgn ((codesL xs f).take P) ((f c.toNat).take k)) false = (f c.toNat).getD k false := by
  have hno := hF.part hc hk
  obtain ⟨cs, hcs⟩ : ∃ cs, cs = codesL xs f := ⟨_, rfl⟩
  obtain ⟨p, hp⟩ : ∃ p, p = (f c.toNat).take k := ⟨_, rfl⟩
  have hpl : p.length = k := by rw [hp, List.length_take]; omega
  have hl := part_len (cs.take P) p (fun hm => hno (by rw [← hcs, ← hp]; exact List.mem_of_mem_take hm))
  have hPc : P < cs.length := by rw [hcs]; unfold codesL; rw [List.length_map]; exact hP
  have hcP : cs.getD P [] = f c.toNat := by rw [hcs, codes_at xs f P hP, hx]
  have hnx : nxt p (f c.toNat) = [(f c.toNat).getD k false] := by
    unfold nxt nxtK
    rw [if_pos (by rw [hpl, ← hp]; exact ⟨hk, rfl⟩), hpl]
  have hsu := partB_succ cs P hPc p
  rw [hcP, hnx] at hsu
  rw [← hcs, ← hp]
  rw [part_cut cs p (P + 1), hsu, List.append_assoc, ← hl]
  simp [List.getD_eq_getElem?_getD]

theorem str_one (p : List Bool) : str p ++ (⟨#[49]⟩ : ByteArray) = str (p ++ [true]) := by
  rw [← str_append]; rfl
theorem str_zero (p : List Bool) : str p ++ (⟨#[48]⟩ : ByteArray) = str (p ++ [false]) := by
  rw [← str_append]; rfl

theorem sat_no (i : Int) (h : SX w C sb b size xs f ks Rf) (hi : i < 0 ∨ (n : Int) ≤ i) : Calls Tryz.prog 17 #[.agg #[.int .i64 (n : Int), .slice (some ⟨C, 0, none⟩) size size, .map (some sb), .map (some b)], .int .i64 i] w fun e w' => e = .returned (.int .i64 (-1)) ∧ Below w.heap.size w w' := by
  have HB := Lib.hid (SB.new n h).bel
  clear h
  rcases hi with hi | hi
  · go_enter Tryz.func17, Tryz.ntmps17
    go_wp2
    go_ret
    exact ⟨rfl, HB.out⟩
  · have q : ¬ i < 0 := by omega
    go_enter Tryz.func17, Tryz.ntmps17
    go_wp2
    go_ret
    exact ⟨rfl, HB.out⟩

set_option maxHeartbeats 8000000 in
theorem sat_any (P : Nat) (h : SX w C sb b size xs f ks Rf) (hF : FR xs size f) (hsz : size ≤ 39) (hn : xs.length = n) (_hn2 : n ≤ 1000) (hP : P < n) : Calls Tryz.prog 17 #[.agg #[.int .i64 (n : Int), .slice (some ⟨C, 0, none⟩) size size, .map (some sb), .map (some b)], .int .i64 (P : Int)] w fun e w' => e = .returned (.int .i64 (xs.getD P 0)) ∧ Below w.heap.size w w' := by
  obtain ⟨c, hcx⟩ : ∃ c, c = xs.getD P 0 := ⟨_, rfl⟩
  rw [← hcx]
  have hc : c ∈ xs := by rw [hcx]; exact memI xs P (by omega)
  have hS := SB.new n h
  have hin := hF.isIn c hc
  have hlen := hF.len c.toNat
  have hstep := fun k (hk : k < (f c.toNat).length) d hd => step_rank hF hc (k := k) hk P d hd
  have hpart := fun (u : World) (h : SX u C sb b size xs f ks Rf) k (hk : k < (f c.toNat).length) => h.part hc (k := k) hk (by omega)
  have hdig := fun k (hk : k < (f c.toNat).length) => part_at hF hc (k := k) hk (show P < xs.length by omega) hcx.symm
  have hle := fun k (hk : k < (f c.toNat).length) => (part_rank (codesL xs f) ((f c.toNat).take k) P false (hF.part hc hk)).1
  have hsy : ∀ (u : World) (h : SX u C sb b size xs f ks Rf), (Instr.lookup 28 (.map (some sb)) (.string (str (f c.toNat))) true).run Tryz.prog u = .ok (.tuple #[.int .i64 c, .bool true]) u := fun u h => by
    obtain ⟨N, hs⟩ := h.syms
    rw [hs.lookOk (t := 28) (e := 3) Tryz.underlying28 zero3 _ (by omega), hF.sym hc]; rfl
  have hno : ∀ (u : World) (h : SX u C sb b size xs f ks Rf) k, k < (f c.toNat).length → (Instr.lookup 28 (.map (some sb)) (.string (str ((f c.toNat).take k))) true).run Tryz.prog u = .ok (.tuple #[.int .i64 0, .bool false]) u := fun u h k hk => by
    obtain ⟨N, hs⟩ := h.syms
    rw [hs.lookOk (t := 28) (e := 3) Tryz.underlying28 zero3 _ (by rw [List.length_take]; omega), hF.sympart hc hk]; rfl
  have hb0 : bgn ((codesL xs f).take P) ((f c.toNat).take 0) = P := by
    rw [List.take_zero, bgn_nil, List.length_take]
    unfold codesL
    rw [List.length_map, hn]; omega
  obtain ⟨code, hcode⟩ : ∃ code, code = f c.toNat := ⟨_, rfl⟩
  rw [← hcode] at hstep hpart hdig hsy hno hb0 hle hlen
  obtain ⟨g, hg⟩ : ∃ g : List Bool → Nat, g = bgn ((codesL xs f).take P) := ⟨_, rfl⟩
  rw [← hg] at hstep hdig hb0 hle
  obtain ⟨w0, hw0⟩ : ∃ w0, w0 = w.alloc (.cells #[.int .i64 (n : Int), .slice (some ⟨C, 0, none⟩) size size, .map (some sb), .map (some b)] 31) := ⟨_, rfl⟩
  obtain ⟨bx, hbx⟩ : ∃ bx, bx = w.heap.size := ⟨_, rfl⟩
  rw [← hw0, ← hbx] at hS
  have HS := Lib.hid hS
  have HP := Lib.hid (And.intro hstep (And.intro hpart (And.intro hdig (And.intro hsy (And.intro hno (And.intro hb0 hle))))))
  have l0 := hS.c0
  have q1 : (P : Int) < (n : Int) := by omega
  have q2 : ¬ (P : Int) < 0 := by omega
  clear hS h hF hn hin hstep hpart hdig hsy hno hb0 hle hcode hg hcx hc
  go_enter Tryz.func17, Tryz.ntmps17
  go_upto_region 1 with fail
  rw [← hw0, ← hbx]
  clear hw0 hbx
  go_wp2
  clear l0
  go_loopg [1, 5, 6, 7, 8] (code.length + 1) (fun g1 v1 v5 _ _ _ wq => ∃ k : Nat, k ≤ code.length ∧ code.length + 1 - k ≤ g1 ∧ v5 = .string (str (code.take k)) ∧ v1 = .int .i64 (g (code.take k) : Nat) ∧ SB w bx n C sb b size xs f ks Rf wq)
  case atStart => exact ⟨0, Nat.zero_le _, by omega, rfl, by rw [HP.out.2.2.2.2.2.1], HS.out⟩
  case round =>
    obtain ⟨k, hkc, hgk, rfl, rfl, hSB⟩ := hrel
    clear HS
    by_cases hkl : k < code.length
    · have l2 := hSB.c2
      have l3 := hSB.c3
      have k1 := HP.out.2.2.2.2.1 _ hSB.sx k hkl
      have k2 := HP.out.2.1 _ hSB.sx k hkl
      have hd := HP.out.2.2.1 k hkl
      have hle := HP.out.2.2.2.2.2.2 k hkl
      obtain ⟨bit, hbit⟩ : ∃ bit, bit = code.getD k false := ⟨_, rfl⟩
      have hstp := HP.out.1 k hkl bit hbit
      have hsn := take_snocB code k hkl
      rw [← hbit] at hd hsn
      obtain ⟨p, hp⟩ : ∃ p, p = code.take k := ⟨_, rfl⟩
      rw [← hp] at k1 k2 hd hstp hle hsn ⊢
      obtain ⟨Lp, hL⟩ : ∃ Lp, Lp = partB (codesL xs f) p := ⟨_, rfl⟩
      rw [← hL] at k2 hd hstp hle
      obtain ⟨R, hR⟩ : ∃ R, R = Rf p := ⟨_, rfl⟩
      rw [← hR] at k2
      obtain ⟨k2, k3⟩ := k2
      unfold rv at k2
      have hbox := (Below.refl wr.heap.size wr).alloc (Nat.le_refl _) (.cells #[.int .i64 (R.n : Int), .slice R.a R.m R.c, .int .i64 (R.cn : Int), .int .i64 (R.cW : Int), .int .i64 (R.cL : Int), .slice R.a2 R.m2 R.c2] 56)
      have hra := RA.new k3
      have hSB2 := hSB.kept hbox
      have ho : oneI Lp ((g p : Nat) : Int) = if bit then 1 else 0 := by
        unfold oneI getB
        rw [Int.toNat_natCast, hd]
        simp
      have HSTP := Lib.hid (And.intro hstp hsn)
      have HPL := Lib.hid hp
      have HSB := Lib.hid hSB2
      have HRA := Lib.hid hra
      have hone := rone_any R Lp ((g p : Nat) : Int) _ hra.rk
      rw [ho] at hone
      have HONE := Lib.hid hone
      clear hbit hp hL hR hd hstp hsn hle hSB hbox hra hSB2 ho hone k3
      generalize g p = ik at *
      go_wp2_with fail
      (with_reducible refine HONE.out.mono ?_)
      rintro e u1 ⟨rfl, hb1⟩
      have hSB1 := HSB.out.kept hb1
      have hRA1 := HRA.out.kept hb1
      obtain ⟨y0, y1, y2, y3, y4, y5⟩ := hRA1.box
      clear hb1 HONE HSB HRA k1 k2 l2 l3
      have hpl : (str p).size ≤ 1000 := by rw [str_size, HPL.out, List.length_take]; omega
      have a1 : ∀ W : World, (Op.stringOp .add (str p) ⟨#[49]⟩).run Tryz.prog W = .ok (.string (str p ++ ⟨#[49]⟩)) W := fun W => run_string_add W _ _ (by omega) (by decide)
      have a0 : ∀ W : World, (Op.stringOp .add (str p) ⟨#[48]⟩).run Tryz.prog W = .ok (.string (str p ++ ⟨#[48]⟩)) W := fun W => run_string_add W _ _ (by omega) (by decide)
      clear hpl
      cases bit
      · have hrk := rank0_any R Lp (ik : Int) u1 hRA1.rk
        unfold rk0 at hrk
        rw [HSTP.out.1] at hrk
        have HRK := Lib.hid hrk
        have HSB1 := Lib.hid hSB1
        clear hrk hRA1 hSB1
        obtain ⟨ik', hik'⟩ : ∃ ik', ik' = g (code.take (k + 1)) := ⟨_, rfl⟩
        rw [← hik'] at HRK
        have HIK := Lib.hid hik'
        clear hik'
        go_wp2_with fail
        (with_reducible refine HRK.out.mono ?_)
        rintro e u2 ⟨rfl, hb2⟩
        have HF2 := Lib.hid (HSB1.out.kept hb2)
        clear hb2
        go_wp2
        go_roundg (gk - 1)
        case rel => exact ⟨k + 1, by omega, by omega, by rw [str_zero, HSTP.out.2], by rw [← HIK.out], HF2.out⟩
        case measure => omega
      · have hrk := rank1_any R Lp (ik : Int) u1 hRA1.rk
        unfold rk1 at hrk
        rw [HSTP.out.1] at hrk
        have HRK := Lib.hid hrk
        have HSB1 := Lib.hid hSB1
        clear hrk hRA1 hSB1
        obtain ⟨ik', hik'⟩ : ∃ ik', ik' = g (code.take (k + 1)) := ⟨_, rfl⟩
        rw [← hik'] at HRK
        have HIK := Lib.hid hik'
        clear hik'
        go_wp2_with fail
        (with_reducible refine HRK.out.mono ?_)
        rintro e u2 ⟨rfl, hb2⟩
        have HF2 := Lib.hid (HSB1.out.kept hb2)
        clear hb2
        go_wp2
        go_roundg (gk - 1)
        case rel => exact ⟨k + 1, by omega, by omega, by rw [str_one, HSTP.out.2], by rw [← HIK.out], HF2.out⟩
        case measure => omega
    · obtain rfl : k = code.length := by omega
      have l2 := hSB.c2
      rw [List.take_length]
      have k1 := HP.out.2.2.2.1 _ hSB.sx
      have HB := Lib.hid hSB.bel
      clear hSB
      go_wp2
      go_ret
      exact ⟨rfl, HB.out⟩

end Go.Proofs.YtdidoecigkbffaaGreat
