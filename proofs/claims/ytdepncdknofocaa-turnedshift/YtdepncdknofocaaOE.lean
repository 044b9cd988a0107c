/- The contract of sorted. -/
import Derived.Test.YtdepncdknofocaaOD
import Derived.Deep.LoopGhost
import Derived.Deep.CutRange
import Derived.Deep.CutBlock
set_option maxRecDepth 100000
namespace Go.Proofs.Ytdepncdknofocaa
open Go.RowKit
open M
attribute [local go_sem ↓] Go.wp_at_zero Go.wp_at_succ

/-- The key of a place. -/
def kyI (keys : List Int) (x : Int) : Int := keys.getD x.toNat 0
def uK (keys : List Int) (x : Int) : Nat := uN (kyI keys x)

theorem dgt_digD (keys : List Int) (s : Nat) (x : Int) : ((dgt keys s x : Nat) : Int) = digD (uK keys) s x := rfl

/-- What sorted tells: the places in order by their keys, those of one key as they were. -/
def SortEnd (w : World) (ins keys : List Int) (e : Ending) (u : World) : Prop :=
  ∃ A cA outs, e = .returned (.slice A ins.length cA) ∧ ins.length ≤ cA ∧ NumsAt .i64 u A outs ∧ Same (kyI keys) ins outs ∧ Pw (kyI keys) outs ∧ Below w.heap.size w u

theorem low_done {keys ins ys : List Int} {s : Nat} (h64 : I64s keys) (hin : ∀ x ∈ ins, 0 ≤ x ∧ x < keys.length) (h1 : Same (lowD (uK keys) s) ins ys ∧ Pw (lowD (uK keys) s) ys) (hd : dif keys keys.length / 2 ^ s = 0) : Same (kyI keys) ins ys ∧ Pw (kyI keys) ys := by
  have h2 := low_end h1 (c := uN (keys.getD 0 0) / 2 ^ s) (fun x hx => dif_end keys keys.length s hd x.toNat (by have := hin x hx; omega))
  have hk : ∀ x ∈ ins, (uK keys x : Int) = kyI keys x + 9223372036854775808 := fun x hx => by
    have h3 := hin x hx
    have hm : keys.getD x.toNat 0 ∈ keys := memI keys x.toNat (by omega)
    exact uN_eq _ (h64 _ hm).1 (h64 _ hm).2
  exact Same.shift ⟨h2.1.congr hk, h2.2.congr fun x hx => hk x (h2.1.symm.mem hx)⟩

/-- What sorted holds behind so many digits. -/
structure SW (w0 : World) (kb sb s n : Nat) (K : Option Addr) (m cK : Nat) (keys ins : List Int) (A : Option Addr) (ys : List Int) (u : World) : Prop where
  nums : NumsAt .i64 u A ys
  low : Same (lowD (uK keys) s) ins ys ∧ Pw (lowD (uK keys) s) ys
  k0 : u.cell? ⟨kb, 0, none⟩ = some (.slice K m cK)
  s0 : u.cell? ⟨sb, 0, none⟩ = some (.int .i64 (s : Int))
  sz : u.frozen? ⟨sb, 0, none⟩ = false
  bel : Below w0.heap.size w0 u
  own : w0.heap.size ≤ sb

theorem SW.next {w0 u u1 : World} {kb sb s n m cK : Nat} {K A A' : Option Addr} {keys ins ys zs : List Int} (h : SW w0 kb sb s n K m cK keys ins A ys u) (hb : Below u.heap.size u u1) (hk : kb < w0.heap.size) (hn : NumsAt .i64 u1 A' zs) (hl : Same (lowD (uK keys) (s + 8)) ins zs ∧ Pw (lowD (uK keys) (s + 8)) zs) (x : Int) (hx : x = ((s + 8 : Nat) : Int)) :
    SW w0 kb u1.heap.size (s + 8) n K m cK keys ins A' zs (u1.alloc (.cells #[.int .i64 x] 3)) := by
  have hb1 := h.bel.trans (hb.mono h.bel.size)
  have ha : Below u1.heap.size u1 (u1.alloc (.cells #[.int .i64 x] 3)) := (Below.refl _ _).alloc (Nat.le_refl _) _
  have hk1 : u1.cell? ⟨kb, 0, none⟩ = some (.slice K m cK) := by rw [hb.cell (p := ⟨kb, 0, none⟩) (Nat.lt_of_lt_of_le hk h.bel.size)]; exact h.k0
  refine ⟨hn.kept ha, hl, by rw [ha.cell (p := ⟨kb, 0, none⟩) (World.block_lt_of_cell? u1 _ hk1)]; exact hk1, by rw [cell_new _ _ _ _ _ rfl, hx]; rfl, frozen_new _ _ _ _ _ rfl, hb1.trans (ha.mono hb1.size), hb1.size⟩

set_option maxHeartbeats 4000000 in
theorem sorted_any (A K : Option Addr) (n cA m cK : Nat) (ins keys : List Int) (w : World) (hx : NumsAt .i64 w A ins) (hl : ins.length = n) (hk : NumsAt .i64 w K keys) (hm : keys.length = m) (hcA : n ≤ cA) (hn : n ≤ 1000000) (hm2 : m ≤ 1000000) (h64 : I64s keys) (hin : ∀ x ∈ ins, 0 ≤ x ∧ x < m) :
    Calls Try.prog 35 #[.slice A n cA, .slice K m cK] w (SortEnd w ins keys) := by
  have HX := Lib.hid (And.intro hx (And.intro hl (And.intro hk (And.intro hm (And.intro h64 hin)))))
  clear hx hl hk hm h64 hin
  obtain ⟨kb, hkb⟩ : ∃ kb, kb = w.heap.size := ⟨_, rfl⟩
  obtain ⟨w0, hw0⟩ : ∃ w0, w0 = w.alloc (.cells #[.slice K m cK] 22) := ⟨_, rfl⟩
  have hb0 : Below w.heap.size w w0 := by rw [hw0]; exact (Below.refl _ _).alloc (Nat.le_refl _) _
  have k0 : w0.cell? ⟨kb, 0, none⟩ = some (.slice K m cK) := by rw [hw0, cell_new _ _ _ _ _ hkb]; rfl
  have HB0 := Lib.hid hb0
  have HW := Lib.hid (And.intro hkb hw0)
  go_enter Try.func35, Try.ntmps35
  go_upto_region 2 with fail
  rw [← hw0, ← hkb]
  clear hkb hw0 hb0
  go_wp2
  go_loopw [5, 7, 11] (fun v5 _ v11 wr => ∃ i : Nat, i ≤ m ∧ v11 = .int .i64 (i : Int) ∧ v5 = .int .u64 (dif keys i : Nat) ∧ wr = w0) (fun _ _ v11 _ => m - (intOf v11).toNat)
  case atStart => exact ⟨0, Nat.zero_le _, rfl, rfl, rfl⟩
  case round =>
    obtain ⟨i, him, rfl, rfl, rfl⟩ := hrel
    by_cases hlt : i < m
    · have hk := HX.out.2.2.1.kept HB0.out
      obtain ⟨bb, off, hAe, hbl, hcb⟩ := num_at hk (i := i) (by rw [HX.out.2.2.2.1]; exact hlt)
      obtain ⟨bb2, off2, hAe2, hbl2, hc0⟩ := num_at hk (i := 0) (by rw [HX.out.2.2.2.1]; omega)
      subst hAe
      simp only [Option.some.injEq, Addr.mk.injEq, and_true] at hAe2
      obtain ⟨rfl, rfl⟩ := hAe2
      have hdi := dif_int keys i
      generalize keys.getD i 0 = x at *
      generalize keys.getD 0 0 = y at *
      obtain ⟨d1, hd1⟩ : ∃ d1, d1 = dif keys (i + 1) := ⟨_, rfl⟩
      rw [← hd1] at hdi
      have HD1 := Lib.hid hd1
      clear hd1 hk
      rw [Nat.add_zero] at hc0
      have q1 : (i : Int) < (m : Int) := by omega
      have q2 : (0 : Int) ≤ (i : Int) := by omega
      have q3 : (0 : Int) < (m : Int) := by omega
      go_wp2
      go_roundw
      case rel => exact ⟨i + 1, by omega, by go_num, by rw [← HD1.out], trivial⟩
      case measure => simp [intOf]; omega
    · obtain rfl : i = m := by omega
      obtain ⟨w1, rfl⟩ : ∃ w1, w1 = wr := ⟨_, rfl⟩
      have q1 : ¬ (i : Int) < (i : Int) := by omega
      have hDl := dif_lt keys i
      have hkbl : kb < w1.heap.size := World.block_lt_of_cell? w1 _ k0
      have hal : Below w1.heap.size w1 (w1.alloc (.cells #[.int .i64 0] 3)) := (Below.refl _ _).alloc (Nat.le_refl _) _
      have hSW : SW w1 kb w1.heap.size 0 n K i cK keys ins A ins (w1.alloc (.cells #[.int .i64 0] 3)) :=
        ⟨(HX.out.1.kept HB0.out).kept hal, low_start _ _, by rw [hal.cell (p := ⟨kb, 0, none⟩) hkbl]; exact k0, by rw [cell_new _ _ _ _ _ rfl]; rfl, frozen_new _ _ _ _ _ rfl, hal, Nat.le_refl _⟩
      have HS := Lib.hid hSW
      have hend := fun (ys : List Int) (s : Nat) (h1 : Same (lowD (uK keys) s) ins ys ∧ Pw (lowD (uK keys) s) ys) (h2 : dif keys i / 2 ^ s = 0) => low_done (s := s) HX.out.2.2.2.2.1 (fun x hx => by rw [HX.out.2.2.2.1]; exact HX.out.2.2.2.2.2 x hx) h1 (by rw [HX.out.2.2.2.1]; exact h2)
      have hdig := fun (s : Nat) (h : dif keys i / 2 ^ s % 256 = 0) (x : Int) (hx : x ∈ ins) => dif_dig keys i s h x.toNat (by have := HX.out.2.2.2.2.2 x hx; omega)
      have HE := Lib.hid (And.intro hend (And.intro hdig hkbl))
      clear hSW hal hend hdig hkbl k0
      generalize dif keys i = D at *
      go_wp2
      go_loopg [0, 8] 9 (fun g v0 v8 wq => ∃ (j sb cA' : Nat) (A' : Option Addr) (ys : List Int), j ≤ 8 ∧ 9 - j ≤ g ∧ v0 = .slice A' n cA' ∧ n ≤ cA' ∧ v8 = .pointer (some ⟨sb, 0, none⟩) ∧ SW w1 kb sb (8 * j) n K i cK keys ins A' ys wq)
      case atStart => exact ⟨0, _, cA, A, ins, by omega, by omega, rfl, hcA, rfl, HS.out⟩
      case round =>
        obtain ⟨j, sb, cA', A', ys, hj, hg, rfl, hcA', rfl, hS⟩ := hrel
        clear HS
        obtain ⟨s, hs⟩ : ∃ s, s = 8 * j := ⟨_, rfl⟩
        rw [← hs] at hS
        have hs64 : s ≤ 64 := by omega
        have HSE := Lib.hid hs
        clear hs
        have s0 := hS.s0
        have q3 : (0 : Int) ≤ (s : Int) := by omega
        have q4 : (s : Int) ≤ 64 := by omega
        have qn : ((s : Int)).toNat = s := by omega
        have hdiv : (D : Int) / 2 ^ s = ((D / 2 ^ s : Nat) : Int) := by simp
        by_cases hz : D / 2 ^ s = 0
        · have hF := HE.out.1 ys s hS.low hz
          have HF := Lib.hid (And.intro hF hS)
          rw [hz] at hdiv
          have q5 : (D : Int) / 2 ^ s = 0 := hdiv
          clear hF hS hdiv hz
          go_wp2
          go_ret
          refine ⟨A', cA', ys, by rw [HX.out.2.1]; rfl, by rw [HX.out.2.1]; exact hcA', HF.out.2.nums, HF.out.1.1, HF.out.1.2, HB0.out.trans (HF.out.2.bel.mono HB0.out.size)⟩
        · have hj8 : j < 8 := by
            by_cases e : j < 8
            · exact e
            · exfalso
              have e2 : s = 64 := by have := HSE.out; omega
              apply hz
              rw [e2]
              exact Nat.div_eq_of_lt hDl
          have q5 : (0 : Int) < (D : Int) / 2 ^ s := by rw [hdiv]; exact Int.natCast_pos.2 (Nat.pos_of_ne_zero hz)
          have hmod : (D : Int) / 2 ^ s % 256 = ((D / 2 ^ s % 256 : Nat) : Int) := by
            rw [hdiv]
            generalize D / 2 ^ s = y
            omega
          have hkl : kb < wr.heap.size := Nat.lt_of_lt_of_le HE.out.2.2 hS.bel.size
          by_cases hz2 : D / 2 ^ s % 256 = 0
          · have hsk := low_skip hS.low (c := ((uN (keys.getD 0 0) / 2 ^ s % 256 : Nat) : Int)) (fun x hx => congrArg (fun k : Nat => (k : Int)) (HE.out.2.1 s hz2 x hx))
            have hnx := hS.next (Below.refl _ _) HE.out.2.2 hS.nums hsk _ rfl
            have HN := Lib.hid hnx
            rw [hz2] at hmod
            have q6 : (D : Int) / 2 ^ s % 256 = 0 := hmod
            clear hsk hnx hS hmod hdiv hz hz2
            go_wp2
            go_roundg (gk - 1)
            case rel =>
              refine ⟨j + 1, _, cA', A', ys, by omega, by omega, rfl, hcA', rfl, ?_⟩
              rw [show 8 * (j + 1) = s + 8 by rw [HSE.out]; omega, show ((s : Int) + 8) = ((s + 8 : Nat) : Int) by omega]
              exact HN.out
            case measure => omega
          · have hyl : ys.length = n := by rw [← HX.out.2.1]; exact (hS.low.1.perm.length_eq).symm
            have hmem : ∀ x ∈ ys, 0 ≤ x ∧ x < (i : Int) := fun x hx => HX.out.2.2.2.2.2 x (hS.low.1.symm.mem hx)
            have hC : DigC wr (.pointer (some ⟨kb, 0, none⟩)) (.pointer (some ⟨sb, 0, none⟩)) ys (dgt keys s) := by
              intro u hu x hx
              have hxr := hmem x hx
              obtain ⟨xn, rfl⟩ : ∃ xn : Nat, x = (xn : Int) := ⟨x.toNat, by omega⟩
              have hbk : Below w.heap.size w u := HB0.out.trans ((hS.bel.trans (hu.mono hS.bel.size)).mono HB0.out.size)
              exact digit_any keys K i cK kb sb s xn u (by rw [hu.cell (p := ⟨kb, 0, none⟩) hkl]; exact hS.k0) (by rw [hu.cell (p := ⟨sb, 0, none⟩) (World.block_lt_of_cell? wr _ hS.s0)]; exact hS.s0) (HX.out.2.2.1.kept hbk) HX.out.2.2.2.1 (by omega) hs64
            have hbu := bucketed_any A' n cA' ys _ _ _ wr hS.nums hyl hn hC (fun x _ => Nat.mod_lt _ (by decide))
            have HBU := Lib.hid hbu
            have q6 : (0 : Int) < (D : Int) / 2 ^ s % 256 := by rw [hmod]; exact Int.natCast_pos.2 (Nat.pos_of_ne_zero hz2)
            have HSS := Lib.hid (And.intro hS (And.intro hyl (And.intro hkl hmem)))
            clear hbu hC hmem hyl hmod hdiv hz hz2 hS hkl
            go_wp2_with fail
            (with_reducible refine HBU.out.mono ?_)
            rintro e u1 ⟨E, rfl, hnE, hbE⟩
            rw [HSS.out.2.1]
            have hst := low_step HSS.out.1.low (bks_same (dgt keys s) ys 256 (fun x _ => Nat.mod_lt _ (by decide)))
            have hnx := HSS.out.1.next hbE HE.out.2.2 hnE hst _ rfl
            have s1 : u1.cell? ⟨sb, 0, none⟩ = some (.int .i64 (s : Int)) := by rw [hbE.cell (p := ⟨sb, 0, none⟩) (World.block_lt_of_cell? wr _ HSS.out.1.s0)]; exact HSS.out.1.s0
            have HN := Lib.hid hnx
            clear hst hnx hnE hbE s0
            go_wp2
            go_roundg (gk - 1)
            case rel =>
              refine ⟨j + 1, _, n, _, bks (dgt keys s) ys 256, by omega, by omega, rfl, Nat.le_refl _, rfl, ?_⟩
              rw [show 8 * (j + 1) = s + 8 by rw [HSE.out]; omega, show ((s : Int) + 8) = ((s + 8 : Nat) : Int) by omega]
              exact HN.out
            case measure => omega

end Go.Proofs.Ytdepncdknofocaa
