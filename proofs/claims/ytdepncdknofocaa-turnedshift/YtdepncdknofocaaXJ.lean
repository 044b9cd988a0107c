/- The contract of the closure of above. -/
import Derived.Test.YtdepncdknofocaaXH
import Derived.Test.YtdepncdknofocaaXI
set_option maxRecDepth 100000
namespace Go.Proofs.Ytdepncdknofocaa
open Go.RowKit
open M
attribute [local go_sem ↓] Go.wp_at_zero Go.wp_at_succ

def ltS (row : List Int) (x y : Int) : Bool := ltB (row.drop x.toNat) (row.drop y.toNat)
theorem Rk.abv0 {l : List Int} (h : Rk l) : Abv b0 l := fun x hx => by have := h.nn x hx; unfold b0; omega
theorem ltS_iff {row : List Int} (h : Rk row) (p q : Nat) : ltS row p q = true ↔ sl (-1) row p q := by
  unfold ltS
  rw [Int.toNat_natCast, Int.toNat_natCast, ltB_iff (fun x hx => h.abv0 x (List.mem_of_mem_drop hx)) (fun x hx => h.abv0 x (List.mem_of_mem_drop hx)), sx_drop, sx_drop]
  exact sl_map rfl h.abv0 h.abv (fun _ _ _ _ => Iff.rfl) p q
theorem ltS_eq {row : List Int} (h : Rk row) {p q p' q' : Nat} (hs : sl (-1) row p q ↔ sl (-1) row p' q') : ltS row p q = ltS row p' q' := by
  rw [Bool.eq_iff_iff, ltS_iff h, ltS_iff h]; exact hs
theorem ltS_first {row : List Int} (h : Rk row) {p q : Nat} {x y : Int} (hx : row.getD p (-1) = x) (hy : row.getD q (-1) = y) (hne : x ≠ y) : ltS row p q = decide (x < y) := by
  rw [Bool.eq_iff_iff, ltS_iff h, sl_step, hx, hy, decide_eq_true_eq]
  exact ⟨fun h => h.resolve_right (fun h => hne h.1), .inl⟩
theorem ltS_step {row : List Int} (h : Rk row) (p q : Nat) : ∀ d, (∀ e, e < d → row.getD (p + e) (-1) = row.getD (q + e) (-1)) → ltS row p q = ltS row ((p + d : Nat) : Int) ((q + d : Nat) : Int) := by
  intro d
  induction d with
  | zero => intro _; rfl
  | succ d ih =>
    intro he
    rw [ih fun e h => he e (by omega)]
    refine ltS_eq h ?_
    rw [sl_step]
    have := he d (by omega)
    constructor
    · rintro (h | ⟨-, h⟩)
      · omega
      · exact h
    · intro h; exact .inr ⟨this, h⟩

/-- What the closure of above holds: the length, the row, the ranks. -/
structure CL (w : World) (bn br bk : Nat) (R : Option Addr) (n c : Nat) (row : List Int) (K : Option Addr) (ck : Nat) (rks : List Int) (u : World) : Prop where
  n0 : u.cell? ⟨bn, 0, none⟩ = some (.int .i64 (n : Int))
  r : KX w br R n c row u
  k : KX w bk K n ck rks u
theorem CL.kept {w u u' : World} {bn br bk : Nat} {R : Option Addr} {n c : Nat} {row : List Int} {K : Option Addr} {ck : Nat} {rks : List Int} (h : CL w bn br bk R n c row K ck rks u) (hb : Below u.heap.size u u') : CL w bn br bk R n c row K ck rks u' :=
  ⟨by rw [hb.cell (p := ⟨bn, 0, none⟩) (World.block_lt_of_cell? u _ h.n0)]; exact h.n0, h.r.kept hb, h.k.kept hb⟩

theorem tmod3 (n P : Nat) (h : P ≤ n) : ((n : Int) - (P : Int)).tmod 3 = (((n - P) % 3 : Nat) : Int) := by
  rw [Int.tmod_eq_emod_of_nonneg (by omega)]
  omega

set_option maxHeartbeats 4000000 in
theorem lessc_any (bn br bk : Nat) (R : Option Addr) (n c : Nat) (row : List Int) (K : Option Addr) (ck : Nat) (rks : List Int) (w u : World) (h : CL w bn br bk R n c row K ck rks u) (hn : n ≤ 1000000) (hr : Rk row)
    (hK : ∀ p q, p < n → q < n → (n - p) % 3 ≠ 0 → (n - q) % 3 ≠ 0 → (rks.getD p 0 < rks.getD q 0 ↔ sl (-1) row p q)) (p q : Nat) (hp : p < n) (hp3 : (n - p) % 3 ≠ 0) (hq : q < n) (hq3 : (n - q) % 3 = 0) :
    Calls Try.prog 45 #[.int .i64 (p : Int), .int .i64 (q : Int), .pointer (some ⟨bn, 0, none⟩), .pointer (some ⟨br, 0, none⟩), .pointer (some ⟨bk, 0, none⟩)] u fun e u' => e = .returned (.bool (ltS row p q)) ∧ ∃ m, u' = u.drewN m := by
  have hst := ltS_step hr p q
  have HX := Lib.hid (And.intro h.r.len (And.intro hr (And.intro hK hst)))
  have HB := Lib.hid h
  clear h hr hK hst
  go_enter Try.func45, Try.ntmps45
  go_wp2
  go_loopw [0, 1, 8, 9] (fun v0 v1 _ _ wr => ∃ d : Nat, d ≤ 2 ∧ v0 = .int .i64 ((p + d : Nat) : Int) ∧ v1 = .int .i64 ((q + d : Nat) : Int) ∧ p + d ≤ n ∧ (d ≠ 1 → p + d < n) ∧ q + d < n ∧ (d = 2 → (n - p) % 3 = 1) ∧ (∀ e, e < d → row.getD (p + e) (-1) = row.getD (q + e) (-1)) ∧ ∃ m, wr = u.drewN m) (fun v0 _ _ _ _ => n + 3 - (intOf v0).toNat)
  case atStart => exact ⟨0, by omega, rfl, rfl, by omega, fun _ => by omega, by omega, fun h => by omega, fun e he => by omega, 0, rfl⟩
  case round =>
    obtain ⟨d, hd2, rfl, rfl, hPn', hP1, hQn, hd, heq, hw⟩ := hrel
    have hB : CL w bn br bk R n c row K ck rks wr := by
      obtain ⟨m, rfl⟩ := hw
      exact HB.out.kept (below_drewN _ _)
    obtain ⟨P, hPe⟩ : ∃ P, p + d = P := ⟨_, rfl⟩
    obtain ⟨Q, hQe⟩ : ∃ Q, q + d = Q := ⟨_, rfl⟩
    rw [hPe] at hPn' hP1 ⊢
    rw [hQe] at hQn ⊢
    have cn := hB.n0
    have cr := hB.r.c0
    have ck0 := hB.k.c0
    have w1 : IntKind.i64.wrap ((n : Int) - (P : Int)) = (n : Int) - P := IntWalk.i64_in _ (by omega)
    have w2 : IntKind.i64.wrap ((n : Int) - (Q : Int)) = (n : Int) - Q := IntWalk.i64_in _ (by omega)
    have m1 := tmod3 n P hPn'
    have m2 := tmod3 n Q (by omega)
    obtain ⟨ra, hra⟩ : ∃ ra, (n - P) % 3 = ra := ⟨_, rfl⟩
    obtain ⟨rb, hrb⟩ : ∃ rb, (n - Q) % 3 = rb := ⟨_, rfl⟩
    rw [hra] at m1
    rw [hrb] at m2
    by_cases ha : ra = 0
    · subst ha
      have d1 : d = 1 := by omega
      have HPQ := Lib.hid (And.intro hPe hQe)
      obtain ⟨x, hx⟩ : ∃ x, row.getD P (-1) = x := ⟨_, rfl⟩
      obtain ⟨y, hy⟩ : ∃ y, row.getD Q (-1) = y := ⟨_, rfl⟩
      have a1 := fun m => at_any R n c P row (wr.drewN m) (hB.r.nums.kept (below_drewN _ _)) hB.r.len
      have a2 := fun m => at_any R n c Q row (wr.drewN m) (hB.r.nums.kept (below_drewN _ _)) hB.r.len
      simp only [hx] at a1
      simp only [hy] at a2
      have HA := Lib.hid (And.intro a1 a2)
      have HH := Lib.hid (And.intro heq (And.intro hx (And.intro hy hw)))
      clear a1 a2 heq hx hy hw hB
      by_cases exy : x = y
      · subst exy
        have qn : (x != x) = false := by simp
        go_wp2
        go_quiet (first | (go_at_call_of 42 (Value.int .i64 (P : Int)); refine Calls.quiet_of_same (HA.out.1 _)) | (refine Calls.quiet_of_same (HA.out.2 _)))
        go_wp2
        go_roundw
        case rel =>
          obtain ⟨heq, hx, hy, m, rfl⟩ := HH.out
          have hPn : P < n := by
            by_cases hlt : P < n
            · exact hlt
            · exfalso
              rw [getD_out (by rw [HX.out.1]; omega)] at hx
              have := HX.out.2.1.ge (i := Q) (by rw [HX.out.1]; exact hQn)
              omega
          refine ⟨d + 1, by omega, by go_num, by go_num, by omega, by omega, by omega, by omega, fun e he => ?_, m + nq, by rw [World.drewN_drewN]⟩
          by_cases ed : e = d
          · rw [ed, hPe, hQe, hx, hy]
          · exact heq e (by omega)
        case measure => simp [intOf]; omega
      · have qn : (x != y) = true := by simpa using exy
        have hres : ltS row p q = decide (x < y) := by
          obtain ⟨heq, hx, hy, -⟩ := HH.out
          rw [HX.out.2.2.2 d heq, hPe, hQe]
          exact ltS_first HX.out.2.1 hx hy exy
        have HR := Lib.hid hres
        clear hres
        go_wp2
        go_quiet (first | (go_at_call_of 42 (Value.int .i64 (P : Int)); refine Calls.quiet_of_same (HA.out.1 _)) | (refine Calls.quiet_of_same (HA.out.2 _)))
        go_wp2
        go_ret
        obtain ⟨-, -, -, m, rfl⟩ := HH.out
        refine ⟨by rw [HR.out]; rfl, _, by rw [World.drewN_drewN]⟩
    · by_cases hb : rb = 0
      · subst hb
        have m0 : ((ra : Int) == 0) = false := by simp; omega
        have m0' : ¬ (ra : Int) = 0 := by omega
        obtain ⟨x, hx⟩ : ∃ x, row.getD P (-1) = x := ⟨_, rfl⟩
        obtain ⟨y, hy⟩ : ∃ y, row.getD Q (-1) = y := ⟨_, rfl⟩
        have a1 := fun m => at_any R n c P row (wr.drewN m) (hB.r.nums.kept (below_drewN _ _)) hB.r.len
        have a2 := fun m => at_any R n c Q row (wr.drewN m) (hB.r.nums.kept (below_drewN _ _)) hB.r.len
        simp only [hx] at a1
        simp only [hy] at a2
        have HA := Lib.hid (And.intro a1 a2)
        have HH := Lib.hid (And.intro heq (And.intro hx (And.intro hy hw)))
        clear a1 a2 heq hx hy hw hB
        by_cases exy : x = y
        · subst exy
          have qn : (x != x) = false := by simp
          go_wp2
          go_quiet (first | (go_at_call_of 42 (Value.int .i64 (P : Int)); refine Calls.quiet_of_same (HA.out.1 _)) | (refine Calls.quiet_of_same (HA.out.2 _)))
          go_wp2
          go_roundw
          case rel =>
            obtain ⟨heq, hx, hy, m, rfl⟩ := HH.out
            have hPn : P < n := by
              by_cases hlt : P < n
              · exact hlt
              · exfalso
                rw [getD_out (by rw [HX.out.1]; omega)] at hx
                have := HX.out.2.1.ge (i := Q) (by rw [HX.out.1]; exact hQn)
                omega
            refine ⟨d + 1, by omega, by go_num, by go_num, by omega, by omega, by omega, by omega, fun e he => ?_, m + nq, by rw [World.drewN_drewN]⟩
            by_cases ed : e = d
            · rw [ed, hPe, hQe, hx, hy]
            · exact heq e (by omega)
          case measure => simp [intOf]; omega
        · have qn : (x != y) = true := by simpa using exy
          have hres : ltS row p q = decide (x < y) := by
            obtain ⟨heq, hx, hy, -⟩ := HH.out
            rw [HX.out.2.2.2 d heq, hPe, hQe]
            exact ltS_first HX.out.2.1 hx hy exy
          have HR := Lib.hid hres
          clear hres
          go_wp2
          go_quiet (first | (go_at_call_of 42 (Value.int .i64 (P : Int)); refine Calls.quiet_of_same (HA.out.1 _)) | (refine Calls.quiet_of_same (HA.out.2 _)))
          go_wp2
          go_ret
          obtain ⟨-, -, -, m, rfl⟩ := HH.out
          refine ⟨by rw [HR.out]; rfl, _, by rw [World.drewN_drewN]⟩
      · have m0 : ((ra : Int) == 0) = false := by simp; omega
        have m0' : ¬ (ra : Int) = 0 := by omega
        have m3 : ((rb : Int) == 0) = false := by simp; omega
        have m3' : ¬ (rb : Int) = 0 := by omega
        have hPn : P < n := by omega
        obtain ⟨kb, ko, hKe, -, c1⟩ := num_at hB.k.nums (i := P) (by rw [hB.k.len]; exact hPn)
        obtain ⟨kb2, ko2, hKe2, -, c2⟩ := num_at hB.k.nums (i := Q) (by rw [hB.k.len]; exact hQn)
        rw [hKe] at hKe2
        simp only [Option.some.injEq, Addr.mk.injEq, and_true] at hKe2
        obtain ⟨rfl, rfl⟩ := hKe2
        have hiff := HX.out.2.2.1 P Q hPn hQn (by omega) (by omega)
        obtain ⟨x, hx⟩ : ∃ x, rks.getD P 0 = x := ⟨_, rfl⟩
        obtain ⟨y, hy⟩ : ∃ y, rks.getD Q 0 = y := ⟨_, rfl⟩
        rw [hx] at c1 hiff
        rw [hy] at c2 hiff
        have hres : ltS row p q = decide (x < y) := by
          rw [HX.out.2.2.2 d heq, hPe, hQe, Bool.eq_iff_iff, ltS_iff HX.out.2.1, decide_eq_true_eq, hiff]
        have HR := Lib.hid (And.intro hres hw)
        subst hKe
        clear hres hw hx hy hiff heq hB HB HX
        have q1 : (P : Int) < (n : Int) := by omega
        have q2 : (0 : Int) ≤ (P : Int) := by omega
        have q3 : (Q : Int) < (n : Int) := by omega
        have q4 : (0 : Int) ≤ (Q : Int) := by omega
        go_wp2
        go_quiet (fail)
        go_wp2
        go_ret
        obtain ⟨hres, m, rfl⟩ := HR.out
        exact ⟨by rw [hres]; rfl, _, by rw [World.drewN_drewN]⟩

end Go.Proofs.Ytdepncdknofocaa
