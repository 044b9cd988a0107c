/- The contract of Pack, walked. -/
import Derived.Test.YtfhlcclbjagdmaaIB
namespace Go.Proofs.Ytfhlcclbjagdmaa
open Go.RowKit
open M

/-- The numbers are int's. -/
def I64s (xs : List Int) : Prop := ∀ x ∈ xs, -9223372036854775808 ≤ x ∧ x ≤ 9223372036854775807

theorem takeI_snoc (xs : List Int) (i : Nat) (h : i < xs.length) : xs.take (i + 1) = xs.take i ++ [xs.getD i 0] := by
  rw [List.take_succ_eq_append_getElem h]
  simp [List.getD_eq_getElem?_getD, h]

theorem memI (xs : List Int) (i : Nat) (h : i < xs.length) : xs.getD i 0 ∈ xs := by
  simp [List.getD_eq_getElem?_getD, h]

theorem pack1_pk {w u : World} {W vb : Nat} {xs : List Int} {i : Nat} {s : Value} (h : PK w W vb (rowB (xs.take i) W) s u) (hW : W ≤ 62) (hi : i < xs.length) (hn : xs.length ≤ 10000000) (hx : 0 ≤ xs.getD i 0 ∧ xs.getD i 0 < 2 ^ W) :
    Calls Try.prog 50 #[.int .i64 (xs.getD i 0), .pointer (some ⟨vb, 0, none⟩), .pointer (some ⟨w.heap.size, 0, none⟩)] u fun e u' => e = .returned (.int .i64 0) ∧ ∃ s', PK w W vb (rowB (xs.take (i + 1)) W) s' u' := by
  obtain ⟨a, m, c, rfl⟩ := h.bld.form
  have hl : (rowB (xs.take i) W).length + W ≤ 1000000000 := by
    rw [rowB_length, List.length_take, Nat.min_eq_left (by omega), ← Nat.succ_mul]
    calc i.succ * W ≤ 10000000 * 62 := Nat.mul_le_mul (by omega) hW
      _ ≤ 1000000000 := by decide
  refine (pack1_ok vb w.heap.size (w.heap.size + 1 + 1) a m c _ (xs.getD i 0) W u h.cp h.cw h.bld hW hl hx).mono ?_
  rintro e u' ⟨rfl, hp⟩
  refine ⟨rfl, ?_⟩
  rw [takeI_snoc xs i hi, rowB_snoc]
  exact h.put hp

theorem bits_pk {w u : World} {W vb N : Nat} {L : List Bool} {s : Value} (h : PK w W vb L s u) (hN : L.length = N) (hl : N ≤ 1000000000) :
    Calls Try.prog 52 #[.pointer (some ⟨w.heap.size + 1 + 1, 0, none⟩)] u fun e u' => ∃ g, e = .returned (.agg #[.int .i64 (N : Int), .slice (some ⟨g, 0, none⟩) (nw N) (nw N)]) ∧
      RowAt u' (.slice (some ⟨g, 0, none⟩) (nw N) (nw N)) L ∧ PK w W vb L s u' ∧ w.heap.size + 1 < g := by
  subst hN
  obtain ⟨a, m, c, rfl⟩ := h.bld.form
  have l3 := h.bld.lt
  refine (bits_any (w.heap.size + 1 + 1) a m c L u h.bld hl).mono ?_
  rintro e u' ⟨rfl, hr, hb⟩
  exact ⟨_, rfl, hr, h.kept hb, by omega⟩

theorem row_stored4 {w u : World} {g m c : Nat} {l : List Bool} (h : RowAt u (.slice (some ⟨g, 0, none⟩) m c) l) (hg : w.heap.size + 1 < g) (v0 v1 v2 v3 : Value) :
    RowAt ((((u.setCell ⟨w.heap.size + 1, 0, none⟩ v0).setCell ⟨w.heap.size + 1, 1, none⟩ v1).setCell ⟨w.heap.size + 1, 2, none⟩ v2).setCell ⟨w.heap.size + 1, 3, none⟩ v3) (.slice (some ⟨g, 0, none⟩) m c) l := by
  have hk : Kp (fun k => k = w.heap.size + 1) u ((((u.setCell ⟨w.heap.size + 1, 0, none⟩ v0).setCell ⟨w.heap.size + 1, 1, none⟩ v1).setCell ⟨w.heap.size + 1, 2, none⟩ v2).setCell ⟨w.heap.size + 1, 3, none⟩ v3) :=
    Kp.setCell (p := ⟨w.heap.size + 1, 3, none⟩) (Kp.setCell (p := ⟨w.heap.size + 1, 2, none⟩) (Kp.setCell (p := ⟨w.heap.size + 1, 1, none⟩) (Kp.setCell (p := ⟨w.heap.size + 1, 0, none⟩) (Kp.refl (fun k => k = w.heap.size + 1) u) (.inl rfl) _) (.inl rfl) _) (.inl rfl) _) (.inl rfl) _
  refine row_kp h hk ?_
  intro k e
  simp [Value.ownBlock] at e
  omega

theorem below_stored4 {w u : World} (h : Below w.heap.size w u) (v0 v1 v2 v3 : Value) :
    Below w.heap.size w ((((u.setCell ⟨w.heap.size + 1, 0, none⟩ v0).setCell ⟨w.heap.size + 1, 1, none⟩ v1).setCell ⟨w.heap.size + 1, 2, none⟩ v2).setCell ⟨w.heap.size + 1, 3, none⟩ v3) :=
  (((h.setCell (by simp) _).setCell (by simp) _).setCell (by simp) _).setCell (by simp) _

theorem PK.stored {w u : World} {W vb : Nat} {L : List Bool} {s : Value} (h : PK w W vb L s u) (v0 v1 v2 v3 : Value) :
    ((((u.setCell ⟨w.heap.size + 1, 0, none⟩ v0).setCell ⟨w.heap.size + 1, 1, none⟩ v1).setCell ⟨w.heap.size + 1, 2, none⟩ v2).setCell ⟨w.heap.size + 1, 3, none⟩ v3).cell? ⟨w.heap.size, 0, none⟩ = some (.int .i64 (W : Int)) ∧
    ((((u.setCell ⟨w.heap.size + 1, 0, none⟩ v0).setCell ⟨w.heap.size + 1, 1, none⟩ v1).setCell ⟨w.heap.size + 1, 2, none⟩ v2).setCell ⟨w.heap.size + 1, 3, none⟩ v3).cell? ⟨vb, 0, none⟩ = some (.pointer (some ⟨w.heap.size + 1 + 1, 0, none⟩)) := by
  have hv := h.vb'
  have n : ∀ i, (⟨w.heap.size + 1, i, none⟩ : Addr) ≠ ⟨vb, 0, none⟩ := fun i e => by
    simp only [Addr.mk.injEq] at e; omega
  constructor
  · rw [World.cell?_setCell_other _ _ _ _ (by simp), World.cell?_setCell_other _ _ _ _ (by simp), World.cell?_setCell_other _ _ _ _ (by simp), World.cell?_setCell_other _ _ _ _ (by simp)]; exact h.cw
  · rw [World.cell?_setCell_other _ _ _ _ (n _), World.cell?_setCell_other _ _ _ _ (n _), World.cell?_setCell_other _ _ _ _ (n _), World.cell?_setCell_other _ _ _ _ (n _)]; exact h.cp

set_option maxHeartbeats 1000000 in
theorem pack_ok (a0 : Option Addr) (n cap : Nat) (xs : List Int) (W : Nat) (w : World) (hx : NumsAt .i64 w a0 xs) (hn : xs.length = n) (hW : W ≤ 62) (hn' : n ≤ 10000000) (hfit : Fits xs W) :
    Calls Try.prog 42 #[.slice a0 n cap, .int .i64 (W : Int)] w fun e w' => ∃ g, e = .returned (.tuple #[intsV n W (n * W) (.slice (some ⟨g, 0, none⟩) (nw (n * W)) (nw (n * W))), .int .i64 0]) ∧
      RowAt w' (.slice (some ⟨g, 0, none⟩) (nw (n * W)) (nw (n * W))) (rowB xs W) ∧ w.heap.size ≤ g ∧ Below w.heap.size w w' := by
  have hw := fun u => isWidth_any (W : Int) u
  rw [decide_eq_true (by omega)] at hw
  have HW := Lib.hid hw
  have HX := Lib.hid (And.intro hx (And.intro hn hfit))
  have hNW : n * W ≤ 1000000000 := by
    calc n * W ≤ 10000000 * 62 := Nat.mul_le_mul hn' hW
      _ ≤ 1000000000 := by decide
  clear hw hx hn hfit
  go_enter Try.func42, Try.ntmps42
  go_wp2_with fail
  refine (HW.out _).mono ?_
  rintro e w' ⟨rfl, rfl⟩
  go_wp2_with fail
  refine (new_any _).mono ?_
  rintro e w3 ⟨rfl, hB, hb⟩
  have hPK := PK.start w w3 W (by simpa using hB) hb
  simp only [World.size_alloc]
  have HP := Lib.hid hPK
  clear hB hb hPK HW
  go_wp2
  generalize w3.alloc (.cells #[.pointer (some ⟨w.heap.size + 1 + 1, 0, none⟩)] 67) = w4 at *
  generalize w3.heap.size = vb at *
  go_loopw [19] (fun v wr => ∃ i : Nat, i ≤ n ∧ v = .int .i64 (i : Int) ∧ ∃ s, PK w W vb (rowB (xs.take i) W) s wr) (fun v _ => n - (intOf v).toNat)
  case atStart => exact ⟨0, Nat.zero_le _, rfl, _, HP.out⟩
  case round =>
    obtain ⟨i, hi, rfl, s, hk⟩ := hrel
    obtain ⟨hx, hn, hfit⟩ := HX.out
    by_cases hlt : i < n
    · rcases hx.kept hk.bel with hnil | ⟨b, off, rfl, hbs, hcs⟩
      · subst hnil; simp at hn; omega
      have hcb := hcs i (by omega)
      have hp := pack1_pk hk hW (by omega) (by omega) (hfit _ (memI xs i (by omega)))
      have q1 : (i : Int) < (n : Int) := by omega
      have q2 : (0 : Int) ≤ (i : Int) := by omega
      have HC := Lib.hid hp
      clear hcs hp hk hn hfit hx HP
      generalize xs.getD i 0 = x at *
      go_wp2_with fail
      refine HC.out.mono ?_
      rintro e w5 ⟨rfl, s', hk⟩
      have HK := Lib.hid hk
      clear hk hcb
      go_wp2
      go_roundw
      case rel => exact ⟨i + 1, by omega, by go_num, s', HK.out⟩
      case measure => simp [intOf]; omega
    · obtain rfl : i = n := by omega
      have hti : xs.take i = xs := by rw [← hn]; simp
      rw [hti] at hk
      have hcw := hk.cw
      have hcp := hk.cp
      have hbits := fun u s (h : PK w W vb (rowB xs W) s u) => bits_pk h (N := i * W) (by rw [rowB_length, hn]) hNW
      have HB := Lib.hid hbits
      clear hbits hti hn hfit hx HP
      generalize hNN : i * W = N at *
      have HNN := Lib.hid hNN
      clear hNN
      go_wp2
      go_region_held3 (fun w' => w'.cell? ⟨w.heap.size, 0, none⟩ = some (.int .i64 (W : Int)) ∧ w'.cell? ⟨vb, 0, none⟩ = some (.pointer (some ⟨w.heap.size + 1 + 1, 0, none⟩)))
        (first
          | exact ⟨hk.cw, hk.cp⟩
          | exact hk.stored _ _ _ _
          | go_keep)
        (first
          | (go_at_call 52; (with_reducible refine (HB.out _ _ hk.drew).mono ?_); clear hcw hcp; rintro e u ⟨g, rfl, hrow, hk, hg⟩; have hcw := hk.cw; have hcp := hk.cp; have r0 := hk.r0; have r1 := hk.r1; have r2 := hk.r2; have r3 := hk.r3; have z0 := hk.z0; have z1 := hk.z1; have z2 := hk.z2; have z3 := hk.z3))
      all_goals
        have HK := Lib.hid (And.intro hk (And.intro hrow hg))
        clear hk hrow hg hcw hcp HB
        go_wp2
        refine bodyPost_ret (v := .tuple #[intsV i W N (.slice (some ⟨g, 0, none⟩) (nw N) (nw N)), .int .i64 0]) (by simp [results, Try.results42, go_sem, r0, r1, r2, r3, intsV]) rfl ?_
        clear r0 r1 r2 r3 z0 z1 z2 z3
        obtain ⟨hk, hrow, hg⟩ := HK.out
        obtain rfl := HNN.out
        exact ⟨g, rfl, row_stored4 hrow hg _ _ _ _, by omega, below_stored4 hk.bel _ _ _ _⟩

set_option maxHeartbeats 1000000 in
theorem pack_bad (a0 : Option Addr) (n cap : Nat) (xs : List Int) (W : Nat) (w : World) (hx : NumsAt .i64 w a0 xs) (hn : xs.length = n) (hW : W ≤ 62) (hn' : n ≤ 10000000) (h64 : I64s xs) (hfit : ¬ Fits xs W) :
    Calls Try.prog 42 #[.slice a0 n cap, .int .i64 (W : Int)] w fun e w' => e = .returned (.tuple #[noInts, .int .i64 1]) ∧ Below w.heap.size w w' := by
  have hw := fun u => isWidth_any (W : Int) u
  rw [decide_eq_true (by omega)] at hw
  have HW := Lib.hid hw
  have HX := Lib.hid (And.intro hx (And.intro hn (And.intro hfit h64)))
  clear hw hx hn hfit h64
  go_enter Try.func42, Try.ntmps42
  go_wp2_with fail
  refine (HW.out _).mono ?_
  rintro e w' ⟨rfl, rfl⟩
  go_wp2_with fail
  refine (new_any _).mono ?_
  rintro e w3 ⟨rfl, hB, hb⟩
  have hPK := PK.start w w3 W (by simpa using hB) hb
  simp only [World.size_alloc]
  have HP := Lib.hid hPK
  clear hB hb hPK HW
  go_wp2
  generalize w3.alloc (.cells #[.pointer (some ⟨w.heap.size + 1 + 1, 0, none⟩)] 67) = w4 at *
  generalize w3.heap.size = vb at *
  go_loopw [19] (fun v wr => ∃ i : Nat, i ≤ n ∧ v = .int .i64 (i : Int) ∧ Fits (xs.take i) W ∧ ∃ s, PK w W vb (rowB (xs.take i) W) s wr) (fun v _ => n - (intOf v).toNat)
  case atStart => exact ⟨0, Nat.zero_le _, rfl, by simp [Fits], _, HP.out⟩
  case round =>
    obtain ⟨i, hi, rfl, hft, s, hk⟩ := hrel
    obtain ⟨hx, hn, hfit, h64⟩ := HX.out
    by_cases hlt : i < n
    · rcases hx.kept hk.bel with hnil | ⟨b, off, rfl, hbs, hcs⟩
      · subst hnil; simp at hn; omega
      have hcb := hcs i (by omega)
      have q1 : (i : Int) < (n : Int) := by omega
      have q2 : (0 : Int) ≤ (i : Int) := by omega
      by_cases hxi : 0 ≤ xs.getD i 0 ∧ xs.getD i 0 < 2 ^ W
      · have hp := pack1_pk hk hW (by omega) (by omega) hxi
        have hft' : Fits (xs.take (i + 1)) W := by
          rw [takeI_snoc xs i (by omega)]
          intro x hx
          rcases List.mem_append.1 hx with h | h
          · exact hft x h
          · simp only [List.mem_singleton] at h; subst h; exact hxi
        have HC := Lib.hid (And.intro hp hft')
        clear hcs hp hk hn hfit hx HP hxi hft hft' h64
        generalize xs.getD i 0 = x at *
        go_wp2_with fail
        refine HC.out.1.mono ?_
        rintro e w5 ⟨rfl, s', hk⟩
        have HK := Lib.hid hk
        clear hk hcb
        go_wp2
        go_roundw
        case rel => exact ⟨i + 1, by omega, by go_num, HC.out.2, s', HK.out⟩
        case measure => simp [intOf]; omega
      · have hr := h64 _ (memI xs i (by omega))
        have hp := pack1_no vb w.heap.size (w.heap.size + 1 + 1) (xs.getD i 0) W wr hk.cp hk.cw hW hr.1 hr.2 hxi
        obtain ⟨cw, r0, r1, r2, r3, z0, z1, z2, z3, -, -, -, -, hbel⟩ := hk
        have HC := Lib.hid (And.intro hp hbel)
        clear hcs hp hn hfit hx HP hxi hft h64 hbel hr cw
        generalize xs.getD i 0 = x at *
        go_wp2_with fail
        refine HC.out.1.mono ?_
        rintro e w5 ⟨rfl, rfl⟩
        go_wp2
        refine bodyPost_ret (v := .tuple #[noInts, .int .i64 1]) (by simp [results, Try.results42, go_sem, r0, r1, r2, r3, noInts]) rfl ?_
        exact ⟨rfl, below_stored4 HC.out.2 _ _ _ _⟩
    · exfalso
      have hti : xs.take i = xs := by rw [List.take_of_length_le (by omega)]
      rw [hti] at hft
      exact hfit hft

end Go.Proofs.Ytfhlcclbjagdmaa
