/- The contracts of the document's own answers: Number, Bytes. -/
import Derived.Test.YtilfjdmgeflagaaT
namespace Go.Proofs.Ytilfjdmgeflagaa
open Go.RowKit
open M

theorem num_snoc (l : List Bool) (a i : Nat) (h : a + i < l.length) : num ((l.drop a).take (i + 1)) = num ((l.drop a).take i) + if l.getD (a + i) false = true then 2 ^ i else 0 := by
  rw [take_snoc (l.drop a) i _ (by simp; omega) rfl, num_append]
  have e : (l.drop a).getD i false = l.getD (a + i) false := by simp [List.getD_eq_getElem?_getD]
  rw [e]
  have hl : ((l.drop a).take i).length = i := by simp; omega
  rw [hl]
  simp only [num]
  split <;> simp

theorem num_take_lt (l : List Bool) (a i : Nat) : num ((l.drop a).take i) < 2 ^ i :=
  Nat.lt_of_lt_of_le (num_lt _) (Nat.pow_le_pow_right (by decide) (by simp; omega))

def pw (i : Nat) : Nat := 2 ^ i % 18446744073709551616

theorem pw_lt (i : Nat) : pw i < 18446744073709551616 := Nat.mod_lt _ (by decide)
theorem pw_eq (i : Nat) (h : i < 64) : pw i = 2 ^ i := Nat.mod_eq_of_lt (show 2 ^ i < 2 ^ 64 from Nat.pow_lt_pow_right (by decide) h)
theorem pw_succ (i : Nat) : IntKind.u64.wrap ((pw i : Int) * 2) = (pw (i + 1) : Int) := by
  rw [IntKind.wrap_u64]; unfold pw; rw [Nat.pow_succ]; omega
theorem pw_add (l : List Bool) (a i : Nat) (h : i < 64) : IntKind.u64.wrap ((num ((l.drop a).take i) : Int) + (pw i : Int)) = (num ((l.drop a).take i) : Int) + (pw i : Int) := by
  have h1 := num_take_lt l a i
  have h2 := pw_eq i h
  have h3 : (2 : Nat) ^ i * 2 ≤ 2 ^ 64 := by rw [← Nat.pow_succ]; exact Nat.pow_le_pow_right (by decide) (by omega)
  rw [IntKind.wrap_u64]; omega

set_option maxHeartbeats 1000000 in
theorem rnum_in (a0 : Option Addr) (cap n : Nat) (l : List Bool) (a m : Nat) (w : World) (h : BoolsAt w a0 l) (hn : l.length = n) (hm : m ≤ 64) (ham : a + m ≤ n) (hl : n ≤ 1000000000) :
    Calls Try.prog 40 #[.slice a0 n cap, .int .i64 (a : Int), .int .i64 (m : Int)] w fun e w' => e = .returned (.tuple #[.int .u64 (num ((l.drop a).take m) : Nat), .int .i64 0]) ∧ w = w' := by
  have HB := Lib.hid (And.intro h hn)
  clear h hn
  go_enter Try.func40, Try.ntmps40
  go_wp2
  go_loop [8, 9, 10] (fun v8 v9 v10 => ∃ i : Nat, i ≤ m ∧ v10 = .int .i64 (i : Int) ∧ v8 = .int .u64 (num ((l.drop a).take i) : Nat) ∧ v9 = .int .u64 (pw i : Nat)) (fun _ _ v10 => m - (intOf v10).toNat)
  case atStart => exact ⟨0, Nat.zero_le _, rfl, rfl, rfl⟩
  case round =>
    obtain ⟨i, hi, rfl, rfl, rfl⟩ := hrel
    by_cases hlt : i < m
    · rcases HB.out.1 with hnil | ⟨b, off, rfl, hbs, hcs⟩
      · have := HB.out.2; subst hnil; simp at this; omega
      have hln := HB.out.2
      have hcb := hcs (a + i) (by omega)
      have hs := num_snoc l a i (by omega)
      have hpa := pw_add l a i (by omega)
      have hps := pw_succ i
      have hpe := pw_eq i (by omega)
      have HS := Lib.hid (And.intro hs hpe)
      clear hs hcs hpe hln
      have hcb' : w.cell? ⟨b, off + (a + i), none⟩ = some (.bool (l.getD (a + i) false)) := hcb
      clear hcb
      generalize hbv : l.getD (a + i) false = bv at *
      clear hbv
      generalize hp1 : pw i = p1 at *
      generalize hp2 : pw (i + 1) = p2 at *
      generalize hq : num ((l.drop a).take i) = q at *
      have HP := Lib.hid (And.intro hp1 (And.intro hp2 hq))
      clear hp1 hp2 hq
      cases bv
      · clear hpa
        go_wp2
        go_round
        case rel => exact ⟨i + 1, by omega, by go_num, by rw [HS.out.1]; simp, by rw [HP.out.2.1]⟩
        case measure => simp [intOf]; omega
      · go_wp2
        go_round
        case rel => exact ⟨i + 1, by omega, by go_num, by rw [HS.out.1, ← HS.out.2]; simp, by rw [HP.out.2.1]⟩
        case measure => simp [intOf]; omega
    · obtain rfl : i = m := by omega
      go_wp2
      go_ret2
      exact ⟨rfl, rfl⟩

set_option maxHeartbeats 1000000 in
theorem rnum_arg (a0 : Option Addr) (cap n : Nat) (x y : Int) (w : World) (hy : y < 0 ∨ 64 < y) :
    Calls Try.prog 40 #[.slice a0 n cap, .int .i64 x, .int .i64 y] w fun e w' => e = .returned (.tuple #[.int .u64 0, .int .i64 1]) ∧ w = w' := by
  by_cases h0 : y < 0
  · clear hy
    go_enter Try.func40, Try.ntmps40
    go_wp2
    go_ret2
    exact ⟨rfl, rfl⟩
  · have hy : 64 < y := by omega
    go_enter Try.func40, Try.ntmps40
    go_wp2
    go_ret2
    exact ⟨rfl, rfl⟩

set_option maxHeartbeats 1000000 in
theorem rnum_range (a0 : Option Addr) (cap n : Nat) (x y : Int) (w : World) (_hl : n ≤ 1000000000) (h1 : 0 ≤ y) (h2 : y ≤ 64) (hx : x < 0 ∨ (n : Int) < x + y) (hxx : x ≤ 9223372036854775807) :
    Calls Try.prog 40 #[.slice a0 n cap, .int .i64 x, .int .i64 y] w fun e w' => e = .returned (.tuple #[.int .u64 0, .int .i64 13]) ∧ w = w' := by
  by_cases h0 : x < 0
  · clear hx
    go_enter Try.func40, Try.ntmps40
    go_wp2
    go_ret2
    exact ⟨rfl, rfl⟩
  · by_cases h3 : (n : Int) < x
    · clear hx
      go_enter Try.func40, Try.ntmps40
      go_wp2
      go_ret2
      exact ⟨rfl, rfl⟩
    · have hx : (n : Int) - x < y := by omega
      go_enter Try.func40, Try.ntmps40
      go_wp2
      go_ret2
      exact ⟨rfl, rfl⟩

/-- A bit behind: what becomes of the bytes. -/
theorem byt_snoc (l : List Bool) (b : Bool) (k : Nat) : byt (l ++ [b]) k = byt l k + if k = l.length / 8 ∧ b = true then 2 ^ (l.length % 8) else 0 := by
  unfold byt
  by_cases h1 : l.length < 8 * k
  · rw [List.drop_eq_nil_of_le (by simp; omega), List.drop_eq_nil_of_le (by omega), if_neg (by omega)]
    rfl
  · rw [List.drop_append_of_le_length (by omega)]
    by_cases h2 : 8 * k + 8 ≤ l.length
    · rw [List.take_append_of_le_length (by simp; omega), if_neg (by omega)]
      simp
    · have hl : (l.drop (8 * k)).length = l.length % 8 := by simp; omega
      rw [List.take_of_length_le (by simp; omega), List.take_of_length_le (by omega), num_append, hl]
      have hk : k = l.length / 8 := by omega
      simp only [num, hk, true_and]
      split <;> simp

theorem byt_snoc_lt (l : List Bool) (b : Bool) (k : Nat) (_h : b = true) : byt (l ++ [b]) k < 256 := byt_lt _ _

def byL (l : List Bool) (n : Nat) : List Value := (List.range n).map fun k => Value.int .u8 (byt l k : Nat)

theorem byL_set (l : List Bool) (n k : Nat) (hk : k = l.length / 8) : (byL l n).set k (.int .u8 (byt (l ++ [true]) k : Nat)) = byL (l ++ [true]) n := by
  apply List.ext_getElem
  · simp [byL]
  · intro j h1 h2
    simp only [byL, List.getElem_set, List.getElem_map, List.getElem_range]
    by_cases e : k = j
    · subst e; simp
    · simp only [e, if_false]
      rw [byt_snoc, if_neg (by omega)]
      simp

theorem byL_false (l : List Bool) (n : Nat) : byL (l ++ [false]) n = byL l n := by simp [byL, byt_snoc]

theorem byte_add (l : List Bool) (k q : Nat) (hk : k = l.length / 8) (hq : q = l.length % 8) : ((byt l k : Int) + 2 ^ q) % 256 = (byt (l ++ [true]) k : Int) := by
  have h := byt_snoc l true k
  rw [if_pos ⟨hk, rfl⟩, ← hq] at h
  have h2 := byt_lt (l ++ [true]) k
  have e : ((2 : Int) ^ q) = ((2 ^ q : Nat) : Int) := by simp
  rw [e]
  omega

set_option maxHeartbeats 1000000 in
theorem rbytes_any (a0 : Option Addr) (cap n : Nat) (l : List Bool) (w : World) (h : BoolsAt w a0 l) (hn : l.length = n) (hl : n ≤ 1000000000) :
    Calls Try.prog 22 #[.slice a0 n cap] w fun e w' => e = .returned (.string (strOfNums (bytI l (p8 n)))) ∧ Below w.heap.size w w' := by
  obtain ⟨i0, hi, hz0, hz1, hz2⟩ := info_parts info5
  have HB := Lib.hid (And.intro h hn)
  clear h hn
  have hp8 : p8 n ≤ 1000000000 := by unfold p8; omega
  have e8 : ((n : Int) + 7) / 8 = ((p8 n : Nat) : Int) := by unfold p8; omega
  generalize hp : p8 n = k at *
  have HP := Lib.hid hp
  clear hp
  have HE8 := Lib.hid e8
  clear e8
  go_enter Try.func22, Try.ntmps22
  go_wp2_with (first | (at_make; refine wpList_make_full _ rfl _ _ 55 rfl w.heap.size 5 i0 (.int .u8 0) 1 Try.underlying55 hi hz0 hz1 _ _ _ _ k rfl rfl HE8.out HE8.out ?b2 ?b3 ?b4 ?_))
  case b2 => rw [hz2]; omega
  case b3 => unfold maxLen; omega
  case b4 => simp
  intro w1 hown hgrow
  have hown0 : w1.ownsRow w.heap.size 5 1 (Value.slice (some ⟨w.heap.size, 0, none⟩) k k) k (byL (l.take 0) k) := by
    rw [toList_madeCells_one] at hown
    rw [show byL (l.take 0) k = List.replicate k (Value.int .u8 0) from ?_]
    · exact hown
    · apply List.ext_getElem <;> simp [byL, byt, num]
  have H1 := Lib.hid (And.intro hown0 (below_grown hgrow))
  clear hown hgrow hown0
  go_wp2
  go_loopw [4] (fun v wr => ∃ i : Nat, i ≤ n ∧ v = .int .i64 (i : Int) ∧ wr.ownsRow w.heap.size 5 1 (Value.slice (some ⟨w.heap.size, 0, none⟩) k k) k (byL (l.take i) k) ∧ Below w.heap.size w wr) (fun v _ => n - (intOf v).toNat)
  case atStart => exact ⟨0, Nat.zero_le _, rfl, H1.out.1, H1.out.2⟩
  case round =>
    obtain ⟨i, hik, rfl, r1, r3⟩ := hrel
    by_cases hlt : i < n
    · have hln := HB.out.2
      rcases HB.out.1.kept r3 with hnil | ⟨b, off, rfl, hbs, hcs⟩
      · subst hnil; simp at hln; omega
      have hcb := hcs i (by omega)
      have hli : (l.take i).length = i := by simp; omega
      have hts := take_snoc l i _ (by omega) rfl
      have hk8 : i / 8 < k := by have := HP.out; unfold p8 at this; omega
      clear hcs
      cases hbv : l.getD i false
      · rw [hbv] at hcb hts
        have HX : Hid (wr.ownsRow w.heap.size 5 1 (Value.slice (some ⟨w.heap.size, 0, none⟩) k k) k (byL (l.take (i + 1)) k) ∧ Below w.heap.size w wr) := by
          refine ⟨?_, r3⟩
          rw [hts, byL_false]; exact r1
        clear hbv hts r1 r3 hli hln
        go_wp2
        go_roundw
        case rel => exact ⟨i + 1, by omega, by go_num, HX.out⟩
        case measure => simp [intOf]; omega
      · rw [hbv] at hcb hts
        have hfz := r1.frozenAt (i / 8)
        have hcw : wr.cell? ⟨w.heap.size, i / 8, none⟩ = some (.int .u8 (byt (l.take i) (i / 8) : Nat)) := by
          rw [r1.cellAt (i / 8) (by omega)]; simp [byL, hk8]
        have hst := (r1.stored (i / 8) (.int .u8 (byt (l.take i ++ [true]) (i / 8) : Nat))).1
        rw [byL_set (l.take i) k (i / 8) (by rw [hli]), ← hts] at hst
        have hba := byte_add (l.take i) (i / 8) (i % 8) (by rw [hli]) (by rw [hli])
        rw [← hts] at hba
        have HX := Lib.hid (And.intro hst (And.intro hba r3))
        clear hbv hts r1 r3 hli hln hst hba
        generalize byt (l.take i) (i / 8) = y at *
        go_wp2
        go_roundw
        case rel => exact ⟨i + 1, by omega, by go_num, by rw [HX.out.2.1]; exact HX.out.1, by rw [HX.out.2.1]; exact HX.out.2.2.setCell (by simp) _⟩
        case measure => simp [intOf]; omega
    · obtain rfl : i = n := by omega
      have hti : l.take i = l := by rw [← HB.out.2]; simp
      rw [hti] at r1
      have hcv := run_convert_bytes_arg (P := Try.prog) wr 55 5 Try.underlying55 Try.underlying5 w.heap.size 0 k k (bytI l k) (by simp [bytI]) (by
        intro j hj
        rw [Nat.zero_add, r1.cellAt j (by omega)]
        simp [byL, bytI, hj]) 9 Try.underlying9
      have R3 := Lib.hid r3
      clear r1 r3 hti
      go_wp2
      go_ret
      exact ⟨rfl, R3.out⟩

end Go.Proofs.Ytilfjdmgeflagaa
