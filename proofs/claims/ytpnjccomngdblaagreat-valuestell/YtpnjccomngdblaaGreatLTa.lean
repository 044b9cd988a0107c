/- What ValuesTell asks. -/
import Derived.Test.YtpnjccomngdblaaGreatVW
set_option maxRecDepth 100000
namespace Go.Proofs.YtpnjccomngdblaaGreat
open Go.RowKit
open M
attribute [local go_sem ↓] Go.wp_at_zero Go.wp_at_succ

variable {w u w' : World} {b c : Nat} {F : FQ} {E : Option Addr} {ss : List ByteArray}
/-- Four numbers, in their box. -/
structure QV (u : World) (b : Nat) (x0 x1 x2 x3 : Int) : Prop where
  c0 : u.cell? ⟨b, 0, none⟩ = some (.int .i64 x0)
  c1 : u.cell? ⟨b, 1, none⟩ = some (.int .i64 x1)
  c2 : u.cell? ⟨b, 2, none⟩ = some (.int .i64 x2)
  c3 : u.cell? ⟨b, 3, none⟩ = some (.int .i64 x3)
theorem QV.kept {u u' : World} {b : Nat} {x0 x1 x2 x3 : Int} (h : QV u b x0 x1 x2 x3) (hb : Below u.heap.size u u') : QV u' b x0 x1 x2 x3 := by
  have hlt := World.block_lt_of_cell? u _ h.c0
  have cl : ∀ o, u'.cell? ⟨b, o, none⟩ = u.cell? ⟨b, o, none⟩ := fun o => hb.cell (p := ⟨b, o, none⟩) hlt
  exact ⟨by rw [cl]; exact h.c0, by rw [cl]; exact h.c1, by rw [cl]; exact h.c2, by rw [cl]; exact h.c3⟩
theorem QV.new (w : World) (x0 x1 x2 x3 : Int) : QV (w.alloc (.cells #[.int .i64 x0, .int .i64 x1, .int .i64 x2, .int .i64 x3] 23)) w.heap.size x0 x1 x2 x3 := ⟨by simp, by simp, by simp, by simp⟩
structure LQ4 (w : World) (b : Nat) (F : FQ) (E : Option Addr) (c : Nat) (B : Option Addr) (ss : List ByteArray) (qb : Nat) (x0 x1 x2 x3 : Int) (u : World) : Prop where
  lq : LQV w b F E c B ss u
  qv : QV u qb x0 x1 x2 x3
theorem LQ4.kept {u' : World} {B : Option Addr} {qb : Nat} {x0 x1 x2 x3 : Int} (h : LQ4 w b F E c B ss qb x0 x1 x2 x3 u) (hb : Below u.heap.size u u') : LQ4 w b F E c B ss qb x0 x1 x2 x3 u' := ⟨h.lq.kept hb, h.qv.kept hb⟩
def atA (ss : List ByteArray) (q : Int) : Int := if 0 ≤ q ∧ q < (bg ss ss.length : Int) then (tx ss q.toNat : Int) else -1
def atB (ss : List ByteArray) (q : Int) : Int := if 0 ≤ q ∧ q < (bg ss ss.length : Int) then ((q.toNat - bg ss (tx ss q.toNat) : Nat) : Int) else -1
theorem VX.atE (h : VX w b F E c ss u) (q : Int) : Calls Tryz.prog 16 #[.agg #[.int .i64 (F.N : Int), .int .i64 F.Z, .slice F.wa F.wW F.wc, .int .i64 (F.R.n : Int), .slice F.R.a F.R.m F.R.c, .int .i64 (F.R.cn : Int), .int .i64 (F.R.cW : Int), .int .i64 (F.R.cL : Int), .slice F.R.a2 F.R.m2 F.R.c2, .int .i64 (F.S.n : Int), .int .i64 (F.S.W : Int), .int .i64 (F.S.L : Int), .slice F.S.a F.S.m F.S.c, .int .i64 (F.P.n : Int), .int .i64 (F.P.W : Int), .int .i64 (F.P.L : Int), .slice F.P.a F.P.m F.P.c, .slice E ss.length c], .int .i64 q] u fun e u' => e = .returned (.tuple #[.int .i64 (atA ss q), .int .i64 (atB ss q)]) ∧ Below u.heap.size u u' := by
  unfold atA atB
  by_cases h0 : q < 0
  · rw [if_neg (by omega), if_neg (by omega)]
    exact at_low q E ss.length c F h0
  · by_cases h1 : (bg ss ss.length : Int) ≤ q
    · rw [if_neg (by omega), if_neg (by omega)]
      exact at_high q h.vi h1
    · obtain ⟨n, rfl⟩ : ∃ n : Nat, q = (n : Int) := ⟨q.toNat, by omega⟩
      rw [if_pos (by omega), if_pos (by omega), Int.toNat_natCast]
      exact at_in n h.vi (by omega)
theorem ratE (A : Option Addr) (cp : Nat) (ss : List ByteArray) (q : Int) (w : World) (hA : StrsAt w A ss) (hq2 : q ≤ 9223372036854775807) (hB : bg ss ss.length ≤ 100000) :
    Calls Tryz.prog 17 #[.slice A ss.length cp, .int .i64 q] w fun e u => e = .returned (.tuple #[.int .i64 (atA ss q), .int .i64 (atB ss q)]) ∧ u = w := by
  unfold atA atB
  by_cases h0 : q < 0
  · rw [if_neg (by omega), if_neg (by omega)]
    exact rat_low A ss.length cp q w h0
  · by_cases h1 : (bg ss ss.length : Int) ≤ q
    · rw [if_neg (by omega), if_neg (by omega)]
      exact rat_high A ss.length cp ss q w hA rfl h1 hq2 hB
    · obtain ⟨n, rfl⟩ : ∃ n : Nat, q = (n : Int) := ⟨q.toNat, by omega⟩
      rw [if_pos (by omega), if_pos (by omega), Int.toNat_natCast]
      obtain ⟨k1, k2, k3⟩ := tx_ok (ss := ss) (q := n) (by rw [row_len]; omega)
      exact rat_in A ss.length cp ss n (tx ss n) w hA rfl k1 k2 k3 hB
theorem exL_whole (l : List Int) (h : l.length ≤ 300) : exL l 0 300 = l := by
  unfold exL
  have : lo l.length 0 = 0 := lo_at l.length 0 (by omega)
  rw [this, List.drop_zero]
  exact List.take_of_length_le (by simpa using h)
/-- Which text's part is asked: what is told of it. -/
structure TA (ss : List ByteArray) (x0 x1 x2 : Int) (S T : ByteArray) (fc : Int) (is : Bool) : Prop where
  is_ : is = decide (0 ≤ x0 ∧ x0 < (ss.length : Int))
  fc_ : fc = if is = true then 0 else 13
  s_ : S = if is = true then prV (tV ss x0.toNat) x1 x2 else ⟨#[]⟩
  t_ : T = if is = true then tV ss x0.toNat else ⟨#[]⟩
theorem VX.partE (h : VX w b F E c ss u) {x0 x1 x2 : Int} {S T : ByteArray} {fc : Int} {is : Bool} (hT : TA ss x0 x1 x2 S T fc is) : Calls Tryz.prog 14 #[.agg #[.int .i64 (F.N : Int), .int .i64 F.Z, .slice F.wa F.wW F.wc, .int .i64 (F.R.n : Int), .slice F.R.a F.R.m F.R.c, .int .i64 (F.R.cn : Int), .int .i64 (F.R.cW : Int), .int .i64 (F.R.cL : Int), .slice F.R.a2 F.R.m2 F.R.c2, .int .i64 (F.S.n : Int), .int .i64 (F.S.W : Int), .int .i64 (F.S.L : Int), .slice F.S.a F.S.m F.S.c, .int .i64 (F.P.n : Int), .int .i64 (F.P.W : Int), .int .i64 (F.P.L : Int), .slice F.P.a F.P.m F.P.c, .slice E ss.length c], .int .i64 x0, .int .i64 x1, .int .i64 x2] u fun e u' => e = .returned (.tuple #[.string S, .int .i64 fc]) ∧ Below u.heap.size u u' := by
  obtain ⟨h1, h2, h3, -⟩ := hT
  by_cases h0 : 0 ≤ x0 ∧ x0 < (ss.length : Int)
  · rw [decide_eq_true h0] at h1
    subst h1
    rw [if_pos rfl] at h2 h3
    subst h2 h3
    obtain ⟨n, rfl⟩ : ∃ n : Nat, x0 = (n : Int) := ⟨x0.toNat, by omega⟩
    rw [Int.toNat_natCast]
    exact part_ok n x1 x2 h.vi (by omega)
  · rw [decide_eq_false h0] at h1
    subst h1
    rw [if_neg (by simp)] at h2 h3
    subst h2 h3
    exact part_no x0 x1 x2 E ss.length c F (by omega)
theorem VX.getE (h : VX w b F E c ss u) {x0 x1 x2 : Int} {S T : ByteArray} {fc : Int} {is : Bool} (hT : TA ss x0 x1 x2 S T fc is) : Calls Tryz.prog 13 #[.agg #[.int .i64 (F.N : Int), .int .i64 F.Z, .slice F.wa F.wW F.wc, .int .i64 (F.R.n : Int), .slice F.R.a F.R.m F.R.c, .int .i64 (F.R.cn : Int), .int .i64 (F.R.cW : Int), .int .i64 (F.R.cL : Int), .slice F.R.a2 F.R.m2 F.R.c2, .int .i64 (F.S.n : Int), .int .i64 (F.S.W : Int), .int .i64 (F.S.L : Int), .slice F.S.a F.S.m F.S.c, .int .i64 (F.P.n : Int), .int .i64 (F.P.W : Int), .int .i64 (F.P.L : Int), .slice F.P.a F.P.m F.P.c, .slice E ss.length c], .int .i64 x0] u fun e u' => e = .returned (.tuple #[.string T, .int .i64 fc]) ∧ Below u.heap.size u u' := by
  obtain ⟨h1, h2, -, h3⟩ := hT
  by_cases h0 : 0 ≤ x0 ∧ x0 < (ss.length : Int)
  · rw [decide_eq_true h0] at h1
    subst h1
    rw [if_pos rfl] at h2 h3
    subst h2 h3
    obtain ⟨n, rfl⟩ : ∃ n : Nat, x0 = (n : Int) := ⟨x0.toNat, by omega⟩
    rw [Int.toNat_natCast]
    exact get_ok n h.vi (by omega)
  · rw [decide_eq_false h0] at h1
    subst h1
    rw [if_neg (by simp)] at h2 h3
    subst h2 h3
    exact get_no x0 h.vi (by omega)
theorem rpart_neg (s : ByteArray) (f n : Int) (w : World) (h0 : f < 0) (h1 : 1 ≤ n) :
    Calls Tryz.prog 15 #[.string s, .int .i64 f, .int .i64 n] w fun e u => e = .returned (.string (s.extract 0 (0 + min n.toNat (s.size - 0)))) ∧ u = w := by
  have q1 : ¬ (s.size : Int) < 0 := by omega
  have q2 : ¬ n < 1 := by omega
  have hd := ba_ex_size s (a := 0) (b := s.size) (Nat.le_refl _)
  rw [Nat.sub_zero] at hd ⊢
  by_cases h2 : n < (s.size : Int)
  · obtain ⟨m, rfl⟩ : ∃ m : Nat, n = (m : Int) := ⟨n.toNat, by omega⟩
    have e := ex_ex s 0 m (by omega)
    rw [Nat.zero_add] at e
    rw [Int.toNat_natCast, Nat.min_eq_left (by omega), Nat.zero_add]
    have HE := Lib.hid e
    obtain ⟨t, ht⟩ : ∃ t, s.extract 0 s.size = t := ⟨_, rfl⟩
    rw [ht] at hd HE
    have q3 : (m : Int) < (t.size : Int) := by omega
    have q4 : m ≤ t.size := by omega
    have q6 : (m : Int) ≤ (t.size : Int) := by omega
    clear e hd h1 h2
    go_enter Tryz.func15, Tryz.ntmps15
    go_wp2
    go_ret
    rw [← HE.out]
    first | exact ⟨rfl, rfl⟩ | (rw [ht]; exact ⟨rfl, rfl⟩)
  · have e : s.extract 0 (min n.toNat s.size) = s.extract 0 s.size := by
      congr 1
      omega
    rw [Nat.zero_add]
    have HE := Lib.hid e
    obtain ⟨t, ht⟩ : ∃ t, s.extract 0 s.size = t := ⟨_, rfl⟩
    rw [ht] at hd HE
    have q3 : ¬ n < (t.size : Int) := by omega
    clear e hd h1 h2
    go_enter Tryz.func15, Tryz.ntmps15
    go_wp2
    go_ret
    rw [HE.out]
    first | exact ⟨rfl, rfl⟩ | (rw [ht]; exact ⟨rfl, rfl⟩)
theorem rpartE (s : ByteArray) (f n : Int) (w : World) (hs : s.size ≤ 100000) : Calls Tryz.prog 15 #[.string s, .int .i64 f, .int .i64 n] w fun e u => e = .returned (.string (prV s f n)) ∧ u = w := by
  by_cases h : (s.size : Int) < f ∨ n < 1
  · exact rpart_out s f n w h
  · by_cases h0 : f < 0
    · have e : prV s f n = s.extract 0 (0 + min n.toNat (s.size - 0)) := by unfold prV; rw [show lo s.size f = 0 by unfold lo; omega]
      rw [e]
      exact rpart_neg s f n w h0 (by omega)
    · obtain ⟨k, rfl⟩ : ∃ k : Nat, f = (k : Int) := ⟨f.toNat, by omega⟩
      have := rpart_nat s k n w (by omega) (by omega)
      unfold prV
      rw [lo_at s.size k (by omega)]
      exact this


end Go.Proofs.YtpnjccomngdblaaGreat
