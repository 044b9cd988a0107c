/- The walk of BitsBack. -/
import Derived.Test.YtpbemhcibhnhkaaBackA
import Derived.Test.YtpbemhcibhnhkaaCount
import Derived.Deep.RegionHeld3
import Derived.Deep.DrawnRows
namespace Go.Proofs.Ytpbemhcibhnhkaa
open Go.RowKit
open M
attribute [local go_sem ↓] Go.wp_at_zero Go.wp_at_succ

def pv (b : List Bool) : Value := .int .u64 (num b : Nat)
def qv (b : List Bool) : Value := .int .i64 (b.length : Int)

theorem info3 : (Try.prog.info? 3).map (fun i => (i.zero, i.size, i.bytes)) = some (some (.int .i64 0), 1, 8) := by kernel_rfl

theorem cut_and (X k : Nat) (hX : X < 2 ^ 64) (hk : k ≤ 64) : bits .and .u64 (X : Int) (IntKind.u64.wrap (IntKind.u64.wrap ((2 : Int) ^ k) - 1)) = (num (bitsOf (X % 2 ^ k) k) : Int) := by
  have h2 : 2 ^ k - 1 < 2 ^ 64 := by
    have : (2 : Nat) ^ k ≤ 2 ^ 64 := Nat.pow_le_pow_right (by decide) hk
    have : (0 : Nat) < 2 ^ k := Nat.pow_pos (by decide)
    omega
  rw [low_eq k hk, andU _ _ hX h2, Nat.and_two_pow_sub_one_eq_mod, num_bitsOf _ _ (Nat.mod_lt _ (Nat.pow_pos (by decide)))]

theorem cut_ex (X k : Nat) (hX : X < 2 ^ 64) (hk : k ≤ 64) : ∃ b : List Bool, b.length = k ∧ (k < 64 → bits .and .u64 (X : Int) (IntKind.u64.wrap (IntKind.u64.wrap ((2 : Int) ^ k) - 1)) = (num b : Int)) ∧ (¬ k < 64 → (X : Int) = (num b : Int)) := by
  refine ⟨bitsOf (X % 2 ^ k) k, bitsOf_length _ _, fun _ => cut_and X k hX hk, fun h => ?_⟩
  obtain rfl : k = 64 := by omega
  rw [num_bitsOf _ _ (Nat.mod_lt _ (Nat.pow_pos (by decide))), Nat.mod_eq_of_lt hX]

/-- A row of the call's own, as the slice that it is. -/
theorem own_form {w : World} {base : Nat} {e : TypeId} {v : Value} {n : Nat} {xs : List Value} (h : w.ownsRow base e 1 v n xs) : ∃ a c, v = .slice a n c ∧ (0 < n → ∃ g, a = some ⟨g, 0, none⟩) := by
  rcases h.2 with ⟨rfl, rfl⟩ | ⟨g, cap, cur, rfl, -⟩
  · exact ⟨none, 0, rfl, fun h => by omega⟩
  · exact ⟨_, cap, rfl, fun _ => ⟨g, rfl⟩⟩

/-- Behind the first loop: the row is made, in its box; what was put lies in two rows beside it. -/
def BK (w : World) (bx g base : Nat) (v7 v8 : Value) (F : List Bool) (p q : List Value) (u : World) : Prop :=
  Rw w bx g F u ∧ u.ownsRow base 34 1 v7 p.length p ∧ u.ownsRow base 3 1 v8 q.length q
theorem BK.kept {w u u' : World} {bx g base : Nat} {v7 v8 : Value} {F : List Bool} {p q : List Value} (h : BK w bx g base v7 v8 F p q u) (hb : Below u.heap.size u u') : BK w bx g base v7 v8 F p q u' :=
  ⟨h.1.kept hb, own_kept h.2.1 hb, own_kept h.2.2 hb⟩
theorem BK.drew {w u : World} {bx g base : Nat} {v7 v8 : Value} {F : List Bool} {p q : List Value} (h : BK w bx g base v7 v8 F p q u) : BK w bx g base v7 v8 F p q u.drew := h.kept ((Below.refl _ _).drew)
theorem BK.alloc {w u : World} {bx g base : Nat} {v7 v8 : Value} {F : List Bool} {p q : List Value} (h : BK w bx g base v7 v8 F p q u) (o : Obj) : BK w bx g base v7 v8 F p q (u.alloc o) := h.kept ((Below.refl _ _).alloc (Nat.le_refl _) _)
theorem BK.box {w u : World} {bx g base N : Nat} {v7 v8 : Value} {F : List Bool} {p q : List Value} (h : BK w bx g base v7 v8 F p q u) (hn : F.length = N) : u.cell? ⟨bx, 0, none⟩ = some (.int .i64 (N : Int)) ∧ u.cell? ⟨bx, 1, none⟩ = some (.slice (some ⟨g, 0, none⟩) (nw N) (nw N)) := by
  subst hn; exact h.1.1

theorem BK.cell7 {w u : World} {bx g base g7 m c : Nat} {v8 : Value} {F : List Bool} {bs : List (List Bool)} {q : List Value} (h : BK w bx g base (.slice (some ⟨g7, 0, none⟩) m c) v8 F (bs.map pv) q u) (hm : bs.length = m) (j : Nat) (hj : j < m) :
    u.cell? ⟨g7, j, none⟩ = some (.int .u64 (num (bs.getD j []) : Nat)) := by
  have h1 := h.2.1
  rw [List.length_map, hm] at h1
  subst hm
  rw [World.ownsRow.cellAt h1 j (by omega)]
  simp [pv, List.getD_eq_getElem?_getD, hj]
theorem BK.cell8 {w u : World} {bx g base g8 m c : Nat} {v7 : Value} {F : List Bool} {bs : List (List Bool)} {p : List Value} (h : BK w bx g base v7 (.slice (some ⟨g8, 0, none⟩) m c) F p (bs.map qv) u) (hm : bs.length = m) (j : Nat) (hj : j < m) :
    u.cell? ⟨g8, j, none⟩ = some (.int .i64 ((bs.getD j []).length : Int)) := by
  have h1 := h.2.2
  rw [List.length_map, hm] at h1
  subst hm
  rw [World.ownsRow.cellAt h1 j (by omega)]
  simp [qv, List.getD_eq_getElem?_getD, hj]

theorem number_bk {w u : World} {bx g base : Nat} {v7 v8 : Value} {F : List Bool} {p q : List Value} (h : BK w bx g base v7 v8 F p q u) (N a n : Nat) (b : List Bool) (hN : F.length = N) (hN2 : N ≤ 1280) (hn : n ≤ 64) (han : a + n ≤ N) (hb : (F.drop a).take n = b) :
    Calls Try.prog 16 #[.agg #[.int .i64 (N : Int), .slice (some ⟨g, 0, none⟩) (nw N) (nw N)], .int .i64 (a : Int), .int .i64 (n : Int)] u fun e w' => e = .returned (.tuple #[.int .u64 (num b : Nat), .int .i64 0]) ∧ BK w bx g base v7 v8 F p q w' := by
  subst hN hb
  exact (number_in _ _ _ F a n u h.1.2.1 (by omega) hn han).mono fun e w' hh => ⟨hh.1, h.kept hh.2⟩

/-- A new box, not yet filled. -/
def Fresh (w : World) (bx g cb : Nat) (u : World) : Prop :=
  u.cell? ⟨cb, 0, none⟩ = some (.int .i64 0) ∧ u.cell? ⟨cb, 1, none⟩ = some (.slice none 0 0) ∧ u.frozen? ⟨cb, 0, none⟩ = false ∧ u.frozen? ⟨cb, 1, none⟩ = false ∧ cb ≠ bx ∧ cb ≠ g ∧ w.heap.size ≤ cb ∧ cb < u.heap.size
theorem Fresh.kept {w u u' : World} {bx g cb : Nat} (h : Fresh w bx g cb u) (hb : Below u.heap.size u u') : Fresh w bx g cb u' := by
  obtain ⟨h1, h2, h3, h4, h5, h6, h7, h8⟩ := h
  exact ⟨by rw [hb.cell (p := ⟨cb, 0, none⟩) h8]; exact h1, by rw [hb.cell (p := ⟨cb, 1, none⟩) h8]; exact h2, by rw [hb.frozen (p := ⟨cb, 0, none⟩) h8]; exact h3, by rw [hb.frozen (p := ⟨cb, 1, none⟩) h8]; exact h4, h5, h6, h7, Nat.lt_of_lt_of_le h8 hb.size⟩
theorem Fresh.drew {w u : World} {bx g cb : Nat} (h : Fresh w bx g cb u) : Fresh w bx g cb u.drew := h.kept ((Below.refl _ _).drew)
theorem BK.fresh {w u : World} {bx g base : Nat} {v7 v8 : Value} {F : List Bool} {p q : List Value} (h : BK w bx g base v7 v8 F p q u) : Fresh w bx g u.heap.size (u.alloc (.cells #[.int .i64 0, .slice none 0 0] 28)) := by
  have h1 := h.1.1.lt
  have h2 := row_lt h.1.2.1 g rfl
  exact ⟨by simp, by simp, by simp, by simp, by omega, by omega, h.1.2.2.size, by simp⟩

theorem len_bk {w u : World} {bx g base : Nat} {v7 v8 : Value} {F : List Bool} {p q : List Value} (N : Nat) (h : BK w bx g base v7 v8 F p q u) (hN : F.length = N) :
    Calls Try.prog 20 #[.agg #[.int .i64 (N : Int), .slice (some ⟨g, 0, none⟩) (nw N) (nw N)]] u fun e w' => e = .returned (.int .i64 (N : Int)) ∧ BK w bx g base v7 v8 F p q w' ∧ Below u.heap.size u w' := by
  subst hN
  exact (len_any _ F u h.1.2.1).mono fun e w' hh => ⟨hh.1, h.kept hh.2, hh.2⟩
theorem bytes_bk {w u : World} {bx g base : Nat} {v7 v8 : Value} {F : List Bool} {p q : List Value} (N : Nat) (str : ByteArray) (h : BK w bx g base v7 v8 F p q u) (hN : F.length = N) (hN2 : N ≤ 1280) (hs : strOfNums (bytI F (p8 N)) = str) :
    Calls Try.prog 24 #[.agg #[.int .i64 (N : Int), .slice (some ⟨g, 0, none⟩) (nw N) (nw N)]] u fun e w' => e = .returned (.string str) ∧ BK w bx g base v7 v8 F p q w' ∧ Below u.heap.size u w' := by
  subst hN hs
  exact (bytes_any _ _ _ F u h.1.2.1 (by omega)).mono fun e w' hh => ⟨hh.1, h.kept hh.2, hh.2⟩
theorem read_bk {w u : World} {bx g base : Nat} {v7 v8 : Value} {F : List Bool} {p q : List Value} (N : Nat) (str : ByteArray) (h : BK w bx g base v7 v8 F p q u) (hN : F.length = N) (hN2 : N ≤ 1280) (hs : strOfNums (bytI F (p8 N)) = str) :
    Calls Try.prog 26 #[.int .i64 (N : Int), .string str] u fun e w' => ∃ g', e = .returned (.tuple #[.agg #[.int .i64 (N : Int), .slice (some ⟨g', 0, none⟩) (nw N) (nw N)], .int .i64 0]) ∧ RowAt w' (.slice (some ⟨g', 0, none⟩) (nw N) (nw N)) F ∧ u.heap.size < g' ∧ BK w bx g base v7 v8 F p q w' ∧ Below u.heap.size u w' := by
  subst hN hs
  have hb := back_str F
  have hp : p8 F.length ≤ 1000 := by unfold p8; omega
  refine (read_ok F.length _ u (by rw [hb.1]; exact hp) hb.1 hb.2.2).mono ?_
  rintro e w' ⟨rfl, h1, h2⟩
  rw [hb.2.1] at h1
  exact ⟨_, rfl, h1, by omega, h.kept h2, h2⟩

/-- Both rows in their boxes. -/
def FK (w : World) (bx g cb g' N : Nat) (F : List Bool) (u : World) : Prop :=
  Bx u bx N (.slice (some ⟨g, 0, none⟩) (nw N) (nw N)) ∧ RowAt u (.slice (some ⟨g, 0, none⟩) (nw N) (nw N)) F ∧ Bx u cb N (.slice (some ⟨g', 0, none⟩) (nw N) (nw N)) ∧ RowAt u (.slice (some ⟨g', 0, none⟩) (nw N) (nw N)) F ∧ Below w.heap.size w u
theorem FK.kept {w u u' : World} {bx g cb g' N : Nat} {F : List Bool} (h : FK w bx g cb g' N F u) (hb : Below u.heap.size u u') : FK w bx g cb g' N F u' :=
  ⟨h.1.kept hb, h.2.1.kept hb, h.2.2.1.kept hb, h.2.2.2.1.kept hb, h.2.2.2.2.trans (hb.mono h.2.2.2.2.size)⟩
theorem fk_alloc {w u : World} {bx g base g' N : Nat} {v7 v8 : Value} {F : List Bool} {p q : List Value} (h : BK w bx g base v7 v8 F p q u) (hN : F.length = N) (hrow : RowAt u (.slice (some ⟨g', 0, none⟩) (nw N) (nw N)) F) :
    FK w bx g u.heap.size g' N F (u.alloc (.cells #[.int .i64 (N : Int), .slice (some ⟨g', 0, none⟩) (nw N) (nw N)] 28)) := by
  subst hN
  have hal : Below u.heap.size u (u.alloc (.cells #[.int .i64 (F.length : Int), .slice (some ⟨g', 0, none⟩) (nw F.length) (nw F.length)] 28)) := (Below.refl _ _).alloc (Nat.le_refl _) _
  exact ⟨h.1.1.kept hal, h.1.2.1.kept hal, Bx.new _ _ _, hrow.kept hal, h.1.2.2.trans (hal.mono h.1.2.2.size)⟩
theorem fk_set {w u : World} {bx g base cb g' N : Nat} {v7 v8 : Value} {F : List Bool} {p q : List Value} (h : BK w bx g base v7 v8 F p q u) (hN : F.length = N) (hrow : RowAt u (.slice (some ⟨g', 0, none⟩) (nw N) (nw N)) F) (hq : Fresh w bx g cb u) (hne : g' ≠ cb) :
    FK w bx g cb g' N F ((u.setCell ⟨cb, 0, none⟩ (.int .i64 (N : Int))).setCell ⟨cb, 1, none⟩ (.slice (some ⟨g', 0, none⟩) (nw N) (nw N))) := by
  subst hN
  obtain ⟨h1, h2, h3, h4, h5, h6, h7, h8⟩ := hq
  have hk : Kp (fun k => k = cb) u ((u.setCell ⟨cb, 0, none⟩ (.int .i64 (F.length : Int))).setCell ⟨cb, 1, none⟩ (.slice (some ⟨g', 0, none⟩) (nw F.length) (nw F.length))) := Kp.setCell (p := ⟨cb, 1, none⟩) (Kp.setCell (p := ⟨cb, 0, none⟩) (Kp.refl (fun k => k = cb) u) (.inl rfl) _) (.inl rfl) _
  have c0 : (u.setCell ⟨cb, 0, none⟩ (.int .i64 (F.length : Int))).cell? ⟨cb, 1, none⟩ = some (.slice none 0 0) := by
    rw [World.cell?_setCell_other _ _ _ _ (by simp)]; exact h2
  refine ⟨h.1.1.kp hk (fun e => h5 e.symm), row_kp h.1.2.1 hk (fun k e ek => ?_), ⟨?_, ?_⟩, row_kp hrow hk (fun k e ek => ?_), h.1.2.2.trans (hk.toBelow h.1.2.2.size (fun k hlt e => by omega))⟩
  · simp [Value.ownBlock] at e; omega
  · rw [World.cell?_setCell_other _ _ _ _ (by simp)]
    exact World.cell?_setCell_same' _ _ _ (by rw [h1]; rfl)
  · exact World.cell?_setCell_same' _ _ _ (by rw [c0]; rfl)
  · simp [Value.ownBlock] at e; omega

theorem len_fk {w u : World} {bx g cb g' N : Nat} {F : List Bool} (h : FK w bx g cb g' N F u) (hN : F.length = N) :
    Calls Try.prog 20 #[.agg #[.int .i64 (N : Int), .slice (some ⟨g, 0, none⟩) (nw N) (nw N)]] u fun e w' => e = .returned (.int .i64 (N : Int)) ∧ FK w bx g cb g' N F w' := by
  subst hN
  exact (len_any _ F u h.2.1).mono fun e w' hh => ⟨hh.1, h.kept hh.2⟩
theorem same_fk {w u : World} {bx g cb g' N : Nat} {F : List Bool} (h : FK w bx g cb g' N F u) (hN : F.length = N) (hN2 : N ≤ 1280) :
    Calls Try.prog 33 #[.agg #[.int .i64 (N : Int), .slice (some ⟨g', 0, none⟩) (nw N) (nw N)], .agg #[.int .i64 (N : Int), .slice (some ⟨g, 0, none⟩) (nw N) (nw N)]] u fun e w' => e = .returned (.bool true) ∧ Below w.heap.size w w' := by
  subst hN
  have := same_any _ _ _ _ _ _ F F u h.2.2.2.1 h.2.1 (by omega)
  rw [decide_eq_true rfl] at this
  exact this.mono fun e w' hh => ⟨hh.1, h.2.2.2.2.trans (hh.2.mono h.2.2.2.2.size)⟩

set_option maxRecDepth 100000 in
set_option maxHeartbeats 4000000 in
theorem back_core (a1 a2 : Option Addr) (n1 n2 c1 c2 M : Nat) (xs ys : List Int) (w : World) (hx : xs.length = n1) (hy : ys.length = n2) (hm1 : n1 ≤ 9223372036854775807) (hm2 : n2 ≤ 9223372036854775807)
    (hX : NumsAt .u64 w a1 xs) (hY : NumsAt .i64 w a2 ys) (hwf : ∀ n ∈ xs, (Lit.int .u64 n).wf = true) (hM : M = min (min n1 n2) 20) :
    Calls Try.prog 6 #[.slice a1 n1 c1, .slice a2 n2 c2] w fun e w' => e = .returned (.bool true) ∧ Below w.heap.size w w' := by
  obtain ⟨i3, hi3, hz30, hz31, hz32⟩ := info_parts info3
  obtain ⟨i34, hi34, hz340, hz341, hz342⟩ := info_parts info34
  have HI := Lib.hid (And.intro hX (And.intro hY (And.intro hwf (And.intro hx hy))))
  clear hX hY hwf hx hy
  go_enter Try.func6, Try.ntmps6
  go_wp2_with fail
  refine (awake_any _).mono ?_
  rintro e w1 ⟨rfl, hb1⟩
  have HW := Lib.hid hb1
  clear hb1
  go_wp2_with fail
  refine (new_any _).mono ?_
  rintro e w2 ⟨rfl, hbd, hb2⟩
  have hG := BG.start (w := w) 34 3 hbd (HW.out.trans (hb2.mono HW.out.size)) HW.out.size
  have HG := Lib.hid hG
  clear hG hbd hb2 HW
  generalize w1.heap.size = zb at *
  go_wp2
  go_loopw [7, 8, 9] (fun v7 v8 v9 wr => ∃ bs : List (List Bool), bs.length ≤ M ∧ v9 = .int .i64 (bs.length : Int) ∧ (∀ b ∈ bs, b.length ≤ 64) ∧ BG w zb 34 3 v7 v8 bs.flatten (bs.map pv) (bs.map qv) wr) (fun _ _ v9 _ => M - (intOf v9).toNat)
  case atStart => exact ⟨[], Nat.zero_le _, rfl, by simp, HG.out⟩
  case round =>
    obtain ⟨bs, hlen, rfl, h64, hG⟩ := hrel
    generalize hi : bs.length = i at *
    by_cases hlt : i < M
    · have hlt1 : i < n1 := by omega
      have hlt2 : i < n2 := by omega
      have hlt3 : i < 20 := by omega
      obtain ⟨hX, hY, hwf, hxl, hyl⟩ := HI.out
      rcases hX.kept hG.below with hnil | ⟨p1, o1, rfl, hp1, hc1⟩
      · subst hnil; simp at hxl; omega
      rcases hY.kept hG.below with hnil | ⟨p2, o2, rfl, hp2, hc2⟩
      · subst hnil; simp at hyl; omega
      have hcx := hc1 i (by omega)
      have hcy := hc2 i (by omega)
      have hxr := hwf (xs.getD i 0) (by simp [List.getD_eq_getElem?_getD, show i < xs.length by omega])
      obtain ⟨X, hXe⟩ : ∃ X : Nat, xs.getD i 0 = (X : Int) := Int.eq_ofNat_of_zero_le (bounds_u64 hxr).1
      have hX64 : X < 2 ^ 64 := by have := (bounds_u64 hxr).2; rw [hXe] at this; omega
      rw [hXe] at hcx
      generalize ys.getD i 0 = y at *
      have htm : ∃ k : Nat, k ≤ 64 ∧ (y.tmod 65 = (k : Int) ∨ (y.tmod 65 = -(k : Int) ∧ 0 < k)) := by
        have h1 := Int.tmod_lt_of_pos y (b := 65) (by omega)
        have h2 := Int.lt_tmod_of_pos y (b := 65) (by omega)
        by_cases h : 0 ≤ y.tmod 65
        · exact ⟨(y.tmod 65).toNat, by omega, .inl (by omega)⟩
        · exact ⟨(-(y.tmod 65)).toNat, by omega, .inr ⟨by omega, by omega⟩⟩
      obtain ⟨k, hk, ht⟩ := htm
      obtain ⟨b, hbl, hcut, hful⟩ := cut_ex X k hX64 hk
      have hfl := flat_le bs h64
      have hput := put_bg hG (num b : Nat) k rfl hbl hk (by omega)
      have HB := Lib.hid (And.intro hput (And.intro hcut (And.intro h64 (And.intro hbl hi))))
      clear hX hY hwf hc1 hc2 hxr hXe hG hcut hput hfl h64 hxl hyl hX64 hi hbl
      by_cases hk64 : k < 64
      case' neg =>
        rw [hful hk64] at hcx
      all_goals
        clear hful
        rcases ht with ht | ⟨ht, hk0⟩
        all_goals
          go_wp2_with fail
          try rw [HB.out.2.1 hk64]
          refine HB.out.1.mono ?_
          rintro e w3 ⟨rfl, hG⟩
          have hzl := hG.zlt
          have HG3 := Lib.hid (And.intro hG (And.intro (HB.out.2.2.1) (HB.out.2.2.2)))
          clear hG HB hcx hcy hp1 hp2
          go_wp2_with (first
            | (at_builtin
               refine wpList_append_own_at _ rfl (.tmp 65) (.tmp 67) 26 rfl (zb + 1) 34 i34 (.int .u64 0) 1 8 Try.underlying26 hi34 hz340 hz341 hz342 rfl (by omega) _ _ _ rfl (HG3.out.1.alloc _).row7 ⟨w3.heap.size, 0, none⟩ 1 1
                 [.int .u64 (num b : Nat)] rfl rfl ?c1 ?c2 ?c3 ?c4 ?c5 ?_))
          case c1 =>
            intro j u hj
            match j, hj with
            | 0, hj => simp at hj; subst hj; simp [Addr.add]
          case c2 => intro u hu; simp at hu; subst hu; rfl
          case c3 => rw [List.length_map]; unfold maxLen; have := HG3.out.2.2.2; omega
          case c4 => rw [List.length_map]; have := HG3.out.2.2.2; omega
          case c5 => simp; omega
          intro v7' w4 hown hgrow _ hat
          have hG4 := (HG3.out.1.alloc _).app7 (p' := (bs ++ [b]).map pv) (by simpa [pv] using hown) hgrow (by simpa using hat)
          have hz4 := hG4.zlt
          have HG4 := Lib.hid (And.intro hG4 HG3.out.2)
          clear hG4 hown hgrow hat HG3 hzl
          go_wp2_with (first
            | (at_builtin
               refine wpList_append_own_at _ rfl (.tmp 69) (.tmp 71) 62 rfl (zb + 1) 3 i3 (.int .i64 0) 1 8 Try.underlying62 hi3 hz30 hz31 hz32 rfl (by omega) _ _ _ rfl (HG4.out.1.alloc _).row8 ⟨w4.heap.size, 0, none⟩ 1 1
                 [.int .i64 (k : Int)] rfl rfl ?c1 ?c2 ?c3 ?c4 ?c5 ?_))
          case c1 =>
            intro j u hj
            match j, hj with
            | 0, hj => simp at hj; subst hj; simp [Addr.add]
          case c2 => intro u hu; simp at hu; subst hu; rfl
          case c3 => rw [List.length_map]; unfold maxLen; have := HG4.out.2.2.2; omega
          case c4 => rw [List.length_map]; have := HG4.out.2.2.2; omega
          case c5 => simp; omega
          intro v8' w5 hown hgrow _ hat
          have hG5 := (HG4.out.1.alloc _).app8 (q' := (bs ++ [b]).map qv) (by rw [← HG4.out.2.2.1] at hown; simpa [qv] using hown) hgrow (by simpa using hat)
          have HG5 := Lib.hid (And.intro hG5 HG4.out.2)
          clear hG5 hown hgrow hat HG4 hz4
          go_wp2
          go_roundw
          case rel =>
            have e1 : (bs ++ [b]).length = i + 1 := by rw [List.length_append, HG5.out.2.2.2]; rfl
            refine ⟨bs ++ [b], by omega, ?_, ?_, ?_⟩
            · rw [e1]; go_num
            · intro x hx
              rcases List.mem_append.1 hx with hx | hx
              · exact HG5.out.2.1 x hx
              · simp at hx; subst hx; rw [HG5.out.2.2.1]; exact hk
            · rw [List.flatten_append]
              simpa using HG5.out.1
          case measure => simp [intOf]; omega
    · have hex : ¬ i < n1 ∨ (i < n1 ∧ ¬ i < n2) ∨ (i < n1 ∧ i < n2 ∧ ¬ i < 20) := by omega
      obtain rfl : i = M := by omega
      have h7 := hG.row7
      have h8 := hG.row8
      rw [List.length_map, hi] at h7 h8
      obtain ⟨a7, c7, rfl, hf7⟩ := own_form h7
      obtain ⟨a8, c8, rfl, hf8⟩ := own_form h8
      have hfl := flat_le bs h64
      have hbits := bits_bg hG (by omega)
      have hN : bs.flatten.length ≤ 1280 := by omega
      have hi20 : i ≤ 20 := by omega
      generalize hF : bs.flatten = F at *
      generalize hNl : F.length = N at *
      have HB := Lib.hid (And.intro hbits (And.intro hF (And.intro hNl (And.intro hi (And.intro h64 (And.intro hf7 hf8))))))
      clear hbits hG hfl hF hNl hi h64 hf7 hf8 hM HG h7 h8
      rcases hex with h1 | ⟨h1, h2⟩ | ⟨h1, h2, h3⟩
      all_goals
        go_wp2_with fail
        refine HB.out.1.mono ?_
        rintro e w3 ⟨rfl, hr3, hG3, hb3⟩
        have hal : Below w3.heap.size w3 (w3.alloc (.cells #[.int .i64 (N : Int), .slice (some ⟨wr.heap.size + 1, 0, none⟩) (nw N) (nw N)] 28)) := (Below.refl _ _).alloc (Nat.le_refl _) _
        have hK : BK w w3.heap.size (wr.heap.size + 1) (zb + 1) (.slice a7 i c7) (.slice a8 i c8) F (bs.map pv) (bs.map qv) (w3.alloc (.cells #[.int .i64 (N : Int), .slice (some ⟨wr.heap.size + 1, 0, none⟩) (nw N) (nw N)] 28)) := by
          refine ⟨?_, own_kept hG3.row7 hal, own_kept hG3.row8 hal⟩
          unfold Rw
          rw [HB.out.2.2.1]
          exact ⟨Bx.new w3 N _, hr3.kept hal, hG3.below.trans (hal.mono hG3.below.size)⟩
        have HK := Lib.hid (And.intro hK HB.out.2)
        clear hK hal hr3 hG3 hb3 HB
        go_wp2
        generalize (w3.alloc (.cells #[.int .i64 (N : Int), .slice (some ⟨wr.heap.size + 1, 0, none⟩) (nw N) (nw N)] 28)) = w4 at *
        generalize w3.heap.size = bx at *
        generalize wr.heap.size + 1 = g at *
        go_loopw [13, 14] (fun v13 v14 wr => ∃ j : Nat, j ≤ i ∧ v14 = .int .i64 (j : Int) ∧ v13 = .int .i64 ((bs.take j).flatten.length : Nat) ∧ BK w bx g (zb + 1) (.slice a7 i c7) (.slice a8 i c8) F (bs.map pv) (bs.map qv) wr) (fun _ v14 _ => i - (intOf v14).toNat)
        case atStart => exact ⟨0, Nat.zero_le _, rfl, rfl, HK.out.1⟩
        case round =>
          obtain ⟨j, hj, rfl, rfl, hk⟩ := hrel
          obtain ⟨-, hF, hNl, hi, h64, hf7, hf8⟩ := HK.out
          obtain ⟨l1, l2⟩ := hk.box hNl
          by_cases hlt : j < i
          · obtain ⟨g7, rfl⟩ := hf7 (by omega)
            obtain ⟨g8, rfl⟩ := hf8 (by omega)
            have hcl := fun u (hk : BK w bx g (zb + 1) (.slice (some ⟨g7, 0, none⟩) i c7) (.slice (some ⟨g8, 0, none⟩) i c8) F (bs.map pv) (bs.map qv) u) => And.intro (hk.box hNl).1 (And.intro (hk.box hNl).2 (And.intro (hk.cell8 hi j hlt) (hk.cell7 hi j hlt)))
            have hst := flat_step bs j (by omega)
            have hb64 : (bs.getD j []).length ≤ 64 := h64 _ (by simp [List.getD_eq_getElem?_getD, show j < bs.length by omega])
            rw [hF, hNl] at hst
            obtain ⟨hst1, hst2, hst3⟩ := hst
            generalize bs.getD j [] = b at *
            generalize hat : (bs.take j).flatten.length = at' at *
            generalize hbn : b.length = n at *
            have hnum := fun u (hk : BK w bx g (zb + 1) (.slice (some ⟨g7, 0, none⟩) i c7) (.slice (some ⟨g8, 0, none⟩) i c8) F (bs.map pv) (bs.map qv) u) => number_bk hk N at' n b hNl hN hb64 hst3 hst1
            have HN := Lib.hid hnum
            have HS := Lib.hid hst2
            have HC := Lib.hid hcl
            obtain ⟨-, -, l8, l7⟩ := hcl _ hk
            clear hnum hst1 hst2 hF hNl hi h64 hf7 hf8 hbn hcl hat
            go_wp2
            go_region_held3 (fun w' => w'.cell? ⟨bx, 0, none⟩ = some (.int .i64 (N : Int)) ∧ w'.cell? ⟨bx, 1, none⟩ = some (.slice (some ⟨g, 0, none⟩) (nw N) (nw N)) ∧ w'.cell? ⟨g8, j, none⟩ = some (.int .i64 (n : Int)))
              (first
                | go_keep
                | exact ⟨(HC.out _ hk).1, (HC.out _ hk).2.1, (HC.out _ hk).2.2.1⟩)
              (first
                | (go_at_call 16; (with_reducible refine (HN.out _ hk.drew).mono ?_); rintro e u ⟨rfl, hk⟩))
            all_goals
              clear l1 l2 l7 l8
              obtain ⟨-, -, l8, l7⟩ := HC.out _ hk
              have HK2 := Lib.hid hk
              clear hk HN
              go_wp2
              go_roundw
              case rel => exact ⟨j + 1, by omega, by go_num, by rw [HS.out]; go_num, HK2.out⟩
              case measure => simp [intOf]; omega
          · obtain rfl : j = i := by omega
            have ht : bs.take j = bs := by rw [← hi]; simp
            rw [ht, hF, hNl]
            generalize hstr : strOfNums (bytI F (p8 N)) = str
            have HNL := Lib.hid (And.intro hNl hstr)
            clear ht hF hi h64 hf7 hf8 HK hNl hstr
            go_wp2
            go_region_held3 (fun w' => w'.cell? ⟨bx, 0, none⟩ = some (.int .i64 (N : Int)) ∧ w'.cell? ⟨bx, 1, none⟩ = some (.slice (some ⟨g, 0, none⟩) (nw N) (nw N)))
              (first
                | go_keep
                | exact hk.box HNL.out.1
                | exact (hk.alloc _).box HNL.out.1
                | exact (hk.alloc _).drew.box HNL.out.1
                | exact (fk_set hk HNL.out.1 hrow hq hne).1
                | exact (fk_alloc hk HNL.out.1 hrow).1)
              (first
                | (go_at_call 20; (with_reducible refine (len_bk N hk.drew HNL.out.1).mono ?_); rintro e u ⟨rfl, hk, hbel⟩)
                | (go_at_call 20; (with_reducible refine (len_bk N (hk.alloc _).drew HNL.out.1).mono ?_); rintro e u ⟨rfl, hk2, hbel⟩; have hq := hk.fresh.drew.kept hbel; clear hk; have hk := hk2; clear hk2; generalize wr.heap.size = cb at hq ⊢)
                | (go_at_call 24; (with_reducible refine (bytes_bk N str hk HNL.out.1 hN HNL.out.2).mono ?_); rintro e u ⟨rfl, hk, hbel⟩; have hq := hq.kept hbel)
                | (go_at_call 24; (with_reducible refine (bytes_bk N str hk HNL.out.1 hN HNL.out.2).mono ?_); rintro e u ⟨rfl, hk, hbel⟩)
                | (go_at_call 24; (with_reducible refine (bytes_bk N str (hk.alloc _) HNL.out.1 hN HNL.out.2).mono ?_); rintro e u2 ⟨rfl, hk2, hbel⟩; have hq := hk.fresh.kept hbel; clear hk; have hk := hk2; clear hk2; generalize u.heap.size = cb at hq ⊢)
                | (go_at_call 26; (with_reducible refine (read_bk N str hk HNL.out.1 hN HNL.out.2).mono ?_); rintro e u ⟨g', rfl, hrow, hlt', hk, hbel⟩; have hne := Nat.ne_of_gt (Nat.lt_trans hq.2.2.2.2.2.2.2 hlt'); have hq := hq.kept hbel; obtain ⟨r0, r1, z0, z1, -⟩ := id hq)
                | (go_at_call 26; (with_reducible refine (read_bk N str hk HNL.out.1 hN HNL.out.2).mono ?_); rintro e u ⟨g', rfl, hrow, hlt', hk, hbel⟩)
                | (go_at_call 26; (with_reducible refine (read_bk N str (hk.alloc _) HNL.out.1 hN HNL.out.2).mono ?_); rintro e u2 ⟨g', rfl, hrow, hlt', hk2, hbel⟩; have hne := Nat.ne_of_gt (Nat.lt_trans hk.fresh.2.2.2.2.2.2.2 hlt'); have hq := hk.fresh.kept hbel; clear hk; have hk := hk2; clear hk2; generalize u.heap.size = cb at hq hne ⊢; obtain ⟨r0, r1, z0, z1, -⟩ := id hq))
            all_goals
              first
                | (have hf : FK w bx g cb g' N F ((u.setCell ⟨cb, 0, none⟩ (.int .i64 (N : Int))).setCell ⟨cb, 1, none⟩ (.slice (some ⟨g', 0, none⟩) (nw N) (nw N))) := fk_set hk HNL.out.1 hrow hq hne
                   generalize ((u.setCell ⟨cb, 0, none⟩ (.int .i64 (N : Int))).setCell ⟨cb, 1, none⟩ (.slice (some ⟨g', 0, none⟩) (nw N) (nw N))) = W at *)
                | (have hf : FK w bx g cb g' N F ((u2.setCell ⟨cb, 0, none⟩ (.int .i64 (N : Int))).setCell ⟨cb, 1, none⟩ (.slice (some ⟨g', 0, none⟩) (nw N) (nw N))) := fk_set hk HNL.out.1 hrow hq hne
                   generalize ((u2.setCell ⟨cb, 0, none⟩ (.int .i64 (N : Int))).setCell ⟨cb, 1, none⟩ (.slice (some ⟨g', 0, none⟩) (nw N) (nw N))) = W at *)
                | (have hf := fk_alloc hk HNL.out.1 hrow
                   generalize (u.alloc (.cells #[.int .i64 (N : Int), .slice (some ⟨g', 0, none⟩) (nw N) (nw N)] 28)) = W at *
                   generalize u.heap.size = cb at *)
              obtain ⟨d1, d2⟩ := hf.1
              have HF := Lib.hid hf
              clear hf hk hrow hlt' hbel l1 l2
              go_wp2_with fail
              refine (len_fk HF.out HNL.out.1).mono ?_
              clear d1 d2
              rintro e w5 ⟨rfl, hf⟩
              obtain ⟨d1, d2⟩ := hf.1
              obtain ⟨d3, d4⟩ := hf.2.2.1
              have HF2 := Lib.hid hf
              clear hf HF
              go_wp2_with fail
              refine (same_fk HF2.out HNL.out.1 hN).mono ?_
              clear d1 d2 d3 d4
              rintro e w6 ⟨rfl, hf⟩
              have HF3 := Lib.hid hf
              clear hf HF2
              go_wp2
              go_ret
              exact ⟨rfl, HF3.out⟩

end Go.Proofs.Ytpbemhcibhnhkaa
