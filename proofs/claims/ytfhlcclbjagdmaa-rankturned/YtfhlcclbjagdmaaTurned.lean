/- Of a row whose bits are all turned the ones are the zeros: the walk of RankTurned. -/
import Derived.Test.YtfhlcclbjagdmaaKM
namespace Go.Proofs.Ytfhlcclbjagdmaa
open Go.RowKit
open M
attribute [local go_sem ↓] Go.wp_at_zero Go.wp_at_succ

theorem rkN_turn (b : Bool) (l : List Bool) (i : Nat) : rkN b (l.map not) i = rkN (!b) l i := by
  unfold rkN
  rw [← List.map_take]
  generalize l.take i = x
  induction x with
  | nil => simp
  | cons y x ih => cases y <;> cases b <;> simp_all
theorem rk1_turn (l : List Bool) (i : Int) : rk1 (l.map not) i = rk0 l i := by unfold rk1 rk0; rw [rkN_turn, List.length_map]; rfl
theorem rk0_turn (l : List Bool) (i : Int) : rk0 (l.map not) i = rk1 l i := by unfold rk1 rk0; rw [rkN_turn, List.length_map]; rfl
theorem selN_turn (b : Bool) (l : List Bool) (k : Int) : selN b (l.map not) k = selN (!b) l k := by
  unfold selN; simp only [rkN_turn, List.length_map]

/-- The turned bits that were made, up to place j, of the call's own. -/
structure MI (w2 : World) (l : List Bool) (v : Value) (j : Nat) (u : World) : Prop where
  own : u.ownsRow w2.heap.size 4 1 v j (((l.take j).map not).map Value.bool)
  bel : Below w2.heap.size w2 u

theorem mk_b {w u : World} {a : Option Addr} {N cap : Nat} {l : List Bool} (h : LS w a N cap l u) :
    Calls Try.prog 11 #[.slice a N cap] u fun e u' => ∃ g m, e = .returned (.agg #[.int .i64 (N : Int), .slice (some ⟨g, 0, none⟩) m m]) ∧ RowAt u' (.slice (some ⟨g, 0, none⟩) m m) l ∧ Below u.heap.size u u' := by
  have hm := make_any a cap l u h.bools (by rw [h.len]; have := h.le; omega)
  rw [h.len] at hm
  refine hm.mono ?_
  rintro e u' ⟨rfl, hr, hb⟩
  exact ⟨_, _, rfl, hr, hb⟩
theorem new_b {w u : World} {a : Option Addr} {N cap : Nat} {l : List Bool} {a2 : Option Addr} {m2 c2 : Nat} (h : LS w a N cap l u) (hr : RowAt u (.slice a2 m2 c2) l) :
    Calls Try.prog 12 #[.agg #[.int .i64 (N : Int), .slice a2 m2 c2]] u fun e u' => ∃ R : RP, e = .returned (.agg #[.int .i64 (R.n : Int), .slice R.a R.m R.c, .int .i64 (R.cn : Int), .int .i64 (R.cW : Int), .int .i64 (R.cL : Int), .slice R.a2 R.m2 R.c2]) ∧ RK u' R l ∧ R.n = N ∧ Below u.heap.size u u' := by
  have hm := rnew_any a2 m2 c2 l u hr (by rw [h.len]; have := h.le; omega)
  rw [h.len] at hm
  refine hm.mono ?_
  rintro e u' ⟨R, rfl, hk, -, hb⟩
  exact ⟨R, rfl, hk, by rw [← hk.len]; exact h.len, hb⟩

/-- Two ranks in their boxes: of l, and of l turned. -/
structure TW (w : World) (b1 b2 : Nat) (R1 R2 : RP) (N : Nat) (l : List Bool) (u : World) : Prop where
  box1 : RBx u b1 R1
  box2 : RBx u b2 R2
  rk1 : RK u R1 l
  rk2 : RK u R2 (l.map not)
  len : l.length = N
  bel : Below w.heap.size w u
variable {w u u' : World} {b1 b2 : Nat} {R1 R2 : RP} {N : Nat} {l : List Bool}
theorem TW.kept (h : TW w b1 b2 R1 R2 N l u) (hb : Below u.heap.size u u') : TW w b1 b2 R1 R2 N l u' :=
  ⟨h.box1.kept hb, h.box2.kept hb, h.rk1.kept hb, h.rk2.kept hb, h.len, h.bel.trans (hb.mono h.bel.size)⟩
theorem TW.drew (h : TW w b1 b2 R1 R2 N l u) : TW w b1 b2 R1 R2 N l u.drew := h.kept ((Below.refl _ _).drew)
theorem t1_ones (h : TW w b1 b2 R1 R2 N l u) : Calls Try.prog 14 #[.agg #[.int .i64 (R1.n : Int), .slice R1.a R1.m R1.c, .int .i64 (R1.cn : Int), .int .i64 (R1.cW : Int), .int .i64 (R1.cL : Int), .slice R1.a2 R1.m2 R1.c2]] u fun e u' => e = .returned (.int .i64 (rkN true l N : Nat)) ∧ TW w b1 b2 R1 R2 N l u' :=
  (rones_any R1 l u h.rk1).mono fun _ _ hh => ⟨hh.1.trans (ret_int (by rw [h.len])), h.kept hh.2⟩
theorem t2_ones (h : TW w b1 b2 R1 R2 N l u) : Calls Try.prog 14 #[.agg #[.int .i64 (R2.n : Int), .slice R2.a R2.m R2.c, .int .i64 (R2.cn : Int), .int .i64 (R2.cW : Int), .int .i64 (R2.cL : Int), .slice R2.a2 R2.m2 R2.c2]] u fun e u' => e = .returned (.int .i64 (rkN false l N : Nat)) ∧ TW w b1 b2 R1 R2 N l u' :=
  (rones_any R2 (l.map not) u h.rk2).mono fun _ _ hh => ⟨hh.1.trans (ret_int (by rw [rkN_turn, List.length_map, h.len]; rfl)), h.kept hh.2⟩
theorem t1_r1 (i : Int) (h : TW w b1 b2 R1 R2 N l u) : Calls Try.prog 16 #[.agg #[.int .i64 (R1.n : Int), .slice R1.a R1.m R1.c, .int .i64 (R1.cn : Int), .int .i64 (R1.cW : Int), .int .i64 (R1.cL : Int), .slice R1.a2 R1.m2 R1.c2], .int .i64 i] u fun e u' => e = .returned (.int .i64 (rk1 l i : Nat)) ∧ TW w b1 b2 R1 R2 N l u' :=
  (rank1_any R1 l i u h.rk1).mono fun _ _ hh => ⟨hh.1.trans (ret_int (rfl)), h.kept hh.2⟩
theorem t2_r1 (i : Int) (h : TW w b1 b2 R1 R2 N l u) : Calls Try.prog 16 #[.agg #[.int .i64 (R2.n : Int), .slice R2.a R2.m R2.c, .int .i64 (R2.cn : Int), .int .i64 (R2.cW : Int), .int .i64 (R2.cL : Int), .slice R2.a2 R2.m2 R2.c2], .int .i64 i] u fun e u' => e = .returned (.int .i64 (rk0 l i : Nat)) ∧ TW w b1 b2 R1 R2 N l u' :=
  (rank1_any R2 (l.map not) i u h.rk2).mono fun _ _ hh => ⟨hh.1.trans (ret_int (by rw [rk1_turn])), h.kept hh.2⟩
theorem t1_r0 (i : Int) (h : TW w b1 b2 R1 R2 N l u) : Calls Try.prog 17 #[.agg #[.int .i64 (R1.n : Int), .slice R1.a R1.m R1.c, .int .i64 (R1.cn : Int), .int .i64 (R1.cW : Int), .int .i64 (R1.cL : Int), .slice R1.a2 R1.m2 R1.c2], .int .i64 i] u fun e u' => e = .returned (.int .i64 (rk0 l i : Nat)) ∧ TW w b1 b2 R1 R2 N l u' :=
  (rank0_any R1 l i u h.rk1).mono fun _ _ hh => ⟨hh.1.trans (ret_int (rfl)), h.kept hh.2⟩
theorem t2_r0 (i : Int) (h : TW w b1 b2 R1 R2 N l u) : Calls Try.prog 17 #[.agg #[.int .i64 (R2.n : Int), .slice R2.a R2.m R2.c, .int .i64 (R2.cn : Int), .int .i64 (R2.cW : Int), .int .i64 (R2.cL : Int), .slice R2.a2 R2.m2 R2.c2], .int .i64 i] u fun e u' => e = .returned (.int .i64 (rk1 l i : Nat)) ∧ TW w b1 b2 R1 R2 N l u' :=
  (rank0_any R2 (l.map not) i u h.rk2).mono fun _ _ hh => ⟨hh.1.trans (ret_int (by rw [rk0_turn])), h.kept hh.2⟩
theorem t1_s1 (i : Int) (h : TW w b1 b2 R1 R2 N l u) : Calls Try.prog 22 #[.agg #[.int .i64 (R1.n : Int), .slice R1.a R1.m R1.c, .int .i64 (R1.cn : Int), .int .i64 (R1.cW : Int), .int .i64 (R1.cL : Int), .slice R1.a2 R1.m2 R1.c2], .int .i64 i] u fun e u' => e = .returned (.int .i64 (selN true l i)) ∧ TW w b1 b2 R1 R2 N l u' :=
  (sel1_any R1 l i u h.rk1).mono fun _ _ hh => ⟨hh.1.trans (ret_int (rfl)), h.kept hh.2⟩
theorem t2_s1 (i : Int) (h : TW w b1 b2 R1 R2 N l u) : Calls Try.prog 22 #[.agg #[.int .i64 (R2.n : Int), .slice R2.a R2.m R2.c, .int .i64 (R2.cn : Int), .int .i64 (R2.cW : Int), .int .i64 (R2.cL : Int), .slice R2.a2 R2.m2 R2.c2], .int .i64 i] u fun e u' => e = .returned (.int .i64 (selN false l i)) ∧ TW w b1 b2 R1 R2 N l u' :=
  (sel1_any R2 (l.map not) i u h.rk2).mono fun _ _ hh => ⟨hh.1.trans (ret_int (by rw [selN_turn]; rfl)), h.kept hh.2⟩
theorem t1_s0 (i : Int) (h : TW w b1 b2 R1 R2 N l u) : Calls Try.prog 23 #[.agg #[.int .i64 (R1.n : Int), .slice R1.a R1.m R1.c, .int .i64 (R1.cn : Int), .int .i64 (R1.cW : Int), .int .i64 (R1.cL : Int), .slice R1.a2 R1.m2 R1.c2], .int .i64 i] u fun e u' => e = .returned (.int .i64 (selN false l i)) ∧ TW w b1 b2 R1 R2 N l u' :=
  (sel0_any R1 l i u h.rk1).mono fun _ _ hh => ⟨hh.1.trans (ret_int (rfl)), h.kept hh.2⟩
theorem t2_s0 (i : Int) (h : TW w b1 b2 R1 R2 N l u) : Calls Try.prog 23 #[.agg #[.int .i64 (R2.n : Int), .slice R2.a R2.m R2.c, .int .i64 (R2.cn : Int), .int .i64 (R2.cW : Int), .int .i64 (R2.cL : Int), .slice R2.a2 R2.m2 R2.c2], .int .i64 i] u fun e u' => e = .returned (.int .i64 (selN true l i)) ∧ TW w b1 b2 R1 R2 N l u' :=
  (sel0_any R2 (l.map not) i u h.rk2).mono fun _ _ hh => ⟨hh.1.trans (ret_int (by rw [selN_turn]; rfl)), h.kept hh.2⟩

set_option maxRecDepth 100000 in
set_option maxHeartbeats 4000000 in
theorem turned_walk (A : Option Addr) (n c : Nat) (B : Option Addr) (m d : Nat) (bs : List Bool) (ts : List Int) (i k : Int) (w : World) (hA : BoolsAt w A bs) (hbs : bs.length = n) (hB : NumsAt .i64 w B ts) (hts : ts.length = m) :
    Calls Try.prog 8 #[.agg #[.slice A n c, .slice B m d], .int .i64 i, .int .i64 k] w fun e w' => e = .returned (.bool true) ∧ Below w.heap.size w w' := by
  have hl := fun u (hb : Below w.heap.size w u) => list_ls A n c B m d bs ts hA hbs hB hts hb
  have HL := Lib.hid hl
  clear hl hA hbs hB hts
  have hund : undef = Value.tuple #[] := rfl
  go_enter Try.func8, Try.ntmps8
  go_wp2_with fail
  refine (awake_any _).mono ?_
  rintro e w1 ⟨rfl, hb1⟩
  have hb0 : Below w.heap.size w w1 := ((Below.refl _ _).alloc (Nat.le_refl _) _).trans (hb1.mono (by simp))
  have c0 := hb1.cell (p := ⟨w.heap.size, 0, none⟩) (by simp)
  have c1 := hb1.cell (p := ⟨w.heap.size, 1, none⟩) (by simp)
  rw [cell_new _ _ _ _ _ rfl] at c0 c1
  have c0 : w1.cell? ⟨w.heap.size, 0, none⟩ = some (.slice A n c) := c0
  have c1 : w1.cell? ⟨w.heap.size, 1, none⟩ = some (.slice B m d) := c1
  have HB := Lib.hid hb0
  clear hb0 hb1
  go_wp2_with fail
  clear c0 c1
  refine (HL.out _ HB.out).mono ?_
  rintro e w2 ⟨a, N, cap, l, rfl, hls⟩
  have HS := Lib.hid hls
  have hN := hls.le
  clear hls HL HB
  go_wp2
  go_loopw [9, 10] (fun v9 v10 wr => ∃ (j cap2 : Nat) (a2 : Option Addr), j ≤ N ∧ v10 = .int .i64 (j : Int) ∧ v9 = .slice a2 j cap2 ∧ MI w2 l v9 j wr) (fun _ v10 _ => N - (intOf v10).toNat)
  case atStart => exact ⟨0, 0, none, Nat.zero_le _, rfl, rfl, World.ownsRow_nil _ _ _ _, Below.refl _ _⟩
  case round =>
    obtain ⟨j, cap2, a2, hj, rfl, rfl, hI⟩ := hrel
    by_cases hlt : j < N
    · have hjl : j < l.length := by rw [HS.out.len]; exact hlt
      obtain ⟨b2, o2, rfl, hbl, hcb⟩ := bool_at (HS.out.bools.kept hI.bel) (i := j) hjl
      have hts := take_snoc l j (l.getD j false) hjl rfl
      generalize l.getD j false = y at *
      have hsz := hI.bel.size
      have q1 : (j : Int) < (N : Int) := by omega
      have q2 : (0 : Int) ≤ (j : Int) := by omega
      have HO := Lib.hid (And.intro hI hts)
      clear hI hts hjl
      go_wp2_with (first
        | (at_builtin
           refine wpList_append_bools rfl (.tmp 22) (.tmp 28) rfl w2.heap.size (.slice a2 j cap2) j (((l.take j).map not).map Value.bool) rfl ?own (some ⟨wr.heap.size, 0, none⟩) 1 1 [!y] rfl ?slo ?b63 ?bas ?_))
      case own => exact HO.out.1.own.alloc _
      case slo => exact slice_one wr (!y)
      case b63 => omega
      case bas => simp; omega
      intro v' w3 hown hgrow hat
      have hI3 : MI w2 l v' (j + 1) w3 := ⟨by rw [HO.out.2]; simpa using hown, (HO.out.1.bel.alloc hsz _).grown hgrow (by simp; omega) (fun k hk => (HO.out.1.own.lt k hk).1)⟩
      have hsl : ∃ a3 cap3, v' = .slice a3 (j + 1) cap3 := by
        rcases hI3.own.2 with ⟨e, hn⟩ | ⟨g, cap, cur, e, -⟩
        · omega
        · exact ⟨_, _, e⟩
      obtain ⟨a3, cap3, rfl⟩ := hsl
      have HI3 := Lib.hid hI3
      clear hown hgrow hat hI3 HO
      go_wp2
      go_roundw
      case rel => exact ⟨j + 1, cap3, a3, by omega, by go_num, rfl, HI3.out⟩
      case measure => simp [intOf]; omega
    · obtain rfl : j = N := by omega
      have hln := HS.out.len
      have hown := hI.own
      rw [show l.take j = l by rw [← hln]; simp] at hown
      have hlm : (l.map not).length = j := by simp [hln]
      have hso : SliceOf wr a2 j cap2 (l.map not) := by
        have h5 := hown
        rw [← hlm] at h5
        obtain ⟨a', cap', e, hs⟩ := slice_of_own h5
        rw [hlm] at e hs
        simp only [Value.slice.injEq, true_and] at e
        obtain ⟨rfl, rfl⟩ := e
        exact hs
      have hls1 := HS.out.kept hI.bel
      have hls2 : LS w a2 j cap2 (l.map not) wr := ⟨hso, hlm, hls1.le, hls1.bel⟩
      have HS1 := Lib.hid hls1
      have HS2 := Lib.hid hls2
      clear hln hown hlm hso hls1 hls2 hI HS
      go_wp2_with fail
      refine (mk_b HS1.out).mono ?_
      rintro e w3 ⟨g3, m3, rfl, hrow, hb3⟩
      have HK := Lib.hid (And.intro (HS1.out.kept hb3) (And.intro (HS2.out.kept hb3) (new_b (HS1.out.kept hb3) hrow)))
      clear hrow hb3 HS1 HS2
      go_wp2_with fail
      refine HK.out.2.2.mono ?_
      rintro e w4 ⟨R1, rfl, hrk, hnn, hb4⟩
      have hbx := (Below.refl w4.heap.size w4).alloc (Nat.le_refl _) (.cells #[.int .i64 (R1.n : Int), .slice R1.a R1.m R1.c, .int .i64 (R1.cn : Int), .int .i64 (R1.cW : Int), .int .i64 (R1.cL : Int), .slice R1.a2 R1.m2 R1.c2] 35)
      have HK2 := Lib.hid (And.intro ((HK.out.1.kept hb4).kept hbx) (And.intro ((HK.out.2.1.kept hb4).kept hbx) (And.intro (RBx.new w4 R1) (hrk.kept hbx))))
      clear hrk hnn hb4 hbx HK
      go_wp2_with fail
      generalize w4.heap.size = b1 at *
      refine (mk_b HK2.out.2.1).mono ?_
      rintro e w5 ⟨g5, m5, rfl, hrow, hb5⟩
      have HK3 := Lib.hid (And.intro (HK2.out.2.1.kept hb5) (And.intro (new_b (HK2.out.2.1.kept hb5) hrow) (And.intro (HK2.out.2.2.1.kept hb5) (And.intro (HK2.out.2.2.2.kept hb5) (HK2.out.1.kept hb5)))))
      clear hrow hb5 HK2
      go_wp2_with fail
      refine HK3.out.2.1.mono ?_
      rintro e w6 ⟨R2, rfl, hrk, hnn, hb6⟩
      have hbx := (Below.refl w6.heap.size w6).alloc (Nat.le_refl _) (.cells #[.int .i64 (R2.n : Int), .slice R2.a R2.m R2.c, .int .i64 (R2.cn : Int), .int .i64 (R2.cW : Int), .int .i64 (R2.cL : Int), .slice R2.a2 R2.m2 R2.c2] 35)
      have hA : TW w b1 w6.heap.size R1 R2 j l (w6.alloc (.cells #[.int .i64 (R2.n : Int), .slice R2.a R2.m R2.c, .int .i64 (R2.cn : Int), .int .i64 (R2.cW : Int), .int .i64 (R2.cL : Int), .slice R2.a2 R2.m2 R2.c2] 35)) :=
        ⟨(HK3.out.2.2.1.kept hb6).kept hbx, RBx.new w6 R2, (HK3.out.2.2.2.1.kept hb6).kept hbx, hrk.kept hbx, HK3.out.2.2.2.2.len, ((HK3.out.2.2.2.2.kept hb6).kept hbx).bel⟩
      have hsum := rkN_both l j (by rw [hA.len]; omega)
      have hle := rkN_le' true l j
      have q1 : IntKind.i64.wrap ((rkN true l j : Nat) + (rkN false l j : Nat) : Int) = (j : Int) := by rw [IntWalk.i64_in _ (by omega)]; omega
      clear hrk hnn hb6 hbx HK3 hsum hle
      go_wp2
      generalize w6.heap.size = b2 at *
      generalize w6.alloc (.cells #[.int .i64 (R2.n : Int), .slice R2.a R2.m R2.c, .int .i64 (R2.cn : Int), .int .i64 (R2.cW : Int), .int .i64 (R2.cL : Int), .slice R2.a2 R2.m2 R2.c2] 35) = u at *
      obtain ⟨l0, l1, l2, l3, l4, l5⟩ := hA.box1
      obtain ⟨k0, k1, k2, k3, k4, k5⟩ := hA.box2
      go_region_held3 (fun w' => w'.cell? ⟨b1, 0, none⟩ = some (.int .i64 (R1.n : Int)) ∧ w'.cell? ⟨b1, 1, none⟩ = some (.slice R1.a R1.m R1.c) ∧ w'.cell? ⟨b1, 2, none⟩ = some (.int .i64 (R1.cn : Int)) ∧ w'.cell? ⟨b1, 3, none⟩ = some (.int .i64 (R1.cW : Int)) ∧ w'.cell? ⟨b1, 4, none⟩ = some (.int .i64 (R1.cL : Int)) ∧ w'.cell? ⟨b1, 5, none⟩ = some (.slice R1.a2 R1.m2 R1.c2) ∧ w'.cell? ⟨b2, 0, none⟩ = some (.int .i64 (R2.n : Int)) ∧ w'.cell? ⟨b2, 1, none⟩ = some (.slice R2.a R2.m R2.c) ∧ w'.cell? ⟨b2, 2, none⟩ = some (.int .i64 (R2.cn : Int)) ∧ w'.cell? ⟨b2, 3, none⟩ = some (.int .i64 (R2.cW : Int)) ∧ w'.cell? ⟨b2, 4, none⟩ = some (.int .i64 (R2.cL : Int)) ∧ w'.cell? ⟨b2, 5, none⟩ = some (.slice R2.a2 R2.m2 R2.c2))
        (first
          | go_keep
          | exact ⟨hA.box1.c0, hA.box1.c1, hA.box1.c2, hA.box1.c3, hA.box1.c4, hA.box1.c5, hA.box2.c0, hA.box2.c1, hA.box2.c2, hA.box2.c3, hA.box2.c4, hA.box2.c5⟩)
        (first
          | (go_at_call 14; (with_reducible refine (t1_ones hA).mono ?_); rintro e u ⟨rfl, hA⟩)
          | (go_at_call 14; (with_reducible refine (t1_ones hA.drew).mono ?_); rintro e u ⟨rfl, hA⟩)
          | (go_at_call 14; (with_reducible refine (t2_ones hA).mono ?_); rintro e u ⟨rfl, hA⟩)
          | (go_at_call 14; (with_reducible refine (t2_ones hA.drew).mono ?_); rintro e u ⟨rfl, hA⟩)
          | (go_at_call 17; (with_reducible refine (t1_r0 _ hA).mono ?_); rintro e u ⟨rfl, hA⟩)
          | (go_at_call 17; (with_reducible refine (t2_r0 _ hA).mono ?_); rintro e u ⟨rfl, hA⟩)
          | (go_at_call 16; (with_reducible refine (t1_r1 _ hA).mono ?_); rintro e u ⟨rfl, hA⟩)
          | (go_at_call 16; (with_reducible refine (t2_r1 _ hA).mono ?_); rintro e u ⟨rfl, hA⟩)
          | (go_at_call 23; (with_reducible refine (t1_s0 _ hA).mono ?_); rintro e u ⟨rfl, hA⟩)
          | (go_at_call 23; (with_reducible refine (t2_s0 _ hA).mono ?_); rintro e u ⟨rfl, hA⟩)
          | (go_at_call 22; (with_reducible refine (t1_s1 _ hA).mono ?_); rintro e u ⟨rfl, hA⟩)
          | (go_at_call 22; (with_reducible refine (t2_s1 _ hA).mono ?_); rintro e u ⟨rfl, hA⟩))
      all_goals
        have HB := Lib.hid hA.bel
        clear hA
        go_wp2
        go_ret
        exact ⟨rfl, HB.out⟩

end Go.Proofs.Ytfhlcclbjagdmaa
