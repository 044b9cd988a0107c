/- A row of symbols in memory; the contract of down. -/
import Derived.Test.YtpnjccomngdblaaGreatWI
import Derived.Deep.CutRange
import Derived.Deep.CutBlock
set_option maxRecDepth 100000
namespace Go.Proofs.YtpnjccomngdblaaGreat
open Go.RowKit
open M
attribute [local go_sem ↓] Go.wp_at_zero Go.wp_at_succ

/-- The ranks of the rows of l side by side in memory. -/
structure WX (w : World) (l : List Int) (W : Nat) (a : Option Addr) : Prop where
  rs : RS w l.length a W (rowsI l W W)
  sy : Sy l W
  small : l.length ≤ 1000000
  wide : W ≤ 20
theorem WX.kept {w w' : World} {l : List Int} {W : Nat} {a : Option Addr} (h : WX w l W a) (hb : Below w.heap.size w w') : WX w' l W a := { h with rs := h.rs.kept hb }

/-- The three cells of a boxed row of symbols. -/
structure WBx (w : World) (b : Nat) (n size : Int) (s : Value) : Prop where
  c0 : w.cell? ⟨b, 0, none⟩ = some (.int .i64 n)
  c1 : w.cell? ⟨b, 1, none⟩ = some (.int .i64 size)
  c2 : w.cell? ⟨b, 2, none⟩ = some s
theorem WBx.lt {w : World} {b : Nat} {n size : Int} {s : Value} (h : WBx w b n size s) : b < w.heap.size := World.block_lt_of_cell? w _ h.c0
theorem WBx.kept {w w' : World} {b : Nat} {n size : Int} {s : Value} (h : WBx w b n size s) (hb : Below w.heap.size w w') : WBx w' b n size s := by
  have cl : ∀ o, w'.cell? ⟨b, o, none⟩ = w.cell? ⟨b, o, none⟩ := fun o => hb.cell (p := ⟨b, o, none⟩) h.lt
  exact ⟨by rw [cl]; exact h.c0, by rw [cl]; exact h.c1, by rw [cl]; exact h.c2⟩
theorem WBx.new (w : World) (n size : Int) (s : Value) : WBx (w.alloc (.cells #[.int .i64 n, .int .i64 size, s] 28)) w.heap.size n size s := ⟨by simp, by simp, by simp⟩

theorem start_pos (l : List Int) (W i : Nat) (h : Sy l W) (hi : i ≤ l.length) : posN l W 0 i = i := by
  unfold posN begN preN
  rw [withI_all (l.take i) W (fun x hx => h x (List.mem_of_mem_take hx))]
  simp [sortI]; omega

/-- What down tells. -/
def DownEnd (w : World) (l : List Int) (c f t : Nat) (e : Ending) (w' : World) : Prop :=
  ∃ r : Nat, e = .returned (.tuple #[.int .i64 (ltN (rng l f t) c : Nat), .int .i64 (r : Int), .int .i64 ((r + eqN (rng l f t) c : Nat) : Int)]) ∧ Below w.heap.size w w'

theorem forkAt_b {w u : World} {R : RP} {row : List Bool} (b e : Nat) (h : RK w R row) (hu : Below w.heap.size w u) (hbe : b ≤ e) (he : e ≤ row.length) :
    Calls Tryz.prog 83 #[.agg #[.int .i64 (R.n : Int), .slice R.a R.m R.c, .int .i64 (R.cn : Int), .int .i64 (R.cW : Int), .int .i64 (R.cL : Int), .slice R.a2 R.m2 R.c2], .int .i64 (b : Int), .int .i64 (e : Int)] u fun x u' => ∃ F : FP, x = .returned (.agg #[.int .i64 (F.R.n : Int), .slice F.R.a F.R.m F.R.c, .int .i64 (F.R.cn : Int), .int .i64 (F.R.cW : Int), .int .i64 (F.R.cL : Int), .slice F.R.a2 F.R.m2 F.R.c2, .int .i64 (F.b : Int), .int .i64 (F.m : Int), .int .i64 (F.e : Int), .int .i64 (F.z : Int), .int .i64 (F.o : Int)]) ∧ Hid (F.R = R ∧ F.b = b ∧ F.e = e ∧ ∀ w', Below w.heap.size w w' → FK w' F row) ∧ Below w.heap.size w u' ∧ Below u.heap.size u u' :=
  (forkAt_any R row b e u (h.kept hu) hbe he).mono fun _ _ ⟨F, h1, h2, h3, h4, h5, h6⟩ => ⟨F, h1, Lib.hid ⟨h3, h4, h5, fun w' hw' => { h2 with rk := by rw [h3]; exact h.kept hw' }⟩, hu.trans (h6.mono hu.size), h6⟩
theorem wbit_b {w u : World} (n size : Int) (a : Option Addr) (m cap : Nat) (c : Int) (k : Nat) (hk : k < m) (hm : m ≤ 62) (hu : Below w.heap.size w u) :
    Calls Tryz.prog 108 #[.agg #[.int .i64 n, .int .i64 size, .slice a m cap], .int .i64 c, .int .i64 (k : Int)] u fun e u' => e = .returned (.int .i64 (b2i (decide (c / 2 ^ (m - 1 - k) % 2 = 1)))) ∧ Below w.heap.size w u' ∧ Below u.heap.size u u' :=
  (wbit_any n size a m cap c k u hk hm).mono fun _ _ hh => ⟨hh.1, hu.trans (hh.2.mono hu.size), hh.2⟩

/-- A new fork's cells, not yet filled. -/
theorem fresh76 {w u : World} (hb : Below w.heap.size w u) : Arr w u.heap.size 11 (fun _ => .bool false) 0 (u.alloc (.cells #[.int .i64 0, .slice none 0 0, .int .i64 0, .int .i64 0, .int .i64 0, .slice none 0 0, .int .i64 0, .int .i64 0, .int .i64 0, .int .i64 0, .int .i64 0] 111)) :=
  ⟨hb.size, fun o ho => by
    have : o = 0 ∨ o = 1 ∨ o = 2 ∨ o = 3 ∨ o = 4 ∨ o = 5 ∨ o = 6 ∨ o = 7 ∨ o = 8 ∨ o = 9 ∨ o = 10 := by omega
    rcases this with rfl | rfl | rfl | rfl | rfl | rfl | rfl | rfl | rfl | rfl | rfl <;> exact ⟨by simp, by simp⟩, fun j hj => absurd hj (by omega), hb.alloc hb.size _, by simp⟩
theorem Arr.drew {w u : World} {g n k : Nat} {f : Nat → Value} (h : Arr w g n f k u) : Arr w g n f k u.drew := h.kept ((Below.refl _ _).drew)
theorem Arr.ex11 {w u : World} {g : Nat} {f : Nat → Value} (h : Arr w g 11 f 0 u) : (∃ v, u.cell? ⟨g, 0, none⟩ = some v) ∧ u.frozen? ⟨g, 0, none⟩ = false ∧ (∃ v, u.cell? ⟨g, 1, none⟩ = some v) ∧ u.frozen? ⟨g, 1, none⟩ = false ∧ (∃ v, u.cell? ⟨g, 2, none⟩ = some v) ∧ u.frozen? ⟨g, 2, none⟩ = false ∧ (∃ v, u.cell? ⟨g, 3, none⟩ = some v) ∧ u.frozen? ⟨g, 3, none⟩ = false ∧ (∃ v, u.cell? ⟨g, 4, none⟩ = some v) ∧ u.frozen? ⟨g, 4, none⟩ = false ∧ (∃ v, u.cell? ⟨g, 5, none⟩ = some v) ∧ u.frozen? ⟨g, 5, none⟩ = false ∧ (∃ v, u.cell? ⟨g, 6, none⟩ = some v) ∧ u.frozen? ⟨g, 6, none⟩ = false ∧ (∃ v, u.cell? ⟨g, 7, none⟩ = some v) ∧ u.frozen? ⟨g, 7, none⟩ = false ∧ (∃ v, u.cell? ⟨g, 8, none⟩ = some v) ∧ u.frozen? ⟨g, 8, none⟩ = false ∧ (∃ v, u.cell? ⟨g, 9, none⟩ = some v) ∧ u.frozen? ⟨g, 9, none⟩ = false ∧ (∃ v, u.cell? ⟨g, 10, none⟩ = some v) ∧ u.frozen? ⟨g, 10, none⟩ = false :=
  ⟨(h.ex 0 (by omega)).1, (h.ex 0 (by omega)).2, (h.ex 1 (by omega)).1, (h.ex 1 (by omega)).2, (h.ex 2 (by omega)).1, (h.ex 2 (by omega)).2, (h.ex 3 (by omega)).1, (h.ex 3 (by omega)).2, (h.ex 4 (by omega)).1, (h.ex 4 (by omega)).2, (h.ex 5 (by omega)).1, (h.ex 5 (by omega)).2, (h.ex 6 (by omega)).1, (h.ex 6 (by omega)).2, (h.ex 7 (by omega)).1, (h.ex 7 (by omega)).2, (h.ex 8 (by omega)).1, (h.ex 8 (by omega)).2, (h.ex 9 (by omega)).1, (h.ex 9 (by omega)).2, (h.ex 10 (by omega)).1, (h.ex 10 (by omega)).2⟩
theorem ret_three {x y z x' y' z' : Int} (h1 : x = x') (h2 : y = y') (h3 : z = z') : Ending.returned (.tuple #[.int .i64 x, .int .i64 y, .int .i64 z]) = Ending.returned (.tuple #[.int .i64 x', .int .i64 y', .int .i64 z']) := by rw [h1, h2, h3]

/-- What a boxed row of symbols and a boxed rank have. -/
theorem ss_of {bx rb : Nat} {n size : Int} {s : Value} {R : RP} {w u : World} (h1 : WBx w bx n size s) (h2 : RBx w rb R) (hb : Below w.heap.size w u) :
    u.cell? ⟨bx, 0, none⟩ = some (.int .i64 n) ∧ u.cell? ⟨bx, 1, none⟩ = some (.int .i64 size) ∧ u.cell? ⟨bx, 2, none⟩ = some s ∧ u.cell? ⟨rb, 0, none⟩ = some (.int .i64 (R.n : Int)) ∧ u.cell? ⟨rb, 1, none⟩ = some (.slice R.a R.m R.c) ∧ u.cell? ⟨rb, 2, none⟩ = some (.int .i64 (R.cn : Int)) ∧ u.cell? ⟨rb, 3, none⟩ = some (.int .i64 (R.cW : Int)) ∧ u.cell? ⟨rb, 4, none⟩ = some (.int .i64 (R.cL : Int)) ∧ u.cell? ⟨rb, 5, none⟩ = some (.slice R.a2 R.m2 R.c2) := by
  have h1 := h1.kept hb
  have h2 := h2.kept hb
  exact ⟨h1.c0, h1.c1, h1.c2, h2.c0, h2.c1, h2.c2, h2.c3, h2.c4, h2.c5⟩

/-- The cells of a boxed fork, side by side. -/
theorem fs_of {cb : Nat} {F : FP} {w u : World} (h : FBx w cb F) (hb : Below w.heap.size w u) : u.cell? ⟨cb, 0, none⟩ = some (.int .i64 (F.R.n : Int)) ∧ u.cell? ⟨cb, 1, none⟩ = some (.slice F.R.a F.R.m F.R.c) ∧ u.cell? ⟨cb, 2, none⟩ = some (.int .i64 (F.R.cn : Int)) ∧ u.cell? ⟨cb, 3, none⟩ = some (.int .i64 (F.R.cW : Int)) ∧ u.cell? ⟨cb, 4, none⟩ = some (.int .i64 (F.R.cL : Int)) ∧ u.cell? ⟨cb, 5, none⟩ = some (.slice F.R.a2 F.R.m2 F.R.c2) ∧ u.cell? ⟨cb, 6, none⟩ = some (.int .i64 (F.b : Int)) ∧ u.cell? ⟨cb, 7, none⟩ = some (.int .i64 (F.m : Int)) ∧ u.cell? ⟨cb, 8, none⟩ = some (.int .i64 (F.e : Int)) ∧ u.cell? ⟨cb, 9, none⟩ = some (.int .i64 (F.z : Int)) ∧ u.cell? ⟨cb, 10, none⟩ = some (.int .i64 (F.o : Int)) := by
  have h := h.kept hb
  exact ⟨h.c0, h.c1, h.c2, h.c3, h.c4, h.c5, h.c6, h.c7, h.c8, h.c9, h.c10⟩
theorem follow_b {w u : World} {F : FP} {row : List Bool} (d : Bool) (i : Nat) (x : Int) (hx : x = b2i d) (h : FK w F row) (hu : Below w.heap.size w u) (hbi : F.b ≤ i) (hi : i ≤ row.length) (r : Nat) (hr : ∀ y, y + (if d = true then F.o else F.z) = nb F d + rkN d row i → y = r) :
    Calls Tryz.prog 85 #[.agg #[.int .i64 (F.R.n : Int), .slice F.R.a F.R.m F.R.c, .int .i64 (F.R.cn : Int), .int .i64 (F.R.cW : Int), .int .i64 (F.R.cL : Int), .slice F.R.a2 F.R.m2 F.R.c2, .int .i64 (F.b : Int), .int .i64 (F.m : Int), .int .i64 (F.e : Int), .int .i64 (F.z : Int), .int .i64 (F.o : Int)], .int .i64 x, .int .i64 (i : Int)] u fun e u' => e = .returned (.int .i64 (r : Int)) ∧ Below w.heap.size w u' ∧ Below u.heap.size u u' :=
  (follow_any F row d i x hx u (h.kept hu) hbi hi).mono fun _ _ ⟨y, h1, h2, h3⟩ => ⟨by rw [h1, hr y h2], hu.trans (h3.mono hu.size), h3⟩

set_option maxHeartbeats 4000000 in
theorem down_any (l : List Int) (W : Nat) (a : Option Addr) (cap : Nat) (size : Int) (c f t : Nat) (w : World) (h : WX w l W a) (hc : c < 2 ^ W) (hft : f ≤ t) (ht : t ≤ l.length) :
    Calls Tryz.prog 81 #[.agg #[.int .i64 (l.length : Int), .int .i64 size, .slice a W cap], .int .i64 (c : Int), .int .i64 (f : Int), .int .i64 (t : Int)] w (DownEnd w l c f t) := by
  have hB := wbel w (.int .i64 (l.length : Int)) (.int .i64 size) (.slice a W cap)
  have hX := WBx.new w (l.length : Int) size (.slice a W cap)
  have hW := h.kept hB
  have hsm := h.small
  have hwi := h.wide
  have HS := Lib.hid h.sy
  have HC := Lib.hid hc
  obtain ⟨n, hn⟩ : ∃ n, l.length = n := ⟨_, rfl⟩
  rw [hn] at hB hX hsm ht ⊢
  have hlt := hX.lt
  have HH := Lib.hid (And.intro hn (And.intro hB (And.intro hX hW)))
  clear h hc hB hW hn hX
  go_enter Tryz.func81, Tryz.ntmps81
  go_wp2
  go_step3
  go_wp2
  go_quiet (fail)
  go_wp2
  go_step3
  go_wp2
  have hB1 := below_drewN HH.out.2.1 nq
  have hD := below_drewN (Below.refl (w.alloc (.cells #[.int .i64 (n : Int), .int .i64 size, .slice a W cap] 28)).heap.size (w.alloc (.cells #[.int .i64 (n : Int), .int .i64 size, .slice a W cap] 28))) nq
  have hX1 := HH.out.2.2.1.kept hD
  have hW1 : WX ((w.alloc (.cells #[.int .i64 (n : Int), .int .i64 size, .slice a W cap] 28)).drewN nq) l W a := by
    have := HH.out.2.2.2
    rw [HH.out.1] at this
    exact this.kept hD
  have HN := Lib.hid HH.out.1
  clear hD HH
  generalize (w.alloc (.cells #[.int .i64 (n : Int), .int .i64 size, .slice a W cap] 28)).drewN nq = w1 at *
  have HH := Lib.hid (And.intro hB1 (And.intro hX1 hW1))
  clear hB1 hX1 hW1 nq hlt
  generalize hbx : w.heap.size = bx at *
  have HZ : Hid (bx ≤ w1.heap.size) := Lib.hid (by have := HH.out.1.size; omega)
  have HBX := Lib.hid hbx
  clear hbx
  go_loopw [2, 3, 8, 11, 12, 23] (fun v2 v3 v8 v11 v12 v23 wr => ∃ k : Nat, k ≤ W ∧ v23 = .int .i64 (k : Int) ∧ v2 = .int .i64 (posN l (W - k) (c / 2 ^ (W - k)) f : Nat) ∧ v3 = .int .i64 (posN l (W - k) (c / 2 ^ (W - k)) t : Nat) ∧ v8 = .int .i64 ((sortI (rng l f t) (W - k) (c / 2 ^ (W - k))).length : Nat) ∧ v11 = .int .i64 (begN l (W - k) (c / 2 ^ (W - k)) : Nat) ∧ v12 = .int .i64 (posN l (W - k) (c / 2 ^ (W - k)) n : Nat) ∧ Below w1.heap.size w1 wr) (fun _ _ _ _ _ v23 _ => W - (intOf v23).toNat)
  case atStart =>
    have e0 : c / 2 ^ W = 0 := Nat.div_eq_of_lt HC.out
    refine ⟨0, Nat.zero_le _, rfl, ?_, ?_, ?_, ?_, ?_, Below.refl _ _⟩
    · rw [Nat.sub_zero, e0, start_pos l W f HS.out (by rw [HN.out]; omega)]
    · rw [Nat.sub_zero, e0, start_pos l W t HS.out (by rw [HN.out]; omega)]
    · rw [Nat.sub_zero, e0]; simp [sortI]
    · rw [Nat.sub_zero, e0]; simp [begN, sortI]
    · rw [Nat.sub_zero, e0, start_pos l W n HS.out (by rw [HN.out]; omega)]
  case round =>
    obtain ⟨k, hk, rfl, rfl, rfl, rfl, rfl, rfl, hbel⟩ := hrel
    have hrp := rng_pos l (W - k) (c / 2 ^ (W - k)) f t hft
    have hnn : ∀ x ∈ rng l f t, 0 ≤ x := fun x hx => (HS.out x (rng_mem l f t hx)).1
    by_cases hlt : k < W
    · by_cases hz : (withI (rng l f t) (W - k) (c / 2 ^ (W - k))).length = 0
      · have hno := none_left (rng l f t) (W - k) c hnn hz
        rw [hz, Nat.add_zero] at hrp
        rw [hrp, hno.1]
        have HE := Lib.hid (And.intro hno.2 hbel)
        obtain ⟨g, R, rfl, hx, hrk, hRn⟩ := HH.out.2.2.rs.at_ k hlt
        have hx2 := hx.kept hbel
        obtain ⟨x0, x1, x2, x3, x4, x5⟩ := hx2
        have q1 : (k : Int) < (W : Int) := by omega
        have q2 : (0 : Int) ≤ (k : Int) := by omega
        clear hno hbel hx hrk hRn hrp hz hnn
        generalize posN l (W - k) (c / 2 ^ (W - k)) f = pf at *
        go_wp2
        rw [Exit.noGoto_ret]
        refine bodyPost_ret (v := .tuple #[.int .i64 (ltN (rng l f t) c : Nat), .int .i64 (pf : Int), .int .i64 (pf : Int)]) (by simp [results, Tryz.results81, go_sem]) rfl ?_
        refine ⟨pf, ret_three rfl rfl (by rw [HE.out.1]; rfl), ?_⟩
        rw [HBX.out]
        exact HH.out.1.trans ((HE.out.2.alloc HE.out.2.size _).mono HZ.out)
      · obtain ⟨g, R, rfl, hx, hrk, hRn⟩ := HH.out.2.2.rs.at_ k hlt
        rw [rowsI_at l W k hlt] at hrk
        have hx2 := hx.kept hbel
        obtain ⟨x0, x1, x2, x3, x4, x5⟩ := hx2
        have hpl := first_lt c W k hk HC.out
        have hall := pos_all l W k (c / 2 ^ (W - k)) hk HS.out hpl
        have hle1 := pos_le l (W - k) (c / 2 ^ (W - k)) f
        have hle2 := pos_le l (W - k) (c / 2 ^ (W - k)) t
        have hbg := beg_le l (W - k) (c / 2 ^ (W - k)) f
        have hbg2 := beg_le l (W - k) (c / 2 ^ (W - k)) t
        have hnx := bits_step c W k hlt
        rw [HN.out] at hall hle1 hle2
        have hrl := rowK_len l W k hk HS.out
        rw [HN.out] at hrl
        have hnf := fun (F : FP) (w' : World) (hF : FK w' F (rowK l W k)) h1 h2 d => node_fork (w := w') (F := F) l W k (c / 2 ^ (W - k)) hlt HS.out hpl hF h1 h2 d
        have hst := fun d => sort_step (rng l f t) (W - 1 - k) (c / 2 ^ (W - k)) d
        have hsp := with_split (rng l f t) (W - 1 - k) (c / 2 ^ (W - k))
        have hrp2 := rng_pos l (W - 1 - k) (c / 2 ^ (W - 1 - k)) f t hft
        rw [← show W - k = W - 1 - k + 1 by omega] at hst hsp
        rw [HN.out] at hnf
        have hsl : (sortI (rng l f t) (W - k) (c / 2 ^ (W - k))).length ≤ n := by
          have h1 := sortI_len (rng l f t) (W - k) (c / 2 ^ (W - k))
          have h2 : (rng l f t).length ≤ l.length := by unfold rng; rw [List.length_drop, List.length_take]; omega
          rw [HN.out] at h2; omega
        generalize hd : decide ((c : Int) / 2 ^ (W - 1 - k) % 2 = 1) = d at *
        generalize hp : c / 2 ^ (W - k) = p at *
        have q1 : (k : Int) < (W : Int) := by omega
        have q2 : (0 : Int) ≤ (k : Int) := by omega
        have hne : ((posN l (W - k) p f : Nat) : Int) ≠ ((posN l (W - k) p t : Nat) : Int) := by omega
        have HQ := Lib.hid (And.intro hnf (And.intro hst (And.intro hsp (And.intro hrp2 hnx))))
        have HP := Lib.hid hp
        have HD := Lib.hid hd
        have HK := Lib.hid (And.intro hrk hrl)
        have HE := Lib.hid hbel
        have HRP := Lib.hid hrp
        clear hnf hst hsp hrp2 hnx hp hd hrk hbel hx hRn hnn hz hpl hrl hrp
        generalize hpf : posN l (W - k) p f = pf at *
        generalize hpt : posN l (W - k) p t = pt at *
        generalize hpe : posN l (W - k) p n = pe at *
        generalize hpb : begN l (W - k) p = pb at *
        generalize hps : (sortI (rng l f t) (W - k) p).length = ps at *
        have hne2 : ((pf : Int) == (pt : Int)) = false := by simpa using hne
        clear hne
        go_upto_region 7 with fail
        have hb2 : Below wr.heap.size wr (wr.alloc (.cells #[.int .i64 (R.n : Int), .slice R.a R.m R.c, .int .i64 (R.cn : Int), .int .i64 (R.cW : Int), .int .i64 (R.cL : Int), .slice R.a2 R.m2 R.c2] 35)) := rbel wr R
        have hb1 : Below w1.heap.size w1 (wr.alloc (.cells #[.int .i64 (R.n : Int), .slice R.a R.m R.c, .int .i64 (R.cn : Int), .int .i64 (R.cW : Int), .int .i64 (R.cL : Int), .slice R.a2 R.m2 R.c2] 35)) := HE.out.trans (hb2.mono HE.out.size)
        have hrb := RBx.new wr R
        have HRK := Lib.hid (And.intro (HK.out.1.kept hb1) HK.out.2)
        have HWB := Lib.hid (HH.out.2.1.kept hb1)
        have HRB := Lib.hid hrb
        have HB1 := Lib.hid hb1
        clear hb2 hb1 hrb x0 x1 x2 x3 x4 x5 HE HK
        generalize wr.alloc (.cells #[.int .i64 (R.n : Int), .slice R.a R.m R.c, .int .i64 (R.cn : Int), .int .i64 (R.cW : Int), .int .i64 (R.cL : Int), .slice R.a2 R.m2 R.c2] 35) = w2 at *
        generalize wr.heap.size = rb at *
        have hb : Below w2.heap.size w2 w2 := Below.refl _ _
        go_cut [16, 17] from 34 to 41 (fun v16 v17 wx => ∃ (cb : Nat) (F : FP), v16 = .pointer (some ⟨cb, 0, none⟩) ∧ v17 = .int .i64 (b2i d) ∧ FBx wx cb F ∧ Hid (F.R = R ∧ F.b = pb ∧ F.e = pe ∧ ∀ w', Below w2.heap.size w2 w' → FK w' F (rowK l W k)) ∧ Below w2.heap.size w2 wx)
        case first =>
          obtain ⟨z0, z1, z2, z3, z4, z5, z6, z7, z8⟩ := ss_of HWB.out HRB.out hb
          go_region_held3 (fun w' => w'.cell? ⟨bx, 0, none⟩ = some (.int .i64 (n : Int)) ∧ w'.cell? ⟨bx, 1, none⟩ = some (.int .i64 size) ∧ w'.cell? ⟨bx, 2, none⟩ = some (.slice (some ⟨g, 0, none⟩) W cap) ∧ w'.cell? ⟨rb, 0, none⟩ = some (.int .i64 (R.n : Int)) ∧ w'.cell? ⟨rb, 1, none⟩ = some (.slice R.a R.m R.c) ∧ w'.cell? ⟨rb, 2, none⟩ = some (.int .i64 (R.cn : Int)) ∧ w'.cell? ⟨rb, 3, none⟩ = some (.int .i64 (R.cW : Int)) ∧ w'.cell? ⟨rb, 4, none⟩ = some (.int .i64 (R.cL : Int)) ∧ w'.cell? ⟨rb, 5, none⟩ = some (.slice R.a2 R.m2 R.c2))
            (first
              | (with_reducible exact ss_of HWB.out HRB.out hb)
              | (with_reducible exact ss_of HWB.out HRB.out hb.drew)
              | (with_reducible exact ss_of HWB.out HRB.out (hb.alloc hb.size _))
              | (with_reducible exact ss_of HWB.out HRB.out (hb.alloc hb.size _).drew)
              | (with_reducible exact ss_of HWB.out HRB.out (setF_bel F hq))
              | go_keep)
            (first
              | (go_at_call 83; (with_reducible refine (forkAt_b pb pe HRK.out.1 hb (by omega) (by rw [HRK.out.2]; exact hall)).mono ?_); rintro e u ⟨F, rfl, hF, hb, hbu⟩)
              | (go_at_call 83; (with_reducible refine (forkAt_b pb pe HRK.out.1 hb.drew (by omega) (by rw [HRK.out.2]; exact hall)).mono ?_); rintro e u ⟨F, rfl, hF, hb, hbu⟩)
              | (go_at_call 83; (with_reducible refine (forkAt_b pb pe HRK.out.1 (hb.alloc hb.size _).drew (by omega) (by rw [HRK.out.2]; exact hall)).mono ?_); rintro e u ⟨F, rfl, hF, hb2, hbu⟩; have hq := (fresh76 hb).drew.kept hbu; clear hb; have hb := hb2; clear hb2; generalize w2.heap.size = cb at hq ⊢)
              | (go_at_call 83; (with_reducible refine (forkAt_b pb pe HRK.out.1 (hb.alloc hb.size _) (by omega) (by rw [HRK.out.2]; exact hall)).mono ?_); rintro e u ⟨F, rfl, hF, hb2, hbu⟩; have hq := (fresh76 hb).kept hbu; clear hb; have hb := hb2; clear hb2; generalize w2.heap.size = cb at hq ⊢)
              | (go_at_call 108; (with_reducible refine (wbit_b (n : Int) size (some ⟨g, 0, none⟩) W cap (c : Int) k hlt (by omega) hb).mono ?_); rintro e u2 ⟨rfl, hb, hbu⟩; have hq := hq.kept hbu; rw [HD.out]; obtain ⟨⟨y0, m0⟩, p0, ⟨y1, m1⟩, p1, ⟨y2, m2⟩, p2, ⟨y3, m3⟩, p3, ⟨y4, m4⟩, p4, ⟨y5, m5⟩, p5, ⟨y6, m6⟩, p6, ⟨y7, m7⟩, p7, ⟨y8, m8⟩, p8, ⟨y9, m9⟩, p9, ⟨y10, m10⟩, p10⟩ := hq.ex11)
              | (go_at_call 108; (with_reducible refine (wbit_b (n : Int) size (some ⟨g, 0, none⟩) W cap (c : Int) k hlt (by omega) hb).mono ?_); rintro e u2 ⟨rfl, hb, hbu⟩; rw [HD.out])
              | (go_at_call 108; (with_reducible refine (wbit_b (n : Int) size (some ⟨g, 0, none⟩) W cap (c : Int) k hlt (by omega) (hb.alloc hb.size _)).mono ?_); rintro e u2 ⟨rfl, hb2, hbu⟩; have hq := (fresh76 hb).kept hbu; clear hb; have hb := hb2; clear hb2; generalize u.heap.size = cb at hq ⊢; rw [HD.out]; obtain ⟨⟨y0, m0⟩, p0, ⟨y1, m1⟩, p1, ⟨y2, m2⟩, p2, ⟨y3, m3⟩, p3, ⟨y4, m4⟩, p4, ⟨y5, m5⟩, p5, ⟨y6, m6⟩, p6, ⟨y7, m7⟩, p7, ⟨y8, m8⟩, p8, ⟨y9, m9⟩, p9, ⟨y10, m10⟩, p10⟩ := hq.ex11))
          all_goals
            first
              | (have hbx2 := setF_box F hq
                 have hbl := setF_bel F hq
                 have HF := Lib.hid (And.intro hbx2 (And.intro hF hbl))
                 clear hbx2 hbl hF hq hb hbu
                 go_wp2
                 go_meet
                 refine ⟨cb, F, rfl, rfl, ?_, HF.out.2.1, ?_⟩
                 · with_reducible exact HF.out.1
                 · with_reducible exact HF.out.2.2)
              | (have hbx2 := FBx.new u2 F
                 have hbl := hb.alloc hb.size (.cells #[.int .i64 (F.R.n : Int), .slice F.R.a F.R.m F.R.c, .int .i64 (F.R.cn : Int), .int .i64 (F.R.cW : Int), .int .i64 (F.R.cL : Int), .slice F.R.a2 F.R.m2 F.R.c2, .int .i64 (F.b : Int), .int .i64 (F.m : Int), .int .i64 (F.e : Int), .int .i64 (F.z : Int), .int .i64 (F.o : Int)] 111)
                 have HF := Lib.hid (And.intro hbx2 (And.intro hF hbl))
                 clear hbx2 hbl hF hb hbu
                 go_wp2
                 go_meet
                 refine ⟨u2.heap.size, F, rfl, rfl, ?_, HF.out.2.1, ?_⟩
                 · with_reducible exact HF.out.1
                 · with_reducible exact HF.out.2.2)
        case rest =>
          obtain ⟨cb, F, rfl, rfl, hfb, hF, hb⟩ := hcut
          obtain ⟨hF1, hF2, hF3, hF4⟩ := hF.out
          obtain ⟨hQ1, hQ2, hQ3, hQ4⟩ := HQ.out.1 F w2 (hF4 w2 (Below.refl _ _)) hF2 hF3 d
          have hp' := HQ.out.2.2.2.2
          have hst := HQ.out.2.1 d
          have hsp := HQ.out.2.2.1
          have hrp2 := HQ.out.2.2.2.1
          have hrp := HRP.out
          rw [hp'] at hQ1 hQ2 hQ4 hst
          have hfk := hF4 wc hb
          have hr1 := hQ4 f
          have hr2 := hQ4 t
          rw [hpf] at hr1
          rw [hpt] at hr2
          generalize hx : b2i d = x at *
          have hlr : (rowK l W k).length = n := HRK.out.2
          have c1 := fun u (hu : Below wc.heap.size wc u) => follow_b d pf x hx.symm hfk hu (by omega) (by omega) _ hr1
          have c2 := fun u (hu : Below wc.heap.size wc u) => follow_b d pt x hx.symm hfk hu (by omega) (by omega) _ hr2
          have c3 := fun u => next_any F d x hx.symm u
          rw [hQ1, hQ2] at c3
          have hnf1 := pos_le l (W - 1 - k) (c / 2 ^ (W - 1 - k)) f
          have hnt1 := pos_le l (W - 1 - k) (c / 2 ^ (W - 1 - k)) t
          have hpl := first_lt c W (k + 1) hlt HC.out
          have hal := pos_all l W (k + 1) (c / 2 ^ (W - (k + 1))) hlt HS.out hpl
          rw [show W - (k + 1) = W - 1 - k by omega, HN.out] at hal
          rw [HN.out] at hnf1 hnt1
          have HX := Lib.hid hx
          have HM := Lib.hid (And.intro hst (And.intro hsp (And.intro hrp2 (And.intro hrp hp'))))
          have H1 := Lib.hid c1
          have H2 := Lib.hid c2
          have H3 := Lib.hid c3
          have HBW := Lib.hid (HB1.out.trans (hb.mono HB1.out.size))
          have HFB := Lib.hid hfb
          clear hst hsp hrp2 hrp hp' c1 c2 c3 hr1 hr2 hQ1 hQ2 hQ3 hQ4 hF1 hF2 hF3 hF4 hF hfk hb hpl hlr HQ HRP hx
          generalize hnf : posN l (W - 1 - k) (c / 2 ^ (W - 1 - k)) f = nf at *
          generalize hnt : posN l (W - 1 - k) (c / 2 ^ (W - 1 - k)) t = nt at *
          generalize hne : posN l (W - 1 - k) (c / 2 ^ (W - 1 - k)) n = nn at *
          generalize hnb : begN l (W - 1 - k) (c / 2 ^ (W - 1 - k)) = nbg at *
          have hb : Below wc.heap.size wc wc := Below.refl _ _
          have HNN := Lib.hid (And.intro hnf (And.intro hnt (And.intro hne hnb)))
          clear hnf hnt hne hnb
          obtain ⟨z0, z1, z2, z3, z4, z5, z6, z7, z8, z9, z10⟩ := fs_of HFB.out hb
          clear hfb
          go_wp2
          go_region_held3 (fun w' => w'.cell? ⟨cb, 0, none⟩ = some (.int .i64 (F.R.n : Int)) ∧ w'.cell? ⟨cb, 1, none⟩ = some (.slice F.R.a F.R.m F.R.c) ∧ w'.cell? ⟨cb, 2, none⟩ = some (.int .i64 (F.R.cn : Int)) ∧ w'.cell? ⟨cb, 3, none⟩ = some (.int .i64 (F.R.cW : Int)) ∧ w'.cell? ⟨cb, 4, none⟩ = some (.int .i64 (F.R.cL : Int)) ∧ w'.cell? ⟨cb, 5, none⟩ = some (.slice F.R.a2 F.R.m2 F.R.c2) ∧ w'.cell? ⟨cb, 6, none⟩ = some (.int .i64 (F.b : Int)) ∧ w'.cell? ⟨cb, 7, none⟩ = some (.int .i64 (F.m : Int)) ∧ w'.cell? ⟨cb, 8, none⟩ = some (.int .i64 (F.e : Int)) ∧ w'.cell? ⟨cb, 9, none⟩ = some (.int .i64 (F.z : Int)) ∧ w'.cell? ⟨cb, 10, none⟩ = some (.int .i64 (F.o : Int)))
            (first
              | (with_reducible exact fs_of HFB.out hb)
              | (with_reducible exact fs_of HFB.out hb.drew)
              | go_keep)
            (first
              | (go_at_call 85; (with_reducible refine (H1.out _ hb).mono ?_); rintro e u ⟨rfl, hb, hbu⟩)
              | (go_at_call 85; (with_reducible refine (H1.out _ hb.drew).mono ?_); rintro e u ⟨rfl, hb, hbu⟩)
              | (go_at_call 85; (with_reducible refine (H2.out _ hb).mono ?_); rintro e u2 ⟨rfl, hb, hbu⟩)
              | (go_at_call 85; (with_reducible refine (H2.out _ hb.drew).mono ?_); rintro e u2 ⟨rfl, hb, hbu⟩))
          clear z0 z1 z2 z3 z4 z5 z6 z7 z8 z9 z10
          obtain ⟨z0, z1, z2, z3, z4, z5, z6, z7, z8, z9, z10⟩ := fs_of HFB.out hb
          have HB := Lib.hid hb
          clear hb hbu H1 H2
          go_wp2_with fail
          refine (H3.out _).mono ?_
          rintro e u3 ⟨rfl, hb3⟩
          have hb4 := HB.out.trans (hb3.mono HB.out.size)
          have HB4 := Lib.hid (HBW.out.trans (hb4.mono HBW.out.size))
          clear z0 z1 z2 z3 z4 z5 z6 z7 z8 z9 z10 hb3 hb4 HB H3
          have hrp3 := HM.out.2.2.1
          have hrp4 := HM.out.2.2.2.1
          have q4 : IntKind.i64.wrap ((nt : Int) - (nf : Int)) = (nt : Int) - (nf : Int) := IntWalk.i64_in _ (by omega)
          cases d with
          | false =>
            obtain rfl : x = 0 := HX.out.symm
            clear hrp3 hrp4
            go_wp2
            go_roundw
            case rel =>
              have e1 : W - (k + 1) = W - 1 - k := by omega
              refine ⟨k + 1, hlt, by go_num, ?_, ?_, ?_, ?_, ?_, HB4.out⟩
              · rw [e1, HNN.out.1]
              · rw [e1, HNN.out.2.1]
              · rw [e1, HM.out.1]; simp
              · rw [e1, HNN.out.2.2.2]
              · rw [e1, HNN.out.2.2.1]
            case measure => simp [intOf]; omega
          | true =>
            obtain rfl : x = 1 := HX.out.symm
            have hA := HM.out.1
            have hB := HM.out.2.1
            rw [← HM.out.2.2.2.2] at hrp3
            simp only [if_true, bN] at hA hB hrp3
            have hfin : ((sortI (rng l f t) (W - 1 - k) (c / 2 ^ (W - 1 - k))).length : Int) = (ps : Int) + ((pt : Int) - (pf : Int) - ((nt : Int) - (nf : Int))) := by omega
            have HFI := Lib.hid hfin
            have q5 : (pt : Int) - (pf : Int) - ((nt : Int) - (nf : Int)) ≤ n := by omega
            have q6 : 0 ≤ (pt : Int) - (pf : Int) - ((nt : Int) - (nf : Int)) := by omega
            clear hA hB hfin hrp3 hrp4
            go_wp2
            go_roundw
            case rel =>
              have e1 : W - (k + 1) = W - 1 - k := by omega
              refine ⟨k + 1, hlt, by go_num, ?_, ?_, ?_, ?_, ?_, HB4.out⟩
              · rw [e1, HNN.out.1]
              · rw [e1, HNN.out.2.1]
              · rw [e1, HFI.out]
              · rw [e1, HNN.out.2.2.2]
              · rw [e1, HNN.out.2.2.1]
            case measure => simp [intOf]; omega
    · obtain rfl : k = W := by omega
      rw [Nat.sub_self, Nat.pow_zero, Nat.div_one] at *
      rw [with_zero] at hrp
      have hso := sort_zero (rng l f t) c hnn
      have HE := Lib.hid (And.intro hrp (And.intro hso hbel))
      clear hrp hso hbel hnn
      generalize posN l 0 c f = pf at *
      generalize posN l 0 c t = pt at *
      generalize (sortI (rng l f t) 0 c).length = ps at *
      go_wp2
      rw [Exit.noGoto_ret]
      refine bodyPost_ret (v := .tuple #[.int .i64 (ps : Int), .int .i64 (pf : Int), .int .i64 (pt : Int)]) (by simp [results, Tryz.results81, go_sem]) rfl ?_
      refine ⟨pf, ret_three (by rw [HE.out.2.1]) rfl (by rw [HE.out.1]), ?_⟩
      rw [HBX.out]
      exact HH.out.1.trans (HE.out.2.2.mono HZ.out)

end Go.Proofs.YtpnjccomngdblaaGreat
