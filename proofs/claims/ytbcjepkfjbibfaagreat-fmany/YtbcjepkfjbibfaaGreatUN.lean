/- The walk of FmAny. -/
import Derived.Test.YtbcjepkfjbibfaaGreatUC
import Derived.Lib.SmallJoins
set_option maxRecDepth 100000
namespace Go.Proofs.YtbcjepkfjbibfaaGreat
open Go.RowKit
open M
attribute [local go_sem ↓] Go.wp_at_zero Go.wp_at_succ

theorem cells76 : Tryz.prog.cellsOf 76 = 2 := by kernel_rfl
theorem cells5' : Tryz.prog.cellsOf 5 = 1 := by kernel_rfl
/-- Marks and samples that come in. -/
theorem parts_in {H : Type} {enc : TypeId × Value → H} {W : World} {r : Reach} {b0 : Nat} {v : Value} {x : DataW H} {pl : List MemPlace}
    (hv : Value.okWide Tryz.prog W r b0 76 v) (h : DataW.Trod enc Tryz.prog W 0 (fun _ => true) true 76 v x pl) :
    ∃ (A : Option Addr) (n c : Nat) (B : Option Addr) (m d : Nat) (bs : List Bool) (ts : List Int), v = .agg #[.slice A n c, .slice B m d] ∧ BoolsAt W A bs ∧ bs.length = n ∧ n ≤ c ∧ NumsAt .u8 W B ts ∧ ts.length = m ∧ ∀ y ∈ ts, 0 ≤ y ∧ y < 256 := by
  obtain ⟨v0, v1, y0, y1, fuel, rfl, -, -, h0, h1⟩ := Go.Joins.open_agg2 Tryz.underlying76 (by kernel_rfl) cells76 hv h
  have e0 : ∃ A n c, v0 = .slice A n c := by
    rcases Deep.open_bools Tryz.underlying44 Tryz.underlying4 cells4 h0 with ⟨hcs, _⟩ | ⟨a, l, c, B, hcs, _⟩
    · simp at hcs; exact ⟨_, _, _, hcs⟩
    · simp at hcs; exact ⟨_, _, _, hcs⟩
  have e1 : ∃ A n c, v1 = .slice A n c := by
    rcases Go.ChangeShapes.open_ints Tryz.underlying74 Tryz.underlying5 cells5' h1 with ⟨hcs, _⟩ | ⟨a, l, c, B, hcs, _⟩
    · simp at hcs; exact ⟨_, _, _, hcs⟩
    · simp at hcs; exact ⟨_, _, _, hcs⟩
  obtain ⟨A, n, c, rfl⟩ := e0
  obtain ⟨B, m, d, rfl⟩ := e1
  obtain ⟨bs, hb1, hb3, -, hb2⟩ := bools_in (enc := enc) (W := W) (a0 := A) (len := n) (cap := c) (x := y0.1) (pl := y0.2) ⟨fuel, h0⟩
  obtain ⟨ts, ht1, -, -, ht2, ht3⟩ := nums_in2 (enc := enc) (W := W) (a0 := B) (len := m) (cap := d) (x := y1.1) (pl := y1.2) Tryz.underlying74 Tryz.underlying5 cells5' ⟨fuel, h1⟩
  exact ⟨A, n, c, B, m, d, bs, ts, rfl, hb2, hb1, hb3, ht2, ht1, fun y hy => by
    have h2 : IntKind.u8.min ≤ y ∧ y ≤ IntKind.u8.max := by simpa [Lit.wf] using ht3 y hy
    have e1 : IntKind.u8.min = 0 := by decide
    have e2 : IntKind.u8.max = 255 := by decide
    omega⟩

/-- Its Len, if there is none. -/
theorem zlen_any (F : FQ) (h : F.N = 0) (u : World) : Calls Tryz.prog 13 #[.agg #[.int .i64 (F.N : Int), .int .i64 F.Z, .slice F.wa F.wW F.wc, .int .i64 (F.R.n : Int), .slice F.R.a F.R.m F.R.c, .int .i64 (F.R.cn : Int), .int .i64 (F.R.cW : Int), .int .i64 (F.R.cL : Int), .slice F.R.a2 F.R.m2 F.R.c2, .int .i64 (F.S.n : Int), .int .i64 (F.S.W : Int), .int .i64 (F.S.L : Int), .slice F.S.a F.S.m F.S.c, .int .i64 (F.P.n : Int), .int .i64 (F.P.W : Int), .int .i64 (F.P.L : Int), .slice F.P.a F.P.m F.P.c]] u fun e u' => e = .returned (.int .i64 0) ∧ Below u.heap.size u u' := by
  obtain ⟨x0, x1, x2, -⟩ := (MBx.new u F).cells
  have hb := mbel u F
  have hw := wlen_any (F.N : Int) F.Z (.slice F.wa F.wW F.wc) (u.alloc (.cells #[.int .i64 (F.N : Int), .int .i64 F.Z, .slice F.wa F.wW F.wc, .int .i64 (F.R.n : Int), .slice F.R.a F.R.m F.R.c, .int .i64 (F.R.cn : Int), .int .i64 (F.R.cW : Int), .int .i64 (F.R.cL : Int), .slice F.R.a2 F.R.m2 F.R.c2, .int .i64 (F.S.n : Int), .int .i64 (F.S.W : Int), .int .i64 (F.S.L : Int), .slice F.S.a F.S.m F.S.c, .int .i64 (F.P.n : Int), .int .i64 (F.P.W : Int), .int .i64 (F.P.L : Int), .slice F.P.a F.P.m F.P.c] 36))
  have HX := Lib.hid (And.intro hw hb)
  have q1 : IntKind.i64.wrap ((F.N : Int) - 1) = -1 := by rw [h]; exact IntWalk.i64_in _ (by omega)
  clear hw hb h
  go_enter Tryz.func13, Tryz.ntmps13
  go_wp2_with fail
  (with_reducible refine HX.out.1.mono ?_)
  clear x0 x1 x2
  rintro e u1 ⟨rfl, hb⟩
  have HB := Lib.hid (HX.out.2.trans (hb.mono HX.out.2.size))
  clear hb
  go_wp2
  go_ret
  exact ⟨ret_int (by omega), HB.out⟩
theorem bel_born {w u : World} (h : Below w.heap.size w u) : Below w.heap.size w (u.alloc (.cells #[.int .i64 0, .int .i64 0, .slice none 0 0, .int .i64 0, .slice none 0 0, .int .i64 0, .int .i64 0, .int .i64 0, .slice none 0 0, .int .i64 0, .int .i64 0, .int .i64 0, .slice none 0 0, .int .i64 0, .int .i64 0, .int .i64 0, .slice none 0 0] 36)) ∧ (u.alloc (.cells #[.int .i64 0, .int .i64 0, .slice none 0 0, .int .i64 0, .slice none 0 0, .int .i64 0, .int .i64 0, .int .i64 0, .slice none 0 0, .int .i64 0, .int .i64 0, .int .i64 0, .slice none 0 0, .int .i64 0, .int .i64 0, .int .i64 0, .slice none 0 0] 36)).there u.heap.size 0 17 ∧ Typ (u.alloc (.cells #[.int .i64 0, .int .i64 0, .slice none 0 0, .int .i64 0, .slice none 0 0, .int .i64 0, .int .i64 0, .int .i64 0, .slice none 0 0, .int .i64 0, .int .i64 0, .int .i64 0, .slice none 0 0, .int .i64 0, .int .i64 0, .int .i64 0, .slice none 0 0] 36)) u.heap.size 36 ∧ w.heap.size ≤ u.heap.size :=
  ⟨h.trans ((al _ _).mono h.size), there_new u, ⟨_, _, heap_alloc_new u _⟩, h.size⟩
theorem exL_len0 (L : List Int) (n : Nat) (h : L.length = n) : exL L 0 (n : Int) = L := by
  unfold exL
  have : lo L.length 0 = 0 := lo_at L.length 0 (by omega)
  rw [this, List.drop_zero, List.take_of_length_le (by rw [Int.toNat_natCast, h]; exact Nat.le_refl _)]

/-- What Load tells, of whatever parts. -/
structure AEnd (Q : LQ) (mm : List Int) (mk : List Bool) (xs : List Int) (s : Nat) (F : FQ) (ec : Int) (u : World) : Prop where
  out : (ec = 0 ∧ 2 ≤ s ∧ ∃ l, FMI u F l (s - 1) ∧ mm = wavL l ∧ mk = mkL l ∧ xs = smL l) ∨ (ec = 10 ∧ F = FQN)
  wa : F.wa = Q.a ∧ F.wW = Q.W ∨ F = FQN
theorem AEnd.kept {Q : LQ} {mm xs : List Int} {mk : List Bool} {s : Nat} {F : FQ} {ec : Int} {u u' : World} (h : AEnd Q mm mk xs s F ec u) (hb : Below u.heap.size u u') : AEnd Q mm mk xs s F ec u' :=
  ⟨h.out.imp (fun ⟨h1, h2, l, h3, h4⟩ => ⟨h1, h2, l, h3.kept hb, h4⟩) id, h.wa⟩
theorem AEnd.box {Q : LQ} {mm xs : List Int} {mk : List Bool} {s : Nat} {F : FQ} {ec : Int} {u : World} {g : Nat} (h : AEnd Q mm mk xs s F ec u) (hty : Typ u g 36) (F' : FQ) (ha : 0 < Q.W → ∀ p, Q.a = some p → p.block ≠ g) : AEnd Q mm mk xs s F ec (u.setCells g 0 [.int .i64 (F'.N : Int), .int .i64 F'.Z, .slice F'.wa F'.wW F'.wc, .int .i64 (F'.R.n : Int), .slice F'.R.a F'.R.m F'.R.c, .int .i64 (F'.R.cn : Int), .int .i64 (F'.R.cW : Int), .int .i64 (F'.R.cL : Int), .slice F'.R.a2 F'.R.m2 F'.R.c2, .int .i64 (F'.S.n : Int), .int .i64 (F'.S.W : Int), .int .i64 (F'.S.L : Int), .slice F'.S.a F'.S.m F'.S.c, .int .i64 (F'.P.n : Int), .int .i64 (F'.P.W : Int), .int .i64 (F'.P.L : Int), .slice F'.P.a F'.P.m F'.P.c]) :=
  ⟨h.out.imp (fun ⟨h1, h2, l, h3, h4⟩ => ⟨h1, h2, l, h3.box hty F' (fun hW p e => by
    rcases h.wa with ⟨h5, h6⟩ | h5
    · exact ha (by rw [← h6]; exact hW) p (by rw [← h5]; exact e)
    · rw [h5] at hW; exact absurd hW (by decide)), h4⟩) id, h.wa⟩
theorem load_all (Q : LQ) (mm : List Int) (mk : List Bool) (xs : List Int) (s : Nat) (w : World) (hW : WX w mm Q.W Q.a) (hN : mm.length = Q.N) (hn : Q.N ≤ 1001) (hs : s ≤ 100) (hZ : Q.Z = (s : Int)) (hsy : ∀ x ∈ mm, 0 ≤ x ∧ x < Q.Z) (hpw : Q.Z ≤ 2 ^ Q.W)
    (hM : RowAt w (.slice Q.ma Q.mw Q.mc) mk) (hnb : mk.length = Q.nb) (hJ : IRow w Q.J.n Q.J.W Q.J.L Q.J.a Q.J.m Q.J.c xs) :
    Calls Tryz.prog 37 #[.agg #[.int .i64 (Q.N : Int), .int .i64 Q.Z, .slice Q.a Q.W Q.cw], .agg #[.int .i64 (Q.nb : Int), .slice Q.ma Q.mw Q.mc], .agg #[.int .i64 (Q.J.n : Int), .int .i64 (Q.J.W : Int), .int .i64 (Q.J.L : Int), .slice Q.J.a Q.J.m Q.J.c]] w fun e u => ∃ F ec, e = .returned (.tuple #[.agg #[.int .i64 (F.N : Int), .int .i64 F.Z, .slice F.wa F.wW F.wc, .int .i64 (F.R.n : Int), .slice F.R.a F.R.m F.R.c, .int .i64 (F.R.cn : Int), .int .i64 (F.R.cW : Int), .int .i64 (F.R.cL : Int), .slice F.R.a2 F.R.m2 F.R.c2, .int .i64 (F.S.n : Int), .int .i64 (F.S.W : Int), .int .i64 (F.S.L : Int), .slice F.S.a F.S.m F.S.c, .int .i64 (F.P.n : Int), .int .i64 (F.P.W : Int), .int .i64 (F.P.L : Int), .slice F.P.a F.P.m F.P.c], .int .i64 ec]) ∧ AEnd Q mm mk xs s F ec u ∧ Below w.heap.size w u := by
  by_cases h : Q.Z < 2 ∨ ¬ Tb (mm.map (· + (-1)))
  · refine (load_no Q mm w hW hN hn hsy (by omega) h).mono ?_
    rintro e u ⟨rfl, hb⟩
    exact ⟨FQN, 10, rfl, ⟨.inr ⟨rfl, rfl⟩, .inr rfl⟩, hb⟩
  · have h1 : 2 ≤ s := Classical.byContradiction fun e => h (.inl (by omega))
    obtain ⟨l, hnn, h64, hl⟩ : Tb (mm.map (· + (-1))) := Classical.byContradiction fun e => h (.inr e)
    have hmm : mm = wavL l := by
      unfold wavL
      rw [← hl, List.map_map]
      conv => lhs; rw [← List.map_id mm]
      refine List.map_congr_left fun x _ => ?_
      show x = x + -1 + 1
      omega
    have hll : l.length + 1 = Q.N := by rw [← hN, hmm, wavL_len]
    have hls : ∀ x ∈ l, 0 ≤ x ∧ x < ((s - 1 : Nat) : Int) := fun x hx => by
      refine ⟨hnn x hx, ?_⟩
      have h2 : x ∈ turnL l := (turn_perm l).mem_iff.2 (List.mem_cons_of_mem _ hx)
      rw [← hl] at h2
      obtain ⟨y, hy, e⟩ := List.mem_map.1 h2
      have h3 := hsy y hy
      have e' : y + -1 = x := e
      omega
    rw [hmm] at hW
    refine (load_row Q l (s - 1) mk xs w hW hll hn hls (by omega) (by omega) (by omega) hpw hM hnb marked_said hJ).mono ?_
    intro e u hE
    unfold LoadEnd at hE
    by_cases hc : mkL l = mk ∧ smpOk Q xs l = true
    · rw [if_pos hc] at hE
      obtain ⟨⟨F, h1', h2, h3, h4⟩, hb⟩ := hE
      have h5 := hc.2
      unfold smpOk at h5
      rw [decide_eq_true_eq] at h5
      exact ⟨F, 0, h1', ⟨.inl ⟨rfl, h1, l, h2, hmm, hc.1.symm, h5.2.symm⟩, .inl ⟨h3, h4⟩⟩, hb⟩
    · rw [if_neg hc] at hE
      obtain ⟨h1', hb⟩ := hE
      exact ⟨FQN, 10, h1', ⟨.inr ⟨rfl, rfl⟩, .inr rfl⟩, hb⟩

/-- What came in, in its box. -/
structure PB9 (u : World) (b : Nat) (A : Option Addr) (n c : Nat) (B : Option Addr) (m d : Nat) : Prop where
  c0 : u.cell? ⟨b, 0, none⟩ = some (.slice A n c)
  c1 : u.cell? ⟨b, 1, none⟩ = some (.slice B m d)
theorem PB9.lt {u : World} {b n c m d : Nat} {A B : Option Addr} (h : PB9 u b A n c B m d) : b < u.heap.size := World.block_lt_of_cell? u _ h.c0
theorem PB9.kept {u u' : World} {b n c m d : Nat} {A B : Option Addr} (h : PB9 u b A n c B m d) (hb : Below u.heap.size u u') : PB9 u' b A n c B m d := by
  have cl : ∀ o, u'.cell? ⟨b, o, none⟩ = u.cell? ⟨b, o, none⟩ := fun o => hb.cell (p := ⟨b, o, none⟩) h.lt
  exact ⟨by rw [cl]; exact h.c0, by rw [cl]; exact h.c1⟩
theorem bools_take {u : World} {A : Option Addr} {l : List Bool} (h : BoolsAt u A l) (n : Nat) : BoolsAt u A (l.take n) := h.take n

/-- What the law holds: the wave in its box, the list, what came in. -/
structure NG (w : World) (qb wb : Nat) (N : Nat) (Z : Int) (a : Option Addr) (W cw : Nat) (L : List Int) (B MA : Option Addr) (bs : List Bool) (SA : Option Addr) (ts : List Int) (mn mc sn sc : Nat) (u : World) : Prop where
  pb : PB9 u qb MA mn mc SA sn sc
  wbx : WBx u wb (N : Int) Z (.slice a W cw)
  wx : WX u L W a
  nums : NumsAt .i64 u B L
  marks : BoolsAt u MA bs
  smps : NumsAt .u8 u SA ts
  bel : Below qb w u
  lt : qb ≤ u.heap.size
theorem NG.kept {w u u' : World} {qb wb N W cw mn mc sn sc : Nat} {Z : Int} {a B MA SA : Option Addr} {L ts : List Int} {bs : List Bool} (h : NG w qb wb N Z a W cw L B MA bs SA ts mn mc sn sc u) (hb : Below u.heap.size u u') : NG w qb wb N Z a W cw L B MA bs SA ts mn mc sn sc u' :=
  ⟨h.pb.kept hb, h.wbx.kept hb, h.wx.kept hb, h.nums.kept hb, h.marks.kept hb, h.smps.kept hb, h.bel.trans (hb.mono h.lt), Nat.le_trans h.lt hb.size⟩

set_option linter.unusedSimpArgs false in
set_option maxHeartbeats 8000000 in
theorem any_walk (A : Option Addr) (n0 c0 : Nat) (zs : List Int) (sz : Int) (MA : Option Addr) (mn mc : Nat) (SA : Option Addr) (sn sc : Nat) (bs : List Bool) (ts : List Int) (w : World) (hA : NumsAt .i64 w A zs) (hx : zs.length = n0) (hc : n0 ≤ c0)
    (hbs : BoolsAt w MA bs) (hbl : bs.length = mn) (hmc : mn ≤ mc) (hts : NumsAt .u8 w SA ts) (htl : ts.length = sn) (htb : ∀ y ∈ ts, 0 ≤ y ∧ y < 256) :
    Calls Tryz.prog 7 #[.slice A n0 c0, .int .i64 sz, .agg #[.slice MA mn mc, .slice SA sn sc]] w fun e w' => e = .returned (.bool true) ∧ Below w.heap.size w w' := by
  obtain ⟨w1, hw1⟩ : ∃ w1, w1 = w.alloc (.cells #[.slice MA mn mc, .slice SA sn sc] 76) := ⟨_, rfl⟩
  have hq1 : PB9 w1 w.heap.size MA mn mc SA sn sc := by rw [hw1]; exact ⟨by simp, by simp⟩
  have hb1 : Below w.heap.size w w1 := by rw [hw1]; exact al w _
  have HX := Lib.hid (And.intro hA (And.intro hx hc))
  have HM := Lib.hid (And.intro hbs (And.intro hbl (And.intro hts (And.intro htl htb))))
  obtain ⟨qb, hqb⟩ : ∃ qb, w.heap.size = qb := ⟨_, rfl⟩
  rw [hqb] at hq1 hb1
  have H1 := Lib.hid (And.intro hq1 hb1)
  have HQ := Lib.hid hqb
  clear hA hx hc hbs hbl hts htl htb hq1 hb1
  go_enter Tryz.func7, Tryz.ntmps7
  go_upto_region 1 with fail
  rw [← hw1]
  clear hw1
  go_wp2_with fail
  (with_reducible refine (awake_any _).mono ?_)
  rintro e u1 ⟨rfl, hb⟩
  have H2 := Lib.hid (And.intro (H1.out.1.kept hb) (H1.out.2.trans (hb.mono (by have := H1.out.1.lt; omega))))
  clear hb H1
  have hfw := few_any A n0 c0 30 u1 HX.out.2.2
  rw [show ((30 : Nat) : Int) = (30 : Int) from rfl] at hfw
  have htk := (HX.out.1.kept (by rw [HQ.out]; exact H2.out.2)).take (min n0 30)
  have htl : (zs.take (min n0 30)).length = min n0 30 := by rw [List.length_take, HX.out.2.1]; omega
  obtain ⟨qs, hq⟩ : ∃ qs, zs.take (min n0 30) = qs := ⟨_, rfl⟩
  rw [hq] at htk htl
  obtain ⟨k, hk⟩ : ∃ k, min n0 30 = k := ⟨_, rfl⟩
  rw [hk] at htl hfw
  have hk30 : k ≤ 30 := by omega
  have hsp := symbols_any A k c0 qs sz u1 htk htl
  rw [show min k 60 = k by omega] at hsp
  obtain ⟨h1, h2, h3⟩ := kind8_in sz
  have hll := cutL_len (kind8 sz) qs k (by omega)
  have hin := cutL_in (kind8 sz) qs k (by omega)
  obtain ⟨L, hL⟩ : ∃ L, cutL (kind8 sz) qs k = L := ⟨_, rfl⟩
  obtain ⟨s, hs⟩ : ∃ s, kind8 sz = s := ⟨_, rfl⟩
  rw [hL] at hsp hll hin
  rw [hs] at hsp hin h1 h2
  have H3 := Lib.hid (And.intro hfw (And.intro hsp (And.intro hll hin)))
  have hs1 : 1 ≤ s := h1
  have hs8 : s ≤ 8 := h2
  clear hfw htk htl hq hk hsp hll hin hL hs h1 h2 h3 HX
  go_wp2_with fail
  (with_reducible refine H3.out.1.mono ?_)
  rintro e u2 ⟨rfl, rfl⟩
  go_wp2_with fail
  (with_reducible refine H3.out.2.1.mono ?_)
  rintro e u3 ⟨v, rfl, hI⟩
  obtain ⟨B, bc, rfl, hB, hbc, hsh⟩ := own_at hI
  have hbk : ∀ b o, B = some ⟨b, o, none⟩ → b < u3.heap.size := fun b o e => (hI.1.lt b (by rw [e]; rfl)).2
  rw [H3.out.2.2.1] at hbc ⊢
  have hmy : mayB L (s : Int) = true := by
    unfold mayB
    rw [decide_eq_true (by omega), decide_eq_true (by omega), Bool.true_and, Bool.true_and, List.all_eq_true]
    intro x hx
    have := H3.out.2.2.2 x hx
    rw [decide_eq_true this.1, decide_eq_true this.2]
    rfl
  have hnw := wnew_any B k bc L (s : Int) u3 hB H3.out.2.2.1 (by omega) hbc hmy hbk
  have hpw := wdt_pow (s : Int) (by omega)
  have hb3 := H2.out.2.trans (hI.2.mono (by have := H2.out.1.lt; omega))
  have H4 := Lib.hid (And.intro hnw (And.intro hB (And.intro (H2.out.1.kept hI.2) (And.intro hb3 (And.intro hpw H3.out.2.2)))))
  clear hI hB hbc hsh hbk hmy hnw hpw hb3 H2 H3
  obtain ⟨W, hW⟩ : ∃ W, wdt (s : Int) = W := ⟨_, rfl⟩
  rw [hW] at H4
  clear hW
  go_wp2_with fail
  (with_reducible refine H4.out.1.mono ?_)
  rintro e u4 ⟨a, cw, rfl, hWX, -, hb⟩
  go_upto_region 4 with fail
  have hwb := WBx.new u4 (k : Int) (s : Int) (.slice a W cw)
  have hba := al u4 (.cells #[.int .i64 (k : Int), .int .i64 (s : Int), .slice a W cw] 27)
  obtain ⟨u5, hu5⟩ : ∃ u5, u4.alloc (.cells #[.int .i64 (k : Int), .int .i64 (s : Int), .slice a W cw] 27) = u5 := ⟨_, rfl⟩
  rw [hu5] at hwb hba
  rw [hu5]
  obtain ⟨wb, hwbe⟩ : ∃ wb, u4.heap.size = wb := ⟨_, rfl⟩
  rw [hwbe] at hwb
  simp only [hwbe]
  have hb35 := hb.trans (hba.mono hb.size)
  have hp5 := H4.out.2.2.1.kept hb35
  have hbel5 := H4.out.2.2.2.1.trans (hb35.mono (by have := H4.out.2.2.1.lt; omega))
  have hG : NG w qb wb k (s : Int) a W cw L B MA bs SA ts mn mc sn sc u5 := ⟨hp5, hwb, hWX.kept hba, H4.out.2.1.kept hb35, HM.out.1.kept (by rw [HQ.out]; exact hbel5), HM.out.2.2.1.kept (by rw [HQ.out]; exact hbel5), hbel5, by have := hp5.lt; omega⟩
  have H5 := Lib.hid hG
  have HL := Lib.hid (And.intro H4.out.2.2.2.2.2.1 (And.intro H4.out.2.2.2.2.2.2 H4.out.2.2.2.2.1))
  clear hWX hb hwb hba hu5 hwbe hb35 hp5 hbel5 hG H4
  have y0 := H5.out.pb.c0
  go_upto_if 46 with fail
  clear y0
  go_cut [12] from 47 to 48 (fun v12 wx => v12 = .slice MA (min mn 40) mc ∧ wx = u5)
  case first =>
    by_cases h40 : 40 < mn
    · have q1 : (40 : Int) < (mn : Int) := by omega
      have q2 : (40 : Int) ≤ (mc : Int) := by omega
      have q3 : (40 : Int) ≤ (mn : Int) := by omega
      go_wp2
      go_meet
      exact ⟨by rw [Nat.min_eq_right (by omega)], rfl⟩
    · have q1 : ¬ (40 : Int) < (mn : Int) := by omega
      go_wp2
      go_meet
      exact ⟨by rw [Nat.min_eq_left (by omega)], rfl⟩
  case rest =>
    obtain ⟨rfl, rfl⟩ := hcut
    obtain ⟨mm, hmm⟩ : ∃ mm, min mn 40 = mm := ⟨_, rfl⟩
    rw [hmm]
    have hmm40 : mm ≤ 40 := by omega
    obtain ⟨sm, hsm⟩ : ∃ sm, min sn 40 = sm := ⟨_, rfl⟩
    have hsm1 : sm ≤ sn := by omega
    have hsm2 : sm ≤ 40 := by omega
    have hsm3 : sm < sn → sm = 40 := by omega
    obtain ⟨mk, hmk⟩ : ∃ mk, bs.take mm = mk := ⟨_, rfl⟩
    have hmkl : mk.length = mm := by rw [← hmk, List.length_take, HM.out.2.1]; omega
    have hmkb : BoolsAt wc MA mk := by rw [← hmk]; exact bools_take H5.out.marks mm
    have HK := Lib.hid (And.intro hmkl (And.intro hmkb hmm))
    have HSM := Lib.hid (And.intro hsm hsm3)
    obtain ⟨wo, rfl⟩ : ∃ wo, wo = wc := ⟨_, rfl⟩
    clear hmm hsm hsm3 hmk hmkl hmkb
    go_wp2
    go_loopw [13, 14] (fun v13 v14 wr => ∃ i : Nat, i ≤ sm ∧ v14 = .int .i64 (i : Int) ∧ OwnI wo v13 (ts.take i) wr) (fun _ v14 _ => sm - (intOf v14).toNat)
    case atStart => exact ⟨0, Nat.zero_le _, rfl, World.ownsRow_nil _ _ _ _, Below.refl _ _⟩
    case round =>
      obtain ⟨i, hin, rfl, hI⟩ := hrel
      have hp := H5.out.pb.kept hI.2
      have y0 := hp.c0
      have y1 := hp.c1
      clear hp
      go_upto_region 11 with fail
      go_cut [57] from 49 to 56 (fun v57 wx => v57 = .bool (decide (i < sm)) ∧ wx = wr)
      case first =>
        by_cases h1 : i < sn
        · have q1 : (i : Int) < (sn : Int) := by omega
          by_cases h2 : i < 40
          · have q2 : (i : Int) < 40 := by omega
            have HD := Lib.hid (show decide (i < sm) = true by rw [decide_eq_true]; have := HSM.out; omega)
            go_wp2
            go_meet
            exact ⟨by rw [HD.out], rfl⟩
          · have q2 : ¬ (i : Int) < 40 := by omega
            have HD := Lib.hid (show decide (i < sm) = false by rw [decide_eq_false]; have := HSM.out; omega)
            go_wp2
            go_meet
            exact ⟨by rw [HD.out], rfl⟩
        · have q1 : ¬ (i : Int) < (sn : Int) := by omega
          have HD := Lib.hid (show decide (i < sm) = false by rw [decide_eq_false]; have := HSM.out; omega)
          go_wp2
          go_meet
          exact ⟨by rw [HD.out], rfl⟩
      case rest =>
        obtain ⟨rfl, rfl⟩ := hcut
        obtain ⟨wr, rfl⟩ : ∃ wr, wr = wc := ⟨_, rfl⟩
        by_cases hlt : i < sm
        · rw [decide_eq_true hlt]
          rcases H5.out.smps.kept hI.2 with h0 | ⟨bb, off, hSe, hbl, hcs⟩
          · have := HM.out.2.2.2.1; rw [h0] at this; simp at this; omega
          have cs := hcs i (by rw [HM.out.2.2.2.1]; omega)
          have hyb := HM.out.2.2.2.2 _ (getD_mem (b := 0) (l := ts) (i := i) (by rw [HM.out.2.2.2.1]; omega))
          have hsu := takeI_snoc ts i (by rw [HM.out.2.2.2.1]; omega)
          have hln : (ts.take i).length = i := by rw [List.length_take, HM.out.2.2.2.1]; omega
          obtain ⟨y, hy⟩ : ∃ y, ts.getD i 0 = y := ⟨_, rfl⟩
          rw [hy] at cs hyb hsu
          have hszi := hI.2.size
          obtain ⟨t9, ht9⟩ : ∃ t9, ts.take i = t9 := ⟨_, rfl⟩
          rw [ht9] at hI hsu hln
          have HI := Lib.hid (And.intro hI (And.intro hsu hln))
          subst hSe
          clear hI hcs hsu hln hy ht9
          have qw : IntKind.i64.wrap y = y := IntWalk.i64_in _ (by omega)
          have q1 : (i : Int) < (sn : Int) := by omega
          have q2 : (0 : Int) ≤ (i : Int) := by omega
          go_wp2_with (first
            | (at_builtin
               refine wpList_append_nums rfl (.tmp 60) (.tmp 67) rfl wo.heap.size _ _ _ rfl (HI.out.1.alloc _).1 (some ⟨_, 0, none⟩) 1 1 [y] rfl rfl ?c1 (by simp) ?c2 ?c3 ?_))
          case c1 => exact nums_one _ _
          case c2 => rw [HI.out.2.2]; omega
          case c3 => first | omega | (simp; omega)
          intro v' w5 hown hgrow _
          have hI5 := (HI.out.1.alloc _).app (l' := t9 ++ [y]) (by simpa using hown) hgrow
          have HX5 := Lib.hid hI5
          clear hown hgrow hI5
          go_wp2
          go_roundw
          case rel => exact ⟨i + 1, by omega, by go_num, by rw [HI.out.2.1]; exact HX5.out⟩
          case measure => simp [intOf]; omega
        · rw [decide_eq_false hlt]
          obtain rfl : i = sm := by omega
          obtain ⟨xs, hxs⟩ : ∃ xs, ts.take i = xs := ⟨_, rfl⟩
          rw [hxs] at hI
          have hxl : xs.length = i := by rw [← hxs, List.length_take, HM.out.2.2.2.1]; omega
          have hxb : ∀ x ∈ xs, 0 ≤ x ∧ x < 2 ^ 62 := fun x hx => by
            rw [← hxs] at hx
            have := HM.out.2.2.2.2 x (List.mem_of_mem_take hx)
            omega
          obtain ⟨X, xc, rfl, hX, -⟩ := own_at hI
          rw [hxl]
          have hti := tight_row X i xc xs wr 62 (Nat.le_refl _) hX hxl (by omega) hxb
          have H6 := Lib.hid (And.intro (H5.out.kept hI.2) (And.intro (HK.out.2.1.kept hI.2) (And.intro hX (And.intro hti hxl))))
          clear hI hxs hxb hX hti y0 y1 hxl H5 HSM HM
          go_wp2_with fail
          (with_reducible refine H6.out.2.2.2.1.mono ?_)
          rintro e u6 ⟨g3, L3, m3, rfl, hI, hb⟩
          obtain ⟨W3, hW3⟩ : ∃ W3, wid (mostI xs).toNat = W3 := ⟨_, rfl⟩
          rw [hW3] at hI ⊢
          clear hW3
          go_upto_region 15 with fail
          have hib := IBx.new u6 i W3 L3 (.slice (some ⟨g3, 0, none⟩) m3 m3)
          have hba := al u6 (.cells #[.int .i64 (i : Int), .int .i64 (W3 : Int), .int .i64 (L3 : Int), .slice (some ⟨g3, 0, none⟩) m3 m3] 32)
          obtain ⟨u7, hu7⟩ : ∃ u7, u6.alloc (.cells #[.int .i64 (i : Int), .int .i64 (W3 : Int), .int .i64 (L3 : Int), .slice (some ⟨g3, 0, none⟩) m3 m3] 32) = u7 := ⟨_, rfl⟩
          rw [hu7] at hib hba
          rw [hu7]
          obtain ⟨b3, hb3⟩ : ∃ b3, u6.heap.size = b3 := ⟨_, rfl⟩
          rw [hb3] at hib
          simp only [hb3]
          have hb7 := hb.trans (hba.mono hb.size)
          have hG7 := H6.out.1.kept hb7
          have hI7 := hI.kept hba
          have hM7 := H6.out.2.1.kept hb7
          have hX7 := H6.out.2.2.1.kept hb7
          have hmkc : ∀ u, Below u7.heap.size u7 u → Calls Tryz.prog 38 #[.slice MA mm mc] u fun e u' => ∃ ma mw mcc, e = .returned (.agg #[.int .i64 (mm : Int), .slice ma mw mcc]) ∧ RowAt u' (.slice ma mw mcc) mk ∧ Below u.heap.size u u' := fun u hb => by
            have := make_any MA mc mk u (hM7.kept hb) (by rw [HK.out.1]; omega)
            rw [HK.out.1] at this
            exact this.mono fun e u' ⟨h1, h2, h3⟩ => ⟨_, _, _, h1, h2, h3⟩
          have hlo : ∀ u ma mw mcc, Below u7.heap.size u7 u → RowAt u (.slice ma mw mcc) mk → Calls Tryz.prog 37 #[.agg #[.int .i64 (k : Int), .int .i64 (s : Int), .slice a W cw], .agg #[.int .i64 (mm : Int), .slice ma mw mcc], .agg #[.int .i64 (i : Int), .int .i64 (W3 : Int), .int .i64 (L3 : Int), .slice (some ⟨g3, 0, none⟩) m3 m3]] u fun e u' => ∃ F ec, e = .returned (.tuple #[.agg #[.int .i64 (F.N : Int), .int .i64 F.Z, .slice F.wa F.wW F.wc, .int .i64 (F.R.n : Int), .slice F.R.a F.R.m F.R.c, .int .i64 (F.R.cn : Int), .int .i64 (F.R.cW : Int), .int .i64 (F.R.cL : Int), .slice F.R.a2 F.R.m2 F.R.c2, .int .i64 (F.S.n : Int), .int .i64 (F.S.W : Int), .int .i64 (F.S.L : Int), .slice F.S.a F.S.m F.S.c, .int .i64 (F.P.n : Int), .int .i64 (F.P.W : Int), .int .i64 (F.P.L : Int), .slice F.P.a F.P.m F.P.c], .int .i64 ec]) ∧ AEnd ⟨k, (s : Int), a, W, cw, mm, ma, mw, mcc, ⟨i, W3, L3, some ⟨g3, 0, none⟩, m3, m3⟩⟩ L mk xs s F ec u' ∧ Below u.heap.size u u' := fun u ma mw mcc hb hr =>
            load_all ⟨k, (s : Int), a, W, cw, mm, ma, mw, mcc, ⟨i, W3, L3, some ⟨g3, 0, none⟩, m3, m3⟩⟩ L mk xs s u (hG7.wx.kept hb) HL.out.1 (by show k ≤ 1001; omega) (by omega) rfl HL.out.2.1 HL.out.2.2 hr HK.out.1 (hI7.kept hb)
          have H7 := Lib.hid (And.intro hG7 (And.intro hib (And.intro hmkc (And.intro hlo (And.intro hM7 hX7)))))
          have HXL := Lib.hid H6.out.2.2.2.2
          clear hib hba hu7 hb3 hb7 hG7 hI7 hM7 hX7 hI hb hmkc hlo H6
          go_cut [17, 18] from 74 to 81 (fun v17 v18 wx => ∃ (g : Nat) (F : FQ) (ec : Int) (Q : LQ), v17 = .pointer (some ⟨g, 0, none⟩) ∧ v18 = .int .i64 ec ∧ Below u7.heap.size u7 wx ∧ MBx wx g F ∧ AEnd Q L mk xs s F ec wx)
          case first =>
            have hA := Below.refl u7.heap.size u7
            try simp only [List.append_eq, List.cons_append, List.nil_append]
            refine wp_region_held_drew (S := fun w' => Below u7.heap.size u7 w') (by kernel_rfl) (hA.drew) (fun hHeld => ?_)
            replace hA := hA.drew
            refine wpAnyH_take (i := 0) (oi := ⟨some 75, _, _, _, _, _⟩) (v := ?_) rfl (by kernel_rfl) (by kernel_rfl) (by kernel_rfl) (fun _ _ _ h => h) (Or.inl ⟨by kernel_rfl, ?_⟩) (by assumption) ?_
            case refine_2 => (intro w hSw; have y := H7.out.2.1.kept hSw; have y0 := y.c0; have y1 := y.c1; have y2 := y.c2; have y3 := y.c3; have z := H7.out.1.wbx.kept hSw; have z0 := z.c0; have z1 := z.c1; have z2 := z.c2; go_simp; try (with_reducible rfl))
            try simp only [Act.put, List.setIfInBounds_toArray, List.set_cons_zero, List.set_cons_succ]
            refine wpAnyH_take (i := 1) (oi := ⟨some 76, _, _, _, _, _⟩) (v := ?_) rfl (by kernel_rfl) (by kernel_rfl) (by kernel_rfl) (fun _ _ _ h => h) (Or.inl ⟨by kernel_rfl, ?_⟩) (by assumption) ?_
            case refine_2 => (intro w hSw; go_simp; try (with_reducible rfl))
            try simp only [Act.put, List.setIfInBounds_toArray, List.set_cons_zero, List.set_cons_succ]
            refine wpAnyH_take (i := 3) (oi := ⟨some 78, _, _, _, _, _⟩) (v := ?_) rfl (by kernel_rfl) (by kernel_rfl) (by kernel_rfl) (fun _ _ _ h => h) (Or.inl ⟨by kernel_rfl, ?_⟩) (by assumption) ?_
            case refine_2 => (intro w hSw; have y := H7.out.2.1.kept hSw; have y0 := y.c0; have y1 := y.c1; have y2 := y.c2; have y3 := y.c3; have z := H7.out.1.wbx.kept hSw; have z0 := z.c0; have z1 := z.c1; have z2 := z.c2; go_simp; try (with_reducible rfl))
            try simp only [Act.put, List.setIfInBounds_toArray, List.set_cons_zero, List.set_cons_succ]
            refine wpAnyH_ready (rs := [2, 8]) (by kernel_rfl) (by simp) ?_
            refine AllReadyH.cons rfl (fun K hK => ?_) (AllReadyH.cons rfl (fun K hK => ?_) AllReadyH.nil)
            · go_simp
              (with_reducible refine (H7.out.2.2.1 _ hA).mono ?_)
              rintro e u ⟨ma, mw, mcc, rfl, hrw, hb⟩
              try replace hth := there_kp hth hty.lt (Below.kp hb) (fun h => h)
              try replace hty := hty.kept hb
              try replace hrw := hrw.kept hb
              replace hA := hA.trans (hb.mono hA.size)
              clear hb
              clear hHeld
              refine hK.out _ _ (hA) (fun hHeld => ?_)
              clear hK K
              try simp only [Act.put, List.setIfInBounds_toArray, List.set_cons_zero, List.set_cons_succ]
              refine wpAnyH_ready (rs := [4, 8]) (by kernel_rfl) (by simp) ?_
              refine AllReadyH.cons rfl (fun K hK => ?_) (AllReadyH.cons rfl (fun K hK => ?_) AllReadyH.nil)
              · go_simp
                (with_reducible refine (H7.out.2.2.2.1 _ _ _ _ hA hrw).mono ?_)
                rintro e u ⟨F, ec, rfl, hF2, hb⟩
                clear hrw
                try replace hth := there_kp hth hty.lt (Below.kp hb) (fun h => h)
                try replace hty := hty.kept hb
                try replace hrw := hrw.kept hb
                replace hA := hA.trans (hb.mono hA.size)
                clear hb
                clear hHeld
                refine hK.out _ _ (hA) (fun hHeld => ?_)
                clear hK K
                try simp only [Act.put, List.setIfInBounds_toArray, List.set_cons_zero, List.set_cons_succ]
                refine wpAnyH_take (i := 5) (oi := ⟨some 74, _, _, _, _, _⟩) (v := ?_) rfl (by kernel_rfl) (by kernel_rfl) (by kernel_rfl) (fun _ _ _ h => h) (Or.inl ⟨by kernel_rfl, ?_⟩) (by assumption) ?_
                case refine_2 => (intro w hSw; go_simp; try (with_reducible rfl))
                try simp only [Act.put, List.setIfInBounds_toArray, List.set_cons_zero, List.set_cons_succ]
                refine wpAnyH_take (i := 6) (oi := ⟨some 80, _, _, _, _, _⟩) (v := ?_) rfl (by kernel_rfl) (by kernel_rfl) (by kernel_rfl) (fun _ _ _ h => h) (Or.inl ⟨by kernel_rfl, ?_⟩) (by assumption) ?_
                case refine_2 => (intro w hSw; go_simp; try (with_reducible rfl))
                try simp only [Act.put, List.setIfInBounds_toArray, List.set_cons_zero, List.set_cons_succ]
                refine wpAnyH_take (i := 7) (oi := ⟨some 81, _, _, _, _, _⟩) (v := ?_) rfl (by kernel_rfl) (by kernel_rfl) (by kernel_rfl) (fun _ _ _ h => h) (Or.inl ⟨by kernel_rfl, ?_⟩) (by assumption) ?_
                case refine_2 => (intro w hSw; go_simp; try (with_reducible rfl))
                try simp only [Act.put, List.setIfInBounds_toArray, List.set_cons_zero, List.set_cons_succ]
                refine wpAnyH_ready (rs := [8]) (by kernel_rfl) (by simp) ?_
                refine AllReadyH.cons rfl (fun K hK => ?_) AllReadyH.nil
                go_simp
                obtain ⟨hA', hth, hty, hgr⟩ := bel_born hA
                replace hA := hA'
                clear hA'
                try replace hF2 := hF2.kept (al _ (.cells #[.int .i64 0, .int .i64 0, .slice none 0 0, .int .i64 0, .slice none 0 0, .int .i64 0, .int .i64 0, .int .i64 0, .slice none 0 0, .int .i64 0, .int .i64 0, .int .i64 0, .slice none 0 0, .int .i64 0, .int .i64 0, .int .i64 0, .slice none 0 0] 36))
                try replace hrw := hrw.kept (al _ (.cells #[.int .i64 0, .int .i64 0, .slice none 0 0, .int .i64 0, .slice none 0 0, .int .i64 0, .int .i64 0, .int .i64 0, .slice none 0 0, .int .i64 0, .int .i64 0, .int .i64 0, .slice none 0 0, .int .i64 0, .int .i64 0, .int .i64 0, .slice none 0 0] 36))
                try simp only [drew_alloc, drew_size] at hA hth hty hgr
                try simp only [drew_alloc, drew_size] at hF2
                try simp only [drew_alloc, drew_size] at hrw
                clear hHeld
                refine hK.out _ _ (hA) (fun hHeld => ?_)
                clear hK K
                try simp only [Act.put, List.setIfInBounds_toArray, List.set_cons_zero, List.set_cons_succ]
                refine wpAnyH_ready (rs := [9]) (by kernel_rfl) (by simp) ?_
                refine AllReadyH.cons rfl (fun K hK => ?_) AllReadyH.nil
                refine store36R F _ _ _ (by rfl) rfl rfl rfl hth ?_
                have hbx := MBx.stored F hth
                replace hA := bel_box hgr F hA
                have hF3 := hF2.box hty F (fun h p e => by have := H7.out.1.wx.old h p e; omega)
                clear hth hty hF2
                clear hHeld
                refine hK.out _ _ (hA) (fun hHeld => ?_)
                clear hK K
                try simp only [Act.put, List.setIfInBounds_toArray, List.set_cons_zero, List.set_cons_succ]
                refine wpAnyH_take (i := 10) (oi := ⟨some 18, _, _, _, _, _⟩) (v := ?_) rfl (by kernel_rfl) (by kernel_rfl) (by kernel_rfl) (fun _ _ _ h => h) (Or.inl ⟨by kernel_rfl, ?_⟩) (by assumption) ?_
                case refine_2 => (intro w hSw; go_simp; try (with_reducible rfl))
                try simp only [Act.put, List.setIfInBounds_toArray, List.set_cons_zero, List.set_cons_succ]
                refine wpAnyH_done (by kernel_rfl) ?_ _
                clear hHeld
                have HE := Lib.hid (And.intro hA (And.intro hbx hF3))
                clear hA hbx hF3 hgr
                go_wp2
                go_meet
                exact ⟨_, F, ec, _, rfl, rfl, HE.out.1, HE.out.2.1, HE.out.2.2⟩
              · go_simp
                obtain ⟨hA', hth, hty, hgr⟩ := bel_born hA
                replace hA := hA'
                clear hA'
                try replace hF2 := hF2.kept (al _ (.cells #[.int .i64 0, .int .i64 0, .slice none 0 0, .int .i64 0, .slice none 0 0, .int .i64 0, .int .i64 0, .int .i64 0, .slice none 0 0, .int .i64 0, .int .i64 0, .int .i64 0, .slice none 0 0, .int .i64 0, .int .i64 0, .int .i64 0, .slice none 0 0] 36))
                try replace hrw := hrw.kept (al _ (.cells #[.int .i64 0, .int .i64 0, .slice none 0 0, .int .i64 0, .slice none 0 0, .int .i64 0, .int .i64 0, .int .i64 0, .slice none 0 0, .int .i64 0, .int .i64 0, .int .i64 0, .slice none 0 0, .int .i64 0, .int .i64 0, .int .i64 0, .slice none 0 0] 36))
                try simp only [drew_alloc, drew_size] at hA hth hty hgr
                try simp only [drew_alloc, drew_size] at hF2
                try simp only [drew_alloc, drew_size] at hrw
                clear hHeld
                refine hK.out _ _ (hA) (fun hHeld => ?_)
                clear hK K
                try simp only [Act.put, List.setIfInBounds_toArray, List.set_cons_zero, List.set_cons_succ]
                refine wpAnyH_ready (rs := [4]) (by kernel_rfl) (by simp) ?_
                refine AllReadyH.cons rfl (fun K hK => ?_) AllReadyH.nil
                go_simp
                (with_reducible refine (H7.out.2.2.2.1 _ _ _ _ hA hrw).mono ?_)
                rintro e u ⟨F, ec, rfl, hF2, hb⟩
                clear hrw
                try replace hth := there_kp hth hty.lt (Below.kp hb) (fun h => h)
                try replace hty := hty.kept hb
                try replace hrw := hrw.kept hb
                replace hA := hA.trans (hb.mono hA.size)
                clear hb
                clear hHeld
                refine hK.out _ _ (hA) (fun hHeld => ?_)
                clear hK K
                try simp only [Act.put, List.setIfInBounds_toArray, List.set_cons_zero, List.set_cons_succ]
                refine wpAnyH_take (i := 5) (oi := ⟨some 74, _, _, _, _, _⟩) (v := ?_) rfl (by kernel_rfl) (by kernel_rfl) (by kernel_rfl) (fun _ _ _ h => h) (Or.inl ⟨by kernel_rfl, ?_⟩) (by assumption) ?_
                case refine_2 => (intro w hSw; go_simp; try (with_reducible rfl))
                try simp only [Act.put, List.setIfInBounds_toArray, List.set_cons_zero, List.set_cons_succ]
                refine wpAnyH_take (i := 6) (oi := ⟨some 80, _, _, _, _, _⟩) (v := ?_) rfl (by kernel_rfl) (by kernel_rfl) (by kernel_rfl) (fun _ _ _ h => h) (Or.inl ⟨by kernel_rfl, ?_⟩) (by assumption) ?_
                case refine_2 => (intro w hSw; go_simp; try (with_reducible rfl))
                try simp only [Act.put, List.setIfInBounds_toArray, List.set_cons_zero, List.set_cons_succ]
                refine wpAnyH_take (i := 7) (oi := ⟨some 81, _, _, _, _, _⟩) (v := ?_) rfl (by kernel_rfl) (by kernel_rfl) (by kernel_rfl) (fun _ _ _ h => h) (Or.inl ⟨by kernel_rfl, ?_⟩) (by assumption) ?_
                case refine_2 => (intro w hSw; go_simp; try (with_reducible rfl))
                try simp only [Act.put, List.setIfInBounds_toArray, List.set_cons_zero, List.set_cons_succ]
                refine wpAnyH_ready (rs := [9]) (by kernel_rfl) (by simp) ?_
                refine AllReadyH.cons rfl (fun K hK => ?_) AllReadyH.nil
                refine store36R F _ _ _ (by rfl) rfl rfl rfl hth ?_
                have hbx := MBx.stored F hth
                replace hA := bel_box hgr F hA
                have hF3 := hF2.box hty F (fun h p e => by have := H7.out.1.wx.old h p e; omega)
                clear hth hty hF2
                clear hHeld
                refine hK.out _ _ (hA) (fun hHeld => ?_)
                clear hK K
                try simp only [Act.put, List.setIfInBounds_toArray, List.set_cons_zero, List.set_cons_succ]
                refine wpAnyH_take (i := 10) (oi := ⟨some 18, _, _, _, _, _⟩) (v := ?_) rfl (by kernel_rfl) (by kernel_rfl) (by kernel_rfl) (fun _ _ _ h => h) (Or.inl ⟨by kernel_rfl, ?_⟩) (by assumption) ?_
                case refine_2 => (intro w hSw; go_simp; try (with_reducible rfl))
                try simp only [Act.put, List.setIfInBounds_toArray, List.set_cons_zero, List.set_cons_succ]
                refine wpAnyH_done (by kernel_rfl) ?_ _
                clear hHeld
                have HE := Lib.hid (And.intro hA (And.intro hbx hF3))
                clear hA hbx hF3 hgr
                go_wp2
                go_meet
                exact ⟨_, F, ec, _, rfl, rfl, HE.out.1, HE.out.2.1, HE.out.2.2⟩
            · go_simp
              obtain ⟨hA', hth, hty, hgr⟩ := bel_born hA
              replace hA := hA'
              clear hA'
              try replace hF2 := hF2.kept (al _ (.cells #[.int .i64 0, .int .i64 0, .slice none 0 0, .int .i64 0, .slice none 0 0, .int .i64 0, .int .i64 0, .int .i64 0, .slice none 0 0, .int .i64 0, .int .i64 0, .int .i64 0, .slice none 0 0, .int .i64 0, .int .i64 0, .int .i64 0, .slice none 0 0] 36))
              try replace hrw := hrw.kept (al _ (.cells #[.int .i64 0, .int .i64 0, .slice none 0 0, .int .i64 0, .slice none 0 0, .int .i64 0, .int .i64 0, .int .i64 0, .slice none 0 0, .int .i64 0, .int .i64 0, .int .i64 0, .slice none 0 0, .int .i64 0, .int .i64 0, .int .i64 0, .slice none 0 0] 36))
              try simp only [drew_alloc, drew_size] at hA hth hty hgr
              try simp only [drew_alloc, drew_size] at hF2
              try simp only [drew_alloc, drew_size] at hrw
              clear hHeld
              refine hK.out _ _ (hA) (fun hHeld => ?_)
              clear hK K
              try simp only [Act.put, List.setIfInBounds_toArray, List.set_cons_zero, List.set_cons_succ]
              refine wpAnyH_ready (rs := [2]) (by kernel_rfl) (by simp) ?_
              refine AllReadyH.cons rfl (fun K hK => ?_) AllReadyH.nil
              go_simp
              (with_reducible refine (H7.out.2.2.1 _ hA).mono ?_)
              rintro e u ⟨ma, mw, mcc, rfl, hrw, hb⟩
              try replace hth := there_kp hth hty.lt (Below.kp hb) (fun h => h)
              try replace hty := hty.kept hb
              try replace hrw := hrw.kept hb
              replace hA := hA.trans (hb.mono hA.size)
              clear hb
              clear hHeld
              refine hK.out _ _ (hA) (fun hHeld => ?_)
              clear hK K
              try simp only [Act.put, List.setIfInBounds_toArray, List.set_cons_zero, List.set_cons_succ]
              refine wpAnyH_ready (rs := [4]) (by kernel_rfl) (by simp) ?_
              refine AllReadyH.cons rfl (fun K hK => ?_) AllReadyH.nil
              go_simp
              (with_reducible refine (H7.out.2.2.2.1 _ _ _ _ hA hrw).mono ?_)
              rintro e u ⟨F, ec, rfl, hF2, hb⟩
              clear hrw
              try replace hth := there_kp hth hty.lt (Below.kp hb) (fun h => h)
              try replace hty := hty.kept hb
              try replace hrw := hrw.kept hb
              replace hA := hA.trans (hb.mono hA.size)
              clear hb
              clear hHeld
              refine hK.out _ _ (hA) (fun hHeld => ?_)
              clear hK K
              try simp only [Act.put, List.setIfInBounds_toArray, List.set_cons_zero, List.set_cons_succ]
              refine wpAnyH_take (i := 5) (oi := ⟨some 74, _, _, _, _, _⟩) (v := ?_) rfl (by kernel_rfl) (by kernel_rfl) (by kernel_rfl) (fun _ _ _ h => h) (Or.inl ⟨by kernel_rfl, ?_⟩) (by assumption) ?_
              case refine_2 => (intro w hSw; go_simp; try (with_reducible rfl))
              try simp only [Act.put, List.setIfInBounds_toArray, List.set_cons_zero, List.set_cons_succ]
              refine wpAnyH_take (i := 6) (oi := ⟨some 80, _, _, _, _, _⟩) (v := ?_) rfl (by kernel_rfl) (by kernel_rfl) (by kernel_rfl) (fun _ _ _ h => h) (Or.inl ⟨by kernel_rfl, ?_⟩) (by assumption) ?_
              case refine_2 => (intro w hSw; go_simp; try (with_reducible rfl))
              try simp only [Act.put, List.setIfInBounds_toArray, List.set_cons_zero, List.set_cons_succ]
              refine wpAnyH_take (i := 7) (oi := ⟨some 81, _, _, _, _, _⟩) (v := ?_) rfl (by kernel_rfl) (by kernel_rfl) (by kernel_rfl) (fun _ _ _ h => h) (Or.inl ⟨by kernel_rfl, ?_⟩) (by assumption) ?_
              case refine_2 => (intro w hSw; go_simp; try (with_reducible rfl))
              try simp only [Act.put, List.setIfInBounds_toArray, List.set_cons_zero, List.set_cons_succ]
              refine wpAnyH_ready (rs := [9]) (by kernel_rfl) (by simp) ?_
              refine AllReadyH.cons rfl (fun K hK => ?_) AllReadyH.nil
              refine store36R F _ _ _ (by rfl) rfl rfl rfl hth ?_
              have hbx := MBx.stored F hth
              replace hA := bel_box hgr F hA
              have hF3 := hF2.box hty F (fun h p e => by have := H7.out.1.wx.old h p e; omega)
              clear hth hty hF2
              clear hHeld
              refine hK.out _ _ (hA) (fun hHeld => ?_)
              clear hK K
              try simp only [Act.put, List.setIfInBounds_toArray, List.set_cons_zero, List.set_cons_succ]
              refine wpAnyH_take (i := 10) (oi := ⟨some 18, _, _, _, _, _⟩) (v := ?_) rfl (by kernel_rfl) (by kernel_rfl) (by kernel_rfl) (fun _ _ _ h => h) (Or.inl ⟨by kernel_rfl, ?_⟩) (by assumption) ?_
              case refine_2 => (intro w hSw; go_simp; try (with_reducible rfl))
              try simp only [Act.put, List.setIfInBounds_toArray, List.set_cons_zero, List.set_cons_succ]
              refine wpAnyH_done (by kernel_rfl) ?_ _
              clear hHeld
              have HE := Lib.hid (And.intro hA (And.intro hbx hF3))
              clear hA hbx hF3 hgr
              go_wp2
              go_meet
              exact ⟨_, F, ec, _, rfl, rfl, HE.out.1, HE.out.2.1, HE.out.2.2⟩
          case rest =>
            obtain ⟨g, F, ec, Q, rfl, rfl, hb, hbx, hE⟩ := hcut
            obtain ⟨⟨rfl, h2s, l, hF, hmm, hmk, hxs⟩ | ⟨rfl, rfl⟩, -⟩ := hE
            · have H8 := Lib.hid (And.intro hb (And.intro hbx hF))
              have HE := Lib.hid (And.intro hmm (And.intro hmk hxs))
              have hll : l.length + 1 = k := by rw [← wavL_len, ← hmm]; exact HL.out.1
              obtain ⟨n, hn⟩ : ∃ n, l.length = n := ⟨_, rfl⟩
              rw [hn] at hll
              have HN := Lib.hid hn
              clear hb hbx hF hmm hmk hxs hn
              go_upto_region 18 with fail
              have hA := H8.out.1
              have hB8 := H8.out.2
              have hA := Below.refl wc.heap.size wc
              try simp only [List.append_eq, List.cons_append, List.nil_append]
              refine wp_region_held_drew (S := fun w' => Below wc.heap.size wc w') (by kernel_rfl) (hA.drew) (fun hHeld => ?_)
              replace hA := hA.drew
              refine wpAnyH_take (i := 0) (oi := ⟨some 94, _, _, _, _, _⟩) rfl (by kernel_rfl) (by kernel_rfl) (by kernel_rfl) (fun _ _ _ h => h) (yieldsIf_load_mid (by kernel_rfl) 36 _ rfl _ 0 rfl _ _ (fun w hw => MBx.range (H8.out.2.1.kept hw)) Tryz.underlying36 rfl (by kernel_rfl)) (by assumption) ?_
              try simp only [Act.put, List.setIfInBounds_toArray, List.set_cons_zero, List.set_cons_succ]
              refine wpAnyH_take (i := 1) (oi := ⟨some 95, _, _, _, _, _⟩) rfl (by kernel_rfl) (by kernel_rfl) (by kernel_rfl) (fun _ _ _ h => h) (yieldsIf_load_mid (by kernel_rfl) 36 _ rfl _ 0 rfl _ _ (fun w hw => MBx.range (H8.out.2.1.kept hw)) Tryz.underlying36 rfl (by kernel_rfl)) (by assumption) ?_
              try simp only [Act.put, List.setIfInBounds_toArray, List.set_cons_zero, List.set_cons_succ]
              refine wpAnyH_ready (rs := [2]) (by kernel_rfl) (by simp) ?_
              refine AllReadyH.cons rfl (fun K hK => ?_) AllReadyH.nil
              go_simp
              (with_reducible refine (flen_any (H8.out.2.2.kept hA)).mono ?_)
              rintro e u ⟨rfl, hb⟩
              rw [HN.out]
              try replace hth := there_kp hth hty.lt (Below.kp hb) (fun h => h)
              try replace hty := hty.kept hb
              try replace hrw := hrw.kept hb
              replace hA := hA.trans (hb.mono hA.size)
              clear hb
              clear hHeld
              refine hK.out _ _ (hA) (fun hHeld => ?_)
              clear hK K
              try simp only [Act.put, List.setIfInBounds_toArray, List.set_cons_zero, List.set_cons_succ]
              refine wpAnyH_ready (rs := [3]) (by kernel_rfl) (by simp) ?_
              refine AllReadyH.cons rfl (fun K hK => ?_) AllReadyH.nil
              go_simp
              (with_reducible refine (extract_any (H8.out.2.2.kept hA) 0 (n : Int) (by omega) (by omega)).mono ?_)
              rintro e u ⟨D, rfl, hD, hb⟩
              rw [exL_len0 l n HN.out] at hD ⊢
              rw [HN.out]
              try replace hth := there_kp hth hty.lt (Below.kp hb) (fun h => h)
              try replace hty := hty.kept hb
              try replace hrw := hrw.kept hb
              replace hA := hA.trans (hb.mono hA.size)
              clear hb
              clear hHeld
              refine hK.out _ _ (hA) (fun hHeld => ?_)
              clear hK K
              try simp only [Act.put, List.setIfInBounds_toArray, List.set_cons_zero, List.set_cons_succ]
              refine wpAnyH_take (i := 4) (oi := ⟨some 19, _, _, _, _, _⟩) (v := ?_) rfl (by kernel_rfl) (by kernel_rfl) (by kernel_rfl) (fun _ _ _ h => h) (Or.inl ⟨by kernel_rfl, ?_⟩) (by assumption) ?_
              case refine_2 => (intro w hSw; go_simp; try (with_reducible rfl))
              try simp only [Act.put, List.setIfInBounds_toArray, List.set_cons_zero, List.set_cons_succ]
              refine wpAnyH_done (by kernel_rfl) ?_ _
              clear hHeld
              have H9 := Lib.hid (And.intro (H8.out.1.trans (hA.mono H8.out.1.size)) hD)
              have hpa := parts_any (some ⟨D, 0, none⟩) n n l (s - 1) _ hD HN.out (Nat.le_refl _) (by omega) H8.out.2.2.sy H8.out.2.2.few
              have HP := Lib.hid hpa
              clear hA hD hB8 hpa
              go_wp2_with fail
              (with_reducible refine HP.out.mono ?_)
              rintro e u10 ⟨v1, v2, v3, rfl, hPT⟩
              obtain ⟨⟨A1, c1, rfl, hn1⟩, ⟨A2, c2, rfl, hn2⟩, ⟨A3, c3, rfl, hn3⟩, hb⟩ := hPT
              have hb7 := H9.out.1.trans (hb.mono H9.out.1.size)
              have hl1 : (wavL l).length = k := by rw [← HE.out.1]; exact HL.out.1
              have hl2 : (mkL l).length = mm := by rw [← HE.out.2.1]; exact HK.out.1
              have hl3 : (smL l).length = i := by rw [← HE.out.2.2]; exact HXL.out
              rw [hl1, hl2, hl3]
              have hs1' := rsame_any A1 B k k c1 bc (wavL l) L u10 hn1 (H7.out.1.nums.kept hb7) hl1 HL.out.1 (by omega)
              rw [decide_eq_true HE.out.1.symm] at hs1'
              have H10 := Lib.hid (And.intro hs1' (And.intro hb7 (And.intro hn2 (And.intro hn3 (And.intro hl2 hl3)))))
              clear hn1 hn2 hn3 hb hb7 hl1 hl2 hl3 hs1' HP
              go_wp2_with fail
              (with_reducible refine H10.out.1.mono ?_)
              rintro e u11 ⟨rfl, hb⟩
              have hb7 := H10.out.2.1.trans (hb.mono H10.out.2.1.size)
              have hs2 := rsameB_any A2 MA mm mm c2 mc (mkL l) mk u11 (H10.out.2.2.1.kept hb) (H7.out.2.2.2.2.1.kept hb7) H10.out.2.2.2.2.1 HK.out.1 (by omega)
              rw [decide_eq_true HE.out.2.1.symm] at hs2
              have H11 := Lib.hid (And.intro hs2 (And.intro hb7 (And.intro (H10.out.2.2.2.1.kept hb) H10.out.2.2.2.2.2)))
              clear hb hb7 hs2 H10
              go_wp2_with fail
              (with_reducible refine H11.out.1.mono ?_)
              rintro e u12 ⟨rfl, hb⟩
              have hb7 := H11.out.2.1.trans (hb.mono H11.out.2.1.size)
              have hs3 := rsame_any A3 X i i c3 xc (smL l) xs u12 (H11.out.2.2.1.kept hb) (H7.out.2.2.2.2.2.kept hb7) H11.out.2.2.2 HXL.out (by omega)
              rw [decide_eq_true HE.out.2.2.symm] at hs3
              have H12 := Lib.hid (And.intro hs3 hb7)
              clear hb hb7 hs3 H11
              go_wp2_with fail
              (with_reducible refine H12.out.1.mono ?_)
              rintro e u13 ⟨rfl, hb⟩
              have HB := Lib.hid (H7.out.1.bel.trans ((H12.out.2.trans (hb.mono H12.out.2.size)).mono H7.out.1.lt))
              have qs : (1 : Int) < (s : Int) := by omega
              clear hb H12 H7 H8
              go_wp2
              go_ret
              exact ⟨rfl, by rw [HQ.out]; exact HB.out⟩
            · have H8 := Lib.hid (And.intro hb hbx)
              clear hb hbx
              go_wp2_with (refine load36 H8.out.2 _ (by with_reducible rfl) rfl rfl ?_)
              refine (zlen_any FQN rfl _).mono ?_
              rintro e u9 ⟨rfl, hb⟩
              have HB := Lib.hid (H7.out.1.bel.trans ((H8.out.1.trans (hb.mono H8.out.1.size)).mono H7.out.1.lt))
              clear hb H8 H7
              go_wp2
              go_ret
              exact ⟨rfl, by rw [HQ.out]; exact HB.out⟩

end Go.Proofs.YtbcjepkfjbibfaaGreat
