/- The contracts of Wave, Marks, Samples, of the document's Parts; what a law holds. -/
import Derived.Test.YtbcjepkfjbibfaaGreatZT
import Derived.Test.YtbcjepkfjbibfaaGreatWY
set_option maxRecDepth 100000
namespace Go.Proofs.YtbcjepkfjbibfaaGreat
open Go.RowKit
open M
attribute [local go_sem ↓] Go.wp_at_zero Go.wp_at_succ

theorem own_at {w u : World} {v : Value} {l : List Int} (h : OwnI w v l u) : ∃ A c, v = .slice A l.length c ∧ NumsAt .i64 u A l ∧ l.length ≤ c ∧ ((A = none ∧ c = 0) ∨ ∃ b o, A = some ⟨b, o, none⟩) := by
  rcases h.1.2 with ⟨rfl, hn⟩ | ⟨g, cap, cur, hv, hg, hh, hn, hc, hs, ht⟩
  · have : l = [] := by simpa using hn
    subst this
    exact ⟨none, 0, rfl, .inl rfl, Nat.zero_le _, .inl ⟨rfl, rfl⟩⟩
  · obtain ⟨A, c, e, h1, -, h2, -, -⟩ := nums_of_own h.1
    subst hv
    injection e with e1 e2 e3
    exact ⟨A, c, by rw [e1, e3], h1, h2, .inr ⟨g, 0, by rw [← e1]⟩⟩
section
set_option maxHeartbeats 1000000 in
theorem gwave_any (F : FQ) (u : World) : Calls Tryz.prog 17 #[.agg #[.int .i64 (F.N : Int), .int .i64 F.Z, .slice F.wa F.wW F.wc, .int .i64 (F.R.n : Int), .slice F.R.a F.R.m F.R.c, .int .i64 (F.R.cn : Int), .int .i64 (F.R.cW : Int), .int .i64 (F.R.cL : Int), .slice F.R.a2 F.R.m2 F.R.c2, .int .i64 (F.S.n : Int), .int .i64 (F.S.W : Int), .int .i64 (F.S.L : Int), .slice F.S.a F.S.m F.S.c, .int .i64 (F.P.n : Int), .int .i64 (F.P.W : Int), .int .i64 (F.P.L : Int), .slice F.P.a F.P.m F.P.c]] u fun e u' => e = .returned (.agg #[.int .i64 (F.N : Int), .int .i64 F.Z, .slice F.wa F.wW F.wc]) ∧ Below u.heap.size u u' := by
  obtain ⟨x0, x1, x2, -⟩ := (MBx.new u F).cells
  have hb := mbel u F
  have hb2 := hb.trans ((al (u.alloc (.cells #[.int .i64 (F.N : Int), .int .i64 F.Z, .slice F.wa F.wW F.wc, .int .i64 (F.R.n : Int), .slice F.R.a F.R.m F.R.c, .int .i64 (F.R.cn : Int), .int .i64 (F.R.cW : Int), .int .i64 (F.R.cL : Int), .slice F.R.a2 F.R.m2 F.R.c2, .int .i64 (F.S.n : Int), .int .i64 (F.S.W : Int), .int .i64 (F.S.L : Int), .slice F.S.a F.S.m F.S.c, .int .i64 (F.P.n : Int), .int .i64 (F.P.W : Int), .int .i64 (F.P.L : Int), .slice F.P.a F.P.m F.P.c] 36)) (.cells #[.int .i64 (F.N : Int), .int .i64 F.Z, .slice F.wa F.wW F.wc] 27)).mono hb.size)
  have HB := Lib.hid hb2
  clear hb hb2
  go_enter Tryz.func17, Tryz.ntmps17
  go_wp2
  refine bodyPost_ret (v := .agg #[.int .i64 (F.N : Int), .int .i64 F.Z, .slice F.wa F.wW F.wc]) (by simp [results, Tryz.results17, go_sem]) rfl ?_
  exact ⟨rfl, HB.out⟩

set_option maxHeartbeats 1000000 in
theorem gsamples_any (F : FQ) (u : World) : Calls Tryz.prog 22 #[.agg #[.int .i64 (F.N : Int), .int .i64 F.Z, .slice F.wa F.wW F.wc, .int .i64 (F.R.n : Int), .slice F.R.a F.R.m F.R.c, .int .i64 (F.R.cn : Int), .int .i64 (F.R.cW : Int), .int .i64 (F.R.cL : Int), .slice F.R.a2 F.R.m2 F.R.c2, .int .i64 (F.S.n : Int), .int .i64 (F.S.W : Int), .int .i64 (F.S.L : Int), .slice F.S.a F.S.m F.S.c, .int .i64 (F.P.n : Int), .int .i64 (F.P.W : Int), .int .i64 (F.P.L : Int), .slice F.P.a F.P.m F.P.c]] u fun e u' => e = .returned (.agg #[.int .i64 (F.S.n : Int), .int .i64 (F.S.W : Int), .int .i64 (F.S.L : Int), .slice F.S.a F.S.m F.S.c]) ∧ Below u.heap.size u u' := by
  obtain ⟨-, -, -, -, -, -, -, -, -, x0, x1, x2, x3, -⟩ := (MBx.new u F).cells
  have hb := mbel u F
  have hb2 := hb.trans ((al (u.alloc (.cells #[.int .i64 (F.N : Int), .int .i64 F.Z, .slice F.wa F.wW F.wc, .int .i64 (F.R.n : Int), .slice F.R.a F.R.m F.R.c, .int .i64 (F.R.cn : Int), .int .i64 (F.R.cW : Int), .int .i64 (F.R.cL : Int), .slice F.R.a2 F.R.m2 F.R.c2, .int .i64 (F.S.n : Int), .int .i64 (F.S.W : Int), .int .i64 (F.S.L : Int), .slice F.S.a F.S.m F.S.c, .int .i64 (F.P.n : Int), .int .i64 (F.P.W : Int), .int .i64 (F.P.L : Int), .slice F.P.a F.P.m F.P.c] 36)) (.cells #[.int .i64 (F.S.n : Int), .int .i64 (F.S.W : Int), .int .i64 (F.S.L : Int), .slice F.S.a F.S.m F.S.c] 32)).mono hb.size)
  have HB := Lib.hid hb2
  clear hb hb2
  go_enter Tryz.func22, Tryz.ntmps22
  go_wp2
  refine bodyPost_ret (v := .agg #[.int .i64 (F.S.n : Int), .int .i64 (F.S.W : Int), .int .i64 (F.S.L : Int), .slice F.S.a F.S.m F.S.c]) (by simp [results, Tryz.results22, go_sem]) rfl ?_
  exact ⟨rfl, HB.out⟩

theorem store30 {ops : Array Oper} {rest : List Oper} {op : Oper} {a : Act} {Q : Exit → Act → World → Prop} (n : Nat) (A : Option Addr) (m c : Nat) (b o : Nat) (x y : Operand) (ho : op.op = .store 30 x y) {w : World} (hw : Region.wanted op (yielded ops a.tmps) = true)
    (hx : a.eval x = .pointer (some ⟨b, o, none⟩)) (hy : a.eval y = .agg #[.int .i64 (n : Int), .slice A m c]) (ht : w.there b o 2)
    (k : wpList Tryz.prog ops Q rest (a.put op.dst undef) (w.setCells b o [.int .i64 (n : Int), .slice A m c])) : wpList Tryz.prog ops Q (op :: rest) a w :=
  wpList_step fun K hK => by
    rw [if_pos hw]
    exact wp_store_mid 30 x y ho b o #[.int .i64 (n : Int), .slice A m c] hx hy ht (by kernel_rfl) (by kernel_rfl) (hK _ _ k)

theorem results30 {fn : Func} {p : Tmp} {b : Nat} {w : World} {x y : Value} (h : fn.results = #[.cell p 30]) (tmps : Array Value) (hp : tmps.getD p undef = .pointer (some ⟨b, 0, none⟩)) (hr : w.rangeAt b 0 [x, y]) : (results fn tmps).run Tryz.prog w = .ok (.agg #[x, y]) w := by
  have hp' : tmps[p]?.getD undef = .pointer (some ⟨b, 0, none⟩) := by simpa using hp
  have := run_loadVar_mid w b 0 30 _ _ hr Tryz.underlying30 rfl (by kernel_rfl)
  simp only [results, h]
  simp [hp', asAddr, this]

set_option maxHeartbeats 1000000 in
theorem gmarks_any (F : FQ) (u : World) : Calls Tryz.prog 20 #[.agg #[.int .i64 (F.N : Int), .int .i64 F.Z, .slice F.wa F.wW F.wc, .int .i64 (F.R.n : Int), .slice F.R.a F.R.m F.R.c, .int .i64 (F.R.cn : Int), .int .i64 (F.R.cW : Int), .int .i64 (F.R.cL : Int), .slice F.R.a2 F.R.m2 F.R.c2, .int .i64 (F.S.n : Int), .int .i64 (F.S.W : Int), .int .i64 (F.S.L : Int), .slice F.S.a F.S.m F.S.c, .int .i64 (F.P.n : Int), .int .i64 (F.P.W : Int), .int .i64 (F.P.L : Int), .slice F.P.a F.P.m F.P.c]] u fun e u' => e = .returned (.agg #[.int .i64 (F.R.n : Int), .slice F.R.a F.R.m F.R.c]) ∧ Below u.heap.size u u' := by
  obtain ⟨u1, hu1⟩ : ∃ u1, u1 = u.alloc (.cells #[.int .i64 (F.N : Int), .int .i64 F.Z, .slice F.wa F.wW F.wc, .int .i64 (F.R.n : Int), .slice F.R.a F.R.m F.R.c, .int .i64 (F.R.cn : Int), .int .i64 (F.R.cW : Int), .int .i64 (F.R.cL : Int), .slice F.R.a2 F.R.m2 F.R.c2, .int .i64 (F.S.n : Int), .int .i64 (F.S.W : Int), .int .i64 (F.S.L : Int), .slice F.S.a F.S.m F.S.c, .int .i64 (F.P.n : Int), .int .i64 (F.P.W : Int), .int .i64 (F.P.L : Int), .slice F.P.a F.P.m F.P.c] 36) := ⟨_, rfl⟩
  obtain ⟨u2, hu2⟩ : ∃ u2, u2 = u1.alloc (.cells #[.int .i64 0, .slice none 0 0] 30) := ⟨_, rfl⟩
  have hb : Below u.heap.size u u1 := by rw [hu1]; exact mbel u F
  have hb1 : Below u1.heap.size u1 u2 := by rw [hu2]; exact al u1 _
  have hbx : MBx u1 u.heap.size F := by rw [hu1]; exact MBx.new u F
  obtain ⟨-, -, -, x0, x1, x2, x3, x4, x5, -⟩ := (hbx.kept hb1).cells
  have hth : u2.there u1.heap.size 0 2 := by rw [hu2]; exact there_alloc u1 _ _ _ rfl
  have hs1 : u1.heap.size = u.heap.size + 1 := by rw [hu1]; simp
  have hr := rbits_any F.R u2
  have hs2 : u2.heap.size = u1.heap.size + 1 := by rw [hu2]; simp
  have HX := Lib.hid (And.intro hr (And.intro (hb.trans (hb1.mono hb.size)) (And.intro hth hs2)))
  clear hr hb hb1 hbx hth hs2
  go_enter Tryz.func20, Tryz.ntmps20
  go_upto_region 1 with fail
  rw [← hu1, ← hs1, ← hu2]
  obtain ⟨B, hB⟩ : ∃ B, u1.heap.size = B := ⟨_, rfl⟩
  have HQ := Lib.hid (And.intro hs1 hB)
  rw [hB] at HX
  simp only [hB]
  clear hu1 hu2 hs1 hB
  go_wp2_with fail
  (with_reducible refine HX.out.1.mono ?_)
  rintro e u3 ⟨rfl, hb⟩
  have hth := there_kp HX.out.2.2.1 (by rw [HX.out.2.2.2]; exact Nat.lt_succ_self B) (Below.kp hb) (fun h => h)
  have hbb := HX.out.2.1.trans (hb.mono HX.out.2.1.size)
  have HT := Lib.hid hth
  have HB := Lib.hid hbb
  clear hth hbb hb x0 x1 x2 x3 x4 x5
  go_wp2_with (refine store30 F.R.n F.R.a F.R.m F.R.c B 0 _ _ (by with_reducible rfl) rfl rfl rfl HT.out ?_)
  refine bodyPost_ret (results30 (b := B) Tryz.results20 _ ?hp (World.rangeAt_setCells_same _ B 0 [.int .i64 (F.R.n : Int), .slice F.R.a F.R.m F.R.c] HT.out)) ?hd ?_
  case hp => rfl
  case hd => rfl
  have hq := HQ.out
  exact ⟨rfl, Below.setCells' (by omega) _ 0 HB.out⟩
end
section
theorem bools_one (w : World) (b : Bool) : SliceOf (w.alloc (.cells #[.bool b] 4)) (some ⟨w.heap.size, 0, none⟩) 1 1 [b] := by
  refine ⟨rfl, Nat.le_refl _, by unfold maxLen; omega, .inr ⟨w.heap.size, 0, rfl, by simp, fun j hj => ?_⟩, fun e => by simp at e⟩
  match j, hj with
  | 0, _ => simp

/-- A row of bits and one of numbers of the call's own, beside a source. -/
structure BN (w : World) (v8 v9 : Value) (B : List Bool) (S : List Int) (A : Option Addr) (src : List Int) (u : World) : Prop where
  ob : u.ownsRow w.heap.size 4 1 v8 B.length (B.map Value.bool)
  os : u.ownsRow w.heap.size 3 1 v9 S.length (S.map (Value.int .i64))
  ne : ∀ k, v8.ownBlock = some k → v9.ownBlock ≠ some k
  bel : Below w.heap.size w u
  nums : NumsAt .i64 u A src
  d8 : src = [] ∨ ∀ b o, A = some ⟨b, o, none⟩ → v8.ownBlock ≠ some b
  d9 : src = [] ∨ ∀ b o, A = some ⟨b, o, none⟩ → v9.ownBlock ≠ some b
variable {w u u' : World} {v8 v9 v8' v9' : Value} {B B' : List Bool} {S S' : List Int} {A : Option Addr} {src : List Int}
theorem BN.kept (h : BN w v8 v9 B S A src u) (hb : Below u.heap.size u u') : BN w v8 v9 B S A src u' :=
  ⟨own_kept h.ob hb, own_kept h.os hb, h.ne, h.bel.trans (hb.mono h.bel.size), h.nums.kept hb, h.d8, h.d9⟩
theorem BN.alloc (h : BN w v8 v9 B S A src u) (o : Obj) : BN w v8 v9 B S A src (u.alloc o) := h.kept (al _ _)
theorem dj_on (hs : NumsAt .i64 u A src) {v v' : Value} (h : src = [] ∨ ∀ b o, A = some ⟨b, o, none⟩ → v.ownBlock ≠ some b) (hat : v'.ownBlock = v.ownBlock ∨ v'.ownBlock = some u.heap.size) : src = [] ∨ ∀ b o, A = some ⟨b, o, none⟩ → v'.ownBlock ≠ some b := by
  rcases h with e | hd
  · exact .inl e
  · by_cases e : src = []
    · exact .inl e
    · refine .inr fun b o hA ev => ?_
      rcases hat with e1 | e1
      · rw [e1] at ev; exact hd b o hA ev
      · rw [e1] at ev
        rcases hs with h0 | ⟨b', o', e2, hlt, -⟩
        · exact e h0
        · rw [hA] at e2
          simp only [Option.some.injEq, Addr.mk.injEq, and_true] at e2 ev
          obtain ⟨rfl, rfl⟩ := e2
          omega
theorem BN.appB (h : BN w v8 v9 B S A src u) (hown : u'.ownsRow w.heap.size 4 1 v8' B'.length (B'.map Value.bool)) (hg : u.grownBy u' v8.ownBlock) (hat : v8'.ownBlock = v8.ownBlock ∨ v8'.ownBlock = some u.heap.size) : BN w v8' v9 B' S A src u' := by
  have hk : Kp (fun k => v8.ownBlock = some k) u u' := (Kp.refl _ u).grown hg (fun k hk _ => hk)
  refine ⟨hown, own_kp h.os hk (fun k e ek => h.ne k ek e), fun k e e2 => ?_, h.bel.trans (hk.toBelow h.bel.size (fun k hk e => by have := (h.ob.lt k e).1; omega)), ?_, dj_on h.nums h.d8 hat, h.d9⟩
  · rcases hat with h1 | h1
    · rw [h1] at e; exact h.ne k e e2
    · have := (h.os.lt k e2).2
      rw [h1] at e
      simp only [Option.some.injEq] at e
      omega
  · rcases h.d8 with e | hd
    · rw [e]; exact .inl rfl
    · exact h.nums.kp hk (fun b o e ev => hd b o e ev)
theorem BN.appS (h : BN w v8 v9 B S A src u) (hown : u'.ownsRow w.heap.size 3 1 v9' S'.length (S'.map (Value.int .i64))) (hg : u.grownBy u' v9.ownBlock) (hat : v9'.ownBlock = v9.ownBlock ∨ v9'.ownBlock = some u.heap.size) : BN w v8 v9' B S' A src u' := by
  have hk : Kp (fun k => v9.ownBlock = some k) u u' := (Kp.refl _ u).grown hg (fun k hk _ => hk)
  refine ⟨own_kp h.ob hk (fun k e ek => h.ne k e ek), hown, fun k e e2 => ?_, h.bel.trans (hk.toBelow h.bel.size (fun k hk e => by have := (h.os.lt k e).1; omega)), ?_, h.d8, dj_on h.nums h.d9 hat⟩
  · rcases hat with h1 | h1
    · rw [h1] at e2; exact h.ne k e e2
    · have := (h.ob.lt k e).2
      rw [h1] at e2
      simp only [Option.some.injEq] at e2
      omega
  · rcases h.d9 with e | hd
    · rw [e]; exact .inl rfl
    · exact h.nums.kp hk (fun b o e ev => hd b o e ev)
/-- Both written out, the source newer than both. -/
theorem BN.start (u : World) (n : Int) : BN u (.slice (some ⟨u.heap.size, 0, none⟩) 1 1) (.slice (some ⟨(u.alloc (.cells #[.bool true] 4)).heap.size, 0, none⟩) 1 1) [true] [n] none [] ((u.alloc (.cells #[.bool true] 4)).alloc (.cells #[.int .i64 n] 3)) := by
  have b1 := al u (.cells #[.bool true] 4)
  have b2 := al (u.alloc (.cells #[.bool true] 4)) (.cells #[.int .i64 n] 3)
  refine ⟨?_, ?_, fun k e e2 => ?_, b1.trans (b2.mono b1.size), .inl rfl, .inl rfl, .inl rfl⟩
  · exact own_kept (World.ownsRow_lit (base := u.heap.size) (e := 4) (size := 1) u #[.bool true] 1 (Nat.le_refl _) (by unfold maxLen; omega) (by simp)) b2
  · exact World.ownsRow_lit (base := u.heap.size) (e := 3) (size := 1) (u.alloc (.cells #[.bool true] 4)) #[.int .i64 n] 1 b1.size (by unfold maxLen; omega) (by simp)
  · simp only [Value.ownBlock, Option.some.injEq] at e e2
    subst e
    simp at e2
theorem BN.source {A' : Option Addr} {src' : List Int} (h : BN w v8 v9 B S A src u) (hb : Below u.heap.size u u') (hs : NumsAt .i64 u' A' src') (hf : Frs u.heap.size A') : BN w v8 v9 B S A' src' u' :=
  ⟨own_kept h.ob hb, own_kept h.os hb, h.ne, h.bel.trans (hb.mono h.bel.size), hs,
    .inr fun b o e ev => by have h1 := hf _ e; have h2 := (h.ob.lt b ev).2; simp only at h1; omega, .inr fun b o e ev => by have h1 := hf _ e; have h2 := (h.os.lt b ev).2; simp only at h1; omega⟩

/-- What Parts tells. -/
structure PT (w : World) (l : List Int) (v1 v2 v3 : Value) (u : World) : Prop where
  p1 : ∃ A c, v1 = .slice A (wavL l).length c ∧ NumsAt .i64 u A (wavL l)
  p2 : ∃ A c, v2 = .slice A (mkL l).length c ∧ BoolsAt u A (mkL l)
  p3 : ∃ A c, v3 = .slice A (smL l).length c ∧ NumsAt .i64 u A (smL l)
  bel : Below w.heap.size w u

set_option maxHeartbeats 4000000 in
theorem parts_any (A : Option Addr) (n c : Nat) (l : List Int) (size : Nat) (w : World) (hA : NumsAt .i64 w A l) (hl : l.length = n) (hc : n ≤ c) (hn : n ≤ 1000) (hsy : ∀ x ∈ l, 0 ≤ x ∧ x < (size : Int)) (hsz : size ≤ 65535) :
    Calls Tryz.prog 15 #[.slice A n c] w fun e u => ∃ v1 v2 v3, e = .returned (.tuple #[v1, v2, v3]) ∧ PT w l v1 v2 v3 u := by
  have h64 := sy_64 hsy hsz
  have hnn := sy_nn hsy
  obtain ⟨m, hm⟩ : ∃ m, n + 1 = m := ⟨_, rfl⟩
  have htn := dturn_any A n c l w hA hl hc (by omega) h64
  have har := fun u (hb : Below w.heap.size w u) => darray_any A n c l u (hA.kept hb) hl hc (by omega) h64
  have htl : (turnL l).length = m := by rw [turnL_len, hl, hm]
  have hwl : (wavL l).length = m := by rw [wavL_len, hl, hm]
  have hat : ∀ i, i < m → (wavL l).getD i 0 = (turnL l).getD i 0 + 1 ∧ -1 ≤ (turnL l).getD i 0 ∧ (turnL l).getD i 0 ≤ 65535 := fun i hi => by
    refine ⟨wav_at l (by omega), ?_⟩
    have hmem := (turn_perm l).mem_iff.1 (getD_mem (b := 0) (l := turnL l) (i := i) (by omega))
    rcases List.mem_cons.1 hmem with h | h
    · omega
    · have := hsy _ h; omega
  have hpl : ∀ i, i < n → ∃ p : Nat, (sufA l).getD i 0 = (p : Int) ∧ p < n ∧ (mkL l).take (i + 1 + 1) = (mkL l).take (i + 1) ++ [decide (p % 8 = 0)] ∧ smN l (i + 1 + 1) = smN l (i + 1) ++ if p % 8 = 0 then [(p : Int)] else [] := fun i hi => by
    obtain ⟨h1, h2⟩ := plA_succ h64 hnn (j := i) (by omega)
    have hb : mkB l.length (plA l (i + 1)) = decide (plA l (i + 1) % 8 = 0) := by
      unfold mkB
      rw [decide_eq_false (p := plA l (i + 1) = l.length) (by omega), Bool.or_false]
    refine ⟨plA l (i + 1), h1, by omega, ?_, ?_⟩
    · rw [take_snoc (mkL l) (i + 1) (decide (plA l (i + 1) % 8 = 0)) (by rw [mkL_len]; omega) (by rw [mkL_at l (by omega), hb])]
    · rw [smN_succ, hb]
      by_cases e : plA l (i + 1) % 8 = 0
      · rw [if_pos e, decide_eq_true e, if_pos rfl]
      · rw [if_neg e, decide_eq_false e, if_neg (by decide)]
  have h0 : (mkL l).take 1 = [true] := by
    have := take_snoc (mkL l) 0 true (by rw [mkL_len]; omega) (by rw [mkL_at l (Nat.zero_le _), plA_zero]; unfold mkB; simp)
    simpa using this
  have h1 : smN l 1 = [(n : Int)] := by
    rw [smN_succ, plA_zero, hl]
    unfold mkB smN
    simp
  have hsl : (sufA l).length = n := by rw [sufA_len, hl]
  have hml : ∀ i, i ≤ n → ((mkL l).take (i + 1)).length = i + 1 ∧ (smN l (i + 1)).length ≤ i + 1 := fun i hi => ⟨by rw [List.length_take, mkL_len]; omega, smN_le l _⟩
  have HX := Lib.hid (And.intro htn (And.intro har (And.intro htl (And.intro hwl (And.intro hat (And.intro hpl (And.intro h0 (And.intro h1 (And.intro hsl hml)))))))))
  have HL := Lib.hid (And.intro hl (And.intro (mkL_len l) hm))
  clear htn har htl hwl hat hpl h0 h1 hsl hml hA hl hsy hsz h64 hnn
  have hm1 : m ≤ 1001 := by omega
  clear hm
  go_enter Tryz.func15, Tryz.ntmps15
  go_wp2_with fail
  (with_reducible refine HX.out.1.mono ?_)
  rintro e u1 ⟨v, rfl, hI⟩
  obtain ⟨P, pc, rfl, hP, hPl, -, -, -⟩ := nums_of_own hI.1
  rw [HX.out.2.2.1]
  have H1 := Lib.hid (And.intro hP hI.2)
  clear hI hP hPl
  go_wp2
  go_loopw [6, 7] (fun v6 v7 wr => ∃ i : Nat, i ≤ m ∧ v7 = .int .i64 (i : Int) ∧ OwnI u1 v6 ((wavL l).take i) wr) (fun _ v7 _ => m - (intOf v7).toNat)
  case atStart => exact ⟨0, Nat.zero_le _, rfl, World.ownsRow_nil _ _ _ _, Below.refl _ _⟩
  case round =>
    obtain ⟨i, hin, rfl, hI⟩ := hrel
    by_cases hlt : i < m
    · obtain ⟨bb, off, hPe, hbl, cb⟩ := num_at (H1.out.1.kept hI.2) (i := i) (by rw [HX.out.2.2.1]; exact hlt)
      obtain ⟨ha1, ha2, ha3⟩ := HX.out.2.2.2.2.1 i hlt
      have hsu := takeI_snoc (wavL l) i (by rw [HX.out.2.2.2.1]; exact hlt)
      have hln : ((wavL l).take i).length = i := by rw [List.length_take, HX.out.2.2.2.1]; omega
      rw [ha1] at hsu
      obtain ⟨x, hx⟩ : ∃ x, (turnL l).getD i 0 = x := ⟨_, rfl⟩
      rw [hx] at hsu cb ha2 ha3
      obtain ⟨t, ht⟩ : ∃ t, (wavL l).take i = t := ⟨_, rfl⟩
      rw [ht] at hsu hln hI
      have hsz := hI.2.size
      have HM := Lib.hid (And.intro hI (And.intro hsu hln))
      subst hPe
      clear hI hsu hln ha1 hx ht
      have qw : IntKind.i64.wrap (x + 1) = x + 1 := IntWalk.i64_in _ (by omega)
      have q1 : (i : Int) < (m : Int) := by omega
      have q2 : (0 : Int) ≤ (i : Int) := by omega
      go_wp2_with (first
        | (at_builtin
           refine wpList_append_nums rfl (.tmp 20) (.tmp 26) rfl u1.heap.size _ _ _ rfl (HM.out.1.alloc _).1 (some ⟨_, 0, none⟩) 1 1 [x + 1] rfl rfl ?c1 (by simp) ?c2 ?c3 ?_))
      case c1 => exact nums_one _ _
      case c2 => rw [HM.out.2.2]; omega
      case c3 => first | omega | (simp; omega)
      intro v' w5 hown hgrow _
      have hI5 := (HM.out.1.alloc _).app (l' := t ++ [x + 1]) (by simpa using hown) hgrow
      have HX5 := Lib.hid hI5
      clear hown hgrow hI5
      go_wp2
      go_roundw
      case rel => exact ⟨i + 1, by omega, by go_num, by rw [HM.out.2.1]; exact HX5.out⟩
      case measure => simp [intOf]; omega
    · obtain rfl : i = m := by omega
      obtain ⟨wo, rfl⟩ : ∃ wo, wo = wr := ⟨_, rfl⟩
      rw [List.take_of_length_le (by rw [HX.out.2.2.2.1]; exact Nat.le_refl _)] at hI
      obtain ⟨A1, c1, rfl, hn1, -, -, -, -⟩ := nums_of_own hI.1
      rw [HX.out.2.2.2.1]
      have hb2 := H1.out.2.trans (hI.2.mono H1.out.2.size)
      have hst := BN.start wo (n : Int)
      have hbs := hst.bel
      have har := HX.out.2.1 _ (hb2.trans (hbs.mono hb2.size))
      have hw1 : (wo.alloc (.cells #[.bool true] 4)).heap.size = wo.heap.size + 1 := by simp
      rw [hw1] at hst
      have H2 := Lib.hid (And.intro hn1 (And.intro hb2 (And.intro hst har)))
      have q1 : ¬ (i : Int) < (i : Int) := by omega
      clear hI hn1 hb2 hst hbs har hw1 H1
      go_wp2_with fail
      (with_reducible refine H2.out.2.2.2.mono ?_)
      rintro e u3 ⟨v, rfl, hI⟩
      obtain ⟨A', ca, rfl, hAn, -, -, -, -⟩ := nums_of_own hI.1
      have hsc := H2.out.2.2.1.source hI.2 hAn hI.frs
      rw [HX.out.2.2.2.2.2.2.2.2.1]
      rw [← HX.out.2.2.2.2.2.2.1, ← HX.out.2.2.2.2.2.2.2.1] at hsc
      have H3 := Lib.hid hsc
      clear hI hAn hsc
      go_wp2
      go_loopw [8, 9, 11] (fun v8 v9 v11 wq => ∃ k : Nat, k ≤ n ∧ v11 = .int .i64 (k : Int) ∧ BN wo v8 v9 ((mkL l).take (k + 1)) (smN l (k + 1)) A' (sufA l) wq) (fun _ _ v11 _ => n - (intOf v11).toNat)
      case atStart => exact ⟨0, Nat.zero_le _, rfl, H3.out⟩
      case round =>
        obtain ⟨k, hkn, rfl, hB⟩ := hrel
        by_cases hlt : k < n
        · obtain ⟨bb, off, hAe, hbl, ck⟩ := num_at hB.nums (i := k) (by rw [HX.out.2.2.2.2.2.2.2.2.1]; exact hlt)
          obtain ⟨p, hp, hpn, hsb, hss⟩ := HX.out.2.2.2.2.2.1 k hlt
          rw [hp] at ck
          obtain ⟨hl8, hl9⟩ := HX.out.2.2.2.2.2.2.2.2.2 k hkn
          have hcs : ∀ wz, NumsAt .i64 wz A' (sufA l) → wz.cell? ⟨bb, off + k, none⟩ = some (.int .i64 (p : Int)) := fun wz h => by
            obtain ⟨b2, o2, e2, -, c2⟩ := num_at h (i := k) (by rw [HX.out.2.2.2.2.2.2.2.2.1]; exact hlt)
            rw [hAe] at e2
            simp only [Option.some.injEq, Addr.mk.injEq, and_true] at e2
            obtain ⟨rfl, rfl⟩ := e2
            rw [hp] at c2
            exact c2
          obtain ⟨t8, ht8⟩ : ∃ t8, (mkL l).take (k + 1) = t8 := ⟨_, rfl⟩
          obtain ⟨t9, ht9⟩ : ∃ t9, smN l (k + 1) = t9 := ⟨_, rfl⟩
          rw [ht8] at hB hsb hl8
          rw [ht9] at hB hss hl9
          have hsz := hB.bel.size
          have qm : (p : Int).tmod 8 = ((p % 8 : Nat) : Int) := by rw [Int.tmod_eq_emod_of_nonneg (by omega)]; omega
          have HM := Lib.hid (And.intro hB (And.intro hsb (And.intro hss (And.intro hl8 (And.intro hl9 hcs)))))
          subst hAe
          clear hB hsb hss hl8 hl9 hp ht8 ht9 hcs
          obtain ⟨z, hz⟩ : ∃ z, p % 8 = z := ⟨_, rfl⟩
          rw [hz] at qm HM
          have q1 : (k : Int) < (n : Int) := by omega
          have q2 : (0 : Int) ≤ (k : Int) := by omega
          by_cases h8 : z = 0
          · subst h8
            rw [if_pos rfl, decide_eq_true rfl] at HM
            clear hz
            go_wp2_with (first
              | (at_builtin
                 refine wpList_append_bools rfl (.tmp 40) (.tmp 47) rfl wo.heap.size _ _ _ rfl (HM.out.1.alloc _).ob (some ⟨_, 0, none⟩) 1 1 [true] rfl ?c1 ?c2 ?c3 ?_))
            case c1 => exact bools_one _ _
            case c2 => rw [HM.out.2.2.2.1]; omega
            case c3 => first | omega | (simp; omega)
            intro v8' w5 hown hgrow hat
            have hB5 := (HM.out.1.alloc _).appB (B' := t8 ++ [true]) (by simpa using hown) hgrow (by simpa using hat)
            have ck5 := HM.out.2.2.2.2.2 _ hB5.nums
            have hsz5 := hB5.bel.size
            have H5 := Lib.hid hB5
            clear hown hgrow hat hB5 ck
            go_wp2_with (first
              | (at_builtin
                 refine wpList_append_nums rfl (.tmp 55) (.tmp 60) rfl wo.heap.size _ _ _ rfl (H5.out.alloc _).os (some ⟨_, 0, none⟩) 1 1 [(p : Int)] rfl rfl ?c1 (by simp) ?c2 ?c3 ?_))
            case c1 => exact nums_one _ _
            case c2 => have := HM.out.2.2.2.2.1; omega
            case c3 => first | omega | (simp; omega)
            intro v9' w6 hown hgrow hat
            have hB6 := (H5.out.alloc _).appS (S' := t9 ++ [(p : Int)]) (by simpa using hown) hgrow (by simpa using hat)
            have H6 := Lib.hid hB6
            clear hown hgrow hat hB6 ck5
            go_wp2
            go_roundw
            case rel => exact ⟨k + 1, by omega, by go_num, by rw [HM.out.2.1, HM.out.2.2.1]; exact H6.out⟩
            case measure => simp [intOf]; omega
          · rw [if_neg h8, decide_eq_false h8, List.append_nil] at HM
            have q8 : ((z : Int) == 0) = false := by simp; omega
            clear hz h8
            go_wp2_with (first
              | (at_builtin
                 refine wpList_append_bools rfl (.tmp 40) (.tmp 47) rfl wo.heap.size _ _ _ rfl (HM.out.1.alloc _).ob (some ⟨_, 0, none⟩) 1 1 [false] rfl ?c1 ?c2 ?c3 ?_))
            case c1 => exact bools_one _ _
            case c2 => rw [HM.out.2.2.2.1]; omega
            case c3 => first | omega | (simp; omega)
            intro v8' w5 hown hgrow hat
            have hB5 := (HM.out.1.alloc _).appB (B' := t8 ++ [false]) (by simpa using hown) hgrow (by simpa using hat)
            have ck5 := HM.out.2.2.2.2.2 _ hB5.nums
            have H5 := Lib.hid hB5
            clear hown hgrow hat hB5 ck
            go_wp2
            go_roundw
            case rel => exact ⟨k + 1, by omega, by go_num, by rw [HM.out.2.1, HM.out.2.2.1]; exact H5.out⟩
            case measure => simp [intOf]; omega
        · obtain rfl : k = n := by omega
          rw [List.take_of_length_le (by rw [HL.out.2.1, HL.out.1]; exact Nat.le_refl _), show smN l (k + 1) = smL l by unfold smL; rw [HL.out.1]] at hB
          obtain ⟨A2, c2, rfl, hs2⟩ := slice_of_own hB.ob
          obtain ⟨A3, c3, rfl, hn3, -, -, -, -⟩ := nums_of_own hB.os
          have HF := Lib.hid (And.intro hB.bel (And.intro hs2.2.2.2.1 hn3))
          have q1 : ¬ (k : Int) < (k : Int) := by omega
          clear hB hs2 hn3
          go_wp2
          go_ret3
          exact ⟨_, _, _, rfl, ⟨⟨A1, c1, by rw [HX.out.2.2.2.1]; rfl, H2.out.1.kept HF.out.1⟩, ⟨A2, c2, rfl, HF.out.2.1⟩, ⟨A3, c3, rfl, HF.out.2.2⟩, H2.out.2.1.trans (HF.out.1.mono H2.out.2.1.size)⟩⟩
end

/-- What a law holds that has made a row and put it in a box. -/
structure LG9 (w : World) (w3 : World) (bx : Nat) (F : FQ) (L : List Int) (s : Nat) (B : Option Addr) (u : World) : Prop where
  mx : MX w3 bx F L s u
  bel : Below w.heap.size w u
  nums : NumsAt .i64 u B L
  lt : w.heap.size ≤ u.heap.size
theorem LG9.kept {w w3 u u' : World} {bx s : Nat} {F : FQ} {L : List Int} {B : Option Addr} (h : LG9 w w3 bx F L s B u) (hb : Below u.heap.size u u') : LG9 w w3 bx F L s B u' :=
  ⟨h.mx.kept hb, h.bel.trans (hb.mono h.lt), h.nums.kept hb, Nat.le_trans h.lt hb.size⟩
theorem LG9.drew {w w3 u : World} {bx s : Nat} {F : FQ} {L : List Int} {B : Option Addr} (h : LG9 w w3 bx F L s B u) : LG9 w w3 bx F L s B u.drew := h.kept ((Below.refl _ _).drew)

section
variable {w u : World} {b : Nat} {F : FQ} {l : List Int} {size : Nat}
theorem wl_mx (h : FMI u F l size) : Calls Tryz.prog 18 #[.agg #[.int .i64 (F.N : Int), .int .i64 F.Z, .slice F.wa F.wW F.wc]] u fun e u' => ∃ v, e = .returned (.slice v (l.length + 1) (l.length + 1)) ∧ NumsAt .i64 u' v (wavL l) ∧ Below u.heap.size u u' := by
  have := wlist_any (wavL l) F.wW F.wa F.wc F.Z u h.wx
  rw [wavL_len, ← h.N] at this
  rw [← h.N]
  exact this
theorem ml_mx (h : FMI u F l size) : Calls Tryz.prog 21 #[.agg #[.int .i64 (F.R.n : Int), .slice F.R.a F.R.m F.R.c]] u fun e u' => ∃ A c, e = .returned (.slice A (l.length + 1) c) ∧ BoolsAt u' A (mkL l) ∧ Below u.heap.size u u' := by
  have := list_any F.R.a F.R.m F.R.c (mkL l) u h.rk.row (by rw [mkL_len]; have := h.len; omega)
  rw [h.rk.len] at this
  refine this.mono ?_
  rintro e u' ⟨v, rfl, ⟨A, c, rfl, h1⟩, h2⟩
  exact ⟨A, c, by rw [← h.rk.len, mkL_len], h1, h2⟩
theorem sl_mx (h : FMI u F l size) : Calls Tryz.prog 23 #[.agg #[.int .i64 (F.S.n : Int), .int .i64 (F.S.W : Int), .int .i64 (F.S.L : Int), .slice F.S.a F.S.m F.S.c]] u fun e u' => ∃ g, e = .returned (.slice (some ⟨g, 0, none⟩) (smL l).length (smL l).length) ∧ u'.ownsRow u.heap.size 3 1 (.slice (some ⟨g, 0, none⟩) (smL l).length (smL l).length) (smL l).length ((smL l).map (Value.int .i64)) ∧ Below u.heap.size u u' := by
  have := ilist_any F.S.n F.S.W F.S.L F.S.a F.S.m F.S.c (smL l) u h.smp
  rw [← h.smp.len] at this
  unfold intsV at this
  rw [← h.smp.len]
  exact this.mono fun e u' ⟨g, h1, _, h2, h3⟩ => ⟨g, h1, h2, h3⟩
theorem iw_mx (F : FQ) (u : World) : Calls Tryz.prog 25 #[.agg #[.int .i64 (F.S.n : Int), .int .i64 (F.S.W : Int), .int .i64 (F.S.L : Int), .slice F.S.a F.S.m F.S.c]] u fun e u' => e = .returned (.int .i64 (F.S.W : Int)) ∧ Below u.heap.size u u' := by
  have := iwidth_any F.S.n F.S.W F.S.L F.S.a F.S.m F.S.c u
  unfold intsV at this
  exact this
theorem smL_len2 (l : List Int) : (smL l).length ≤ l.length + 1 := smN_le l _
end

end Go.Proofs.YtbcjepkfjbibfaaGreat
