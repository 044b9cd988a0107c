/- The contract of Distinct. -/
import Derived.Test.YtnedjbeemijmlaaWT
import Derived.Laws.EntriesVeiled
set_option maxRecDepth 100000
namespace Go.Proofs.Ytnedjbeemijmlaa
open Go.RowKit
open M
attribute [local go_sem ↓] Go.wp_at_zero Go.wp_at_succ

/-- What the first t of the two bits' calls list. -/
def disUp (M : List Int) (m p t : Nat) : List Int := (List.range t).flatMap fun (v : Nat) => disL M m (2 * p + v)
theorem disUp_succ (M : List Int) (m p t : Nat) : disUp M m p (t + 1) = disUp M m p t ++ disL M m (2 * p + t) := by
  unfold disUp; rw [List.range_succ, List.flatMap_append]; simp
theorem disUp_two (M : List Int) (m p : Nat) : disUp M m p 2 = disL M (m + 1) p := by
  rw [disUp_succ, disUp_succ, disL_step]; simp [disUp]
theorem disUp_len (M : List Int) (m p t : Nat) : (disUp M m p t).length ≤ t * 2 ^ m := by
  induction t with
  | zero => simp [disUp]
  | succ t ih =>
    rw [disUp_succ, List.length_append]
    have := disL_len M m (2 * p + t)
    have e : (t + 1) * 2 ^ m = t * 2 ^ m + 2 ^ m := by rw [Nat.succ_mul]
    omega
/-- A boxed fork's cells, and where the closure stands. -/
theorem fls_of {cb lb : Nat} {F : FP} {v : Value} {u : World} (h : FBx u cb F) (h2 : u.cell? ⟨lb, 0, none⟩ = some v) : (u.cell? ⟨cb, 0, none⟩ = some (.int .i64 (F.R.n : Int)) ∧ u.cell? ⟨cb, 1, none⟩ = some (.slice F.R.a F.R.m F.R.c) ∧ u.cell? ⟨cb, 2, none⟩ = some (.int .i64 (F.R.cn : Int)) ∧ u.cell? ⟨cb, 3, none⟩ = some (.int .i64 (F.R.cW : Int)) ∧ u.cell? ⟨cb, 4, none⟩ = some (.int .i64 (F.R.cL : Int)) ∧ u.cell? ⟨cb, 5, none⟩ = some (.slice F.R.a2 F.R.m2 F.R.c2) ∧ u.cell? ⟨cb, 6, none⟩ = some (.int .i64 (F.b : Int)) ∧ u.cell? ⟨cb, 7, none⟩ = some (.int .i64 (F.m : Int)) ∧ u.cell? ⟨cb, 8, none⟩ = some (.int .i64 (F.e : Int)) ∧ u.cell? ⟨cb, 9, none⟩ = some (.int .i64 (F.z : Int)) ∧ u.cell? ⟨cb, 10, none⟩ = some (.int .i64 (F.o : Int))) ∧ u.cell? ⟨lb, 0, none⟩ = some v :=
  ⟨fs_of h (Below.refl _ _), h2⟩

def DisEnd (w : World) (n size : Int) (s fv : Value) (found new : List Int) (u : World) (e : Ending) (u' : World) : Prop :=
  e = .returned (.tuple #[]) ∧ ∃ fv', DS w n size s fv' (found ++ new) u' ∧ DK w fv fv' u u'

set_option maxHeartbeats 8000000 in
theorem dist_any (l : List Int) (W : Nat) (a : Option Addr) (cap : Nat) (size : Int) (f t n : Nat) (w : World) (hW : WX w l W a) (hft : f ≤ t) (hn : l.length = n) :
    ∀ (m k p : Nat) (u : World) (fv : Value) (found : List Int), k + m = W → p < 2 ^ k → found.length + 2 ^ m ≤ 4000000 → DS w (n : Int) size (.slice a W cap) fv found u →
    Calls Try.prog 52 #[.int .i64 (k : Int), .int .i64 (p : Int), .int .i64 (begN l m p : Nat), .int .i64 (posN l m p n : Nat), .int .i64 (posN l m p f : Nat), .int .i64 (posN l m p t : Nat), .pointer (some ⟨w.heap.size, 0, none⟩), .pointer (some ⟨w.heap.size + 1, 0, none⟩), .pointer (some ⟨w.heap.size + 2, 0, none⟩)] u
      (DisEnd w (n : Int) size (.slice a W cap) fv found (disL (rng l f t) m p) u) := by
  intro m
  induction m with
  | zero =>
    intro k p u fv found hkm hp hfl hS
    obtain rfl : k = W := by omega
    have hrp := rng_pos l 0 p f t hft
    have hwi := hW.wide
    by_cases hz : (withI (rng l f t) 0 p).length = 0
    · have hno := disL_none (rng l f t) 0 p hz
      rw [hz, Nat.add_zero] at hrp
      rw [hrp, hno]
      have HS := Lib.hid hS
      clear hS hrp hz hno
      generalize posN l 0 p f = pf at *
      go_enter Try.func52, Try.ntmps52
      go_wp2
      go_end0
      exact ⟨rfl, fv, by rw [List.append_nil]; exact HS.out, DK.refl _ _ _⟩
    · have hone := disL_one (rng l f t) p hz
      rw [hone]
      obtain ⟨x0, x1, x2⟩ := hS.box
      have x3 := hS.fc
      have x4 := hS.fz
      have hl1 := World.block_lt_of_cell? u _ x3
      simp only at hl1
      have hne : ((posN l 0 p f : Nat) : Int) ≠ ((posN l 0 p t : Nat) : Int) := by omega
      have HS := Lib.hid hS
      have hsz := hS.bel.size
      have hl2 := World.block_lt_of_cell? u _ hS.lc
      simp only at hl2
      obtain ⟨i0, hi, hz0, hz1, hz2⟩ := info_parts info3
      clear hS hrp hz hone
      generalize posN l 0 p f = pf at *
      generalize posN l 0 p t = pt at *
      have hne2 : ((pf : Int) == (pt : Int)) = false := by simpa using hne
      clear hne
      go_enter Try.func52, Try.ntmps52
      go_wp2_with (first
        | (at_builtin
           refine wpList_append_own_at _ rfl (.tmp 29) (.tmp 31) 22 rfl (w.heap.size + 3) 3 i0 (.int .i64 0) 1 8 Try.underlying22 hi hz0 hz1 hz2 rfl (by omega) _ _ _ rfl (own_kept HS.out.own ((Below.refl _ _).alloc (Nat.le_refl _) _)) ⟨_, 0, none⟩ 1 1 [.int .i64 (p : Int)] rfl rfl ?c1 (by simp [Value.oneCell']) ?c2 ?c3 ?c4 ?_))
      case c1 => exact World.news_of_block (cs := #[.int .i64 (p : Int)]) (t := 3) (fr := (0, 0)) (heap_alloc_new _ _)
      case c2 => unfold maxLen; omega
      case c3 => omega
      case c4 => simp; omega
      intro v' w1 hown hgrow _ hat
      have hfar : fv.ownBlock ≠ some (w.heap.size + 1) := fun e => by have := (HS.out.own.lt _ e).1; omega
      have f1 : w1.cell? ⟨w.heap.size + 1, 0, none⟩ = some fv := by rw [hgrow.cell_far _ (by simp; omega) (Ne.symm hfar)]; exact (HS.out.kept ((Below.refl _ _).alloc (Nat.le_refl _) _)).fc
      have f2 : w1.frozen? ⟨w.heap.size + 1, 0, none⟩ = false := by rw [hgrow.frozen_far _ (by simp; omega) (Ne.symm hfar)]; exact (HS.out.kept ((Below.refl _ _).alloc (Nat.le_refl _) _)).fz
      obtain ⟨ga, gc, rfl⟩ : ∃ ga gc, v' = .slice ga (found.length + 1) gc := by
        rcases hown.2 with ⟨-, e2⟩ | ⟨g, cp, cur, e1, -⟩
        · omega
        · exact ⟨_, cp, e1⟩
      have hap := HS.out.app (y := (p : Int)) _ hown hgrow hat
      have HA := Lib.hid hap
      clear hap hown hgrow hat x0 x1 x2 x3 x4 hfar
      go_wp2
      go_end0
      exact ⟨rfl, _, HA.out.1, HA.out.2⟩
  | succ m ih =>
    intro k p u fv found hkm hp hfl hS
    have hlt : k < W := by omega
    have hrp := rng_pos l (m + 1) p f t hft
    have hwi := hW.wide
    have hsm := hW.small
    rw [hn] at hsm
    by_cases hz : (withI (rng l f t) (m + 1) p).length = 0
    · have hno := disL_none (rng l f t) (m + 1) p hz
      rw [hz, Nat.add_zero] at hrp
      rw [hrp, hno]
      have HS := Lib.hid hS
      have HI := Lib.hid ih
      clear hS hrp hz hno ih
      generalize posN l (m + 1) p f = pf at *
      go_enter Try.func52, Try.ntmps52
      go_wp2
      go_end0
      exact ⟨rfl, fv, by rw [List.append_nil]; exact HS.out, DK.refl _ _ _⟩
    · have hm1 : W - k = m + 1 := by omega
      have hm2 : W - 1 - k = m := by omega
      obtain ⟨g, R, rfl, hx, hrk, hRn⟩ := hW.rs.at_ k hlt
      rw [rowsI_at l W k hlt] at hrk
      obtain ⟨y0, y1, y2, y3, y4, y5⟩ := hx.kept hS.bel
      have hall := pos_all l W k p (by omega) hW.sy hp
      have hle1 := pos_le l (m + 1) p f
      have hle2 := pos_le l (m + 1) p t
      have hbg := beg_le l (m + 1) p f
      have hbg2 := beg_le l (m + 1) p t
      have hrl := rowK_len l W k (by omega) hW.sy
      have hnf := fun (F : FP) (w' : World) (hF : FK w' F (rowK l W k)) h1 h2 d => node_fork (w := w') (F := F) l W k p hlt hW.sy hp hF h1 h2 d
      rw [hm1, hm2, hn] at hnf
      rw [hm1, hn] at hall
      rw [hn] at hle1 hle2 hrl
      have hp20 : 2 ^ k ≤ 2 ^ 20 := Nat.pow_le_pow_right (by decide) (by omega)
      have hp2 : p ≤ 1048576 := by
        have : (2 : Nat) ^ 20 = 1048576 := by decide
        omega
      have hpw : 2 ^ (m + 1) = 2 * 2 ^ m := by rw [Nat.pow_succ]; omega
      have hpk : ∀ d, 2 * p + bN d < 2 ^ (k + 1) := fun d => by
        rw [Nat.pow_succ]
        cases d <;> simp [bN] <;> omega
      have hdl := fun t' => disUp_len (rng l f t) m p t'
      have hdu := fun t' => disUp_succ (rng l f t) m p t'
      have hdt := disUp_two (rng l f t) m p
      have hne : ((posN l (m + 1) p f : Nat) : Int) ≠ ((posN l (m + 1) p t : Nat) : Int) := by omega
      have HQ := Lib.hid (And.intro hnf (And.intro hdl (And.intro hdu (And.intro hdt hpk))))
      have HK := Lib.hid (And.intro hrk hrl)
      have HI := Lib.hid ih
      have HWX := Lib.hid hW
      clear hnf hdl hdu hdt hpk hrk hrl ih hx hRn hrp hz hW hp20
      generalize hM : rng l f t = M at *
      generalize hDL : disL M (m + 1) p = DL at *
      generalize hpf : posN l (m + 1) p f = pf at *
      generalize hpt : posN l (m + 1) p t = pt at *
      generalize hpe : posN l (m + 1) p n = pe at *
      generalize hpb : begN l (m + 1) p = pb at *
      have hne2 : ((pf : Int) == (pt : Int)) = false := by simpa using hne
      clear hne
      have q1 : (k : Int) < (W : Int) := by omega
      have q2 : (0 : Int) ≤ (k : Int) := by omega
      have q3 : ((k : Int) == (W : Int)) = false := by simp; omega
      obtain ⟨x0, x1, x2⟩ := hS.box
      have HS := Lib.hid hS
      clear hS
      go_enter Try.func52, Try.ntmps52
      go_wp2_with fail
      refine (forkAt_b pb pe HK.out.1 HS.out.bel (by omega) (by rw [HK.out.2]; exact hall)).mono ?_
      rintro e u1 ⟨F, rfl, hF, hbw, hbu⟩
      have hS1 := HS.out.kept hbu
      have hba : Below u1.heap.size u1 (u1.alloc (.cells #[.int .i64 (F.R.n : Int), .slice F.R.a F.R.m F.R.c, .int .i64 (F.R.cn : Int), .int .i64 (F.R.cW : Int), .int .i64 (F.R.cL : Int), .slice F.R.a2 F.R.m2 F.R.c2, .int .i64 (F.b : Int), .int .i64 (F.m : Int), .int .i64 (F.e : Int), .int .i64 (F.z : Int), .int .i64 (F.o : Int)] 76)) := fbel u1 F
      have hS2 := hS1.kept hba
      have hK2 : DK w fv fv u (u1.alloc (.cells #[.int .i64 (F.R.n : Int), .slice F.R.a F.R.m F.R.c, .int .i64 (F.R.cn : Int), .int .i64 (F.R.cW : Int), .int .i64 (F.R.cL : Int), .slice F.R.a2 F.R.m2 F.R.c2, .int .i64 (F.b : Int), .int .i64 (F.m : Int), .int .i64 (F.e : Int), .int .i64 (F.z : Int), .int .i64 (F.o : Int)] 76)) := ((DK.refl w fv u).below hbu).below hba
      have hfb := FBx.new u1 F
      have hnc : fv.ownBlock ≠ some u1.heap.size := fun e => by have := (hS1.own.lt _ e).2; omega
      have hlc := World.block_lt_of_cell? u1 _ hS1.lc
      simp only at hlc
      have HN := Lib.hid (And.intro hS2 (And.intro hK2 (And.intro hfb hnc)))
      clear hbw hbu hS1 hba hS2 hK2 hfb hnc x0 x1 x2 y0 y1 y2 y3 y4 y5
      go_wp2
      generalize hcb : u1.heap.size = cb at *
      clear hcb
      go_loopw [41] (fun v41 wr => ∃ (t' : Nat) (fv' : Value), t' ≤ 2 ∧ v41 = .int .i64 (t' : Int) ∧ DS w (n : Int) size (.slice (some ⟨g, 0, none⟩) W cap) fv' (found ++ disUp M m p t') wr ∧ DK w fv fv' u wr ∧ FBx wr cb F ∧ fv'.ownBlock ≠ some cb) (fun v41 _ => 2 - (intOf v41).toNat)
      case atStart => exact ⟨0, fv, by omega, rfl, by simpa [disUp] using HN.out.1, HN.out.2.1, HN.out.2.2.1, HN.out.2.2.2⟩
      case round =>
        obtain ⟨t', fv', ht2, rfl, hS, hK, hfb, hnc⟩ := hrel
        clear HN
        by_cases htl : t' < 2
        · obtain ⟨d, hd⟩ : ∃ d, d = decide (t' = 1) := ⟨_, rfl⟩
          have hbn : bN d = t' := by
            have : t' = 0 ∨ t' = 1 := by omega
            rcases this with rfl | rfl <;> subst hd <;> rfl
          have hbx : b2i d = (t' : Int) := by rw [bN_b2i, hbn]
          clear hd
          obtain ⟨hF1, hF2, hF3, hF4⟩ := hF.out
          obtain ⟨hQ1, hQ2, hQ3, hQ4⟩ := HQ.out.1 F w (hF4 w (Below.refl _ _)) hF2 hF3 d
          have hor := or_bit p d (by omega)
          have hpk := HQ.out.2.2.2.2 d
          rw [hbn] at hQ1 hQ2 hQ4 hor hpk
          rw [hbx] at hor
          have hfk := hF4 wr hS.bel
          have hlr : (rowK l W k).length = n := HK.out.2
          obtain ⟨k1, hk1⟩ : ∃ k1, k1 = k + 1 := ⟨_, rfl⟩
          obtain ⟨p1, hp1⟩ : ∃ p1, p1 = 2 * p + t' := ⟨_, rfl⟩
          rw [← hk1, ← hp1] at hpk
          rw [← hp1] at hor hQ1 hQ2 hQ4
          have hr1 := hQ4 f
          have hr2 := hQ4 t
          rw [hpf] at hr1
          rw [hpt] at hr2
          have hdl := HQ.out.2.1 t'
          have hfl2 : (found ++ disUp M m p t').length + 2 ^ m ≤ 4000000 := by
            rw [List.length_append]
            have : t' * 2 ^ m ≤ 2 ^ m := by
              have h9 : t' = 0 ∨ t' = 1 := by omega
              rcases h9 with rfl | rfl <;> simp
            omega
          have c1 := fun u (hu : Below wr.heap.size wr u) => follow_b d pf (t' : Int) hbx.symm hfk hu (by omega) (by omega) _ hr1
          have c2 := fun u (hu : Below wr.heap.size wr u) => follow_b d pt (t' : Int) hbx.symm hfk hu (by omega) (by omega) _ hr2
          have c3 := fun u => next_any F d (t' : Int) hbx.symm u
          rw [hQ1, hQ2] at c3
          have c4 := fun u fw hu => HI.out k1 p1 u fw (found ++ disUp M m p t') (by omega) hpk hfl2 hu
          have hnext := HQ.out.2.2.1 t'
          rw [← hp1] at hnext
          have r5 : IntKind.i64.wrap ((k : Int) + 1) = (k1 : Int) := by rw [IntWalk.i64_in _ (by omega)]; omega
          have r6 : IntKind.i64.wrap ((p : Int) * 2) = (p : Int) * 2 := IntWalk.i64_in _ (by omega)
          have H1 := Lib.hid c1
          have H2 := Lib.hid c2
          have H3 := Lib.hid c3
          have H4 := Lib.hid c4
          have HNX := Lib.hid hnext
          clear c1 c2 c3 c4 hr1 hr2 hQ1 hQ2 hQ3 hQ4 hF1 hF2 hF3 hF4 hfk hlr hdl hfl2 hpk hnext hbn hbx
          have HKP := Lib.hid (And.intro hk1 hp1)
          clear hk1 hp1
          generalize posN l m p1 f = nf at *
          generalize posN l m p1 t = nt at *
          generalize posN l m p1 n = nn at *
          generalize begN l m p1 = nbg at *
          have r1 : (t' : Int) < 2 := by omega
          obtain ⟨z0, z1, z2, z3, z4, z5, z6, z7, z8, z9, z10⟩ := fs_of hfb (Below.refl _ _)
          have HSK := Lib.hid (And.intro hS (And.intro hK (And.intro hfb hnc)))
          clear hS hK hfb hnc
          go_wp2_with fail
          refine (H3.out _).mono ?_
          rintro e u3 ⟨rfl, hb3⟩
          clear z0 z1 z2 z3 z4 z5 z6 z7 z8 z9 z10
          have hS := HSK.out.1.kept hb3
          have hfb := HSK.out.2.2.1.kept hb3
          have hb : Below wr.heap.size wr u3 := hb3
          have HK3 := Lib.hid (HSK.out.2.1)
          have HNC := Lib.hid (HSK.out.2.2.2)
          have HFBW := Lib.hid HSK.out.2.2.1
          have HSW := Lib.hid HSK.out.1
          clear HSK hb3 H3
          obtain ⟨⟨z0, z1, z2, z3, z4, z5, z6, z7, z8, z9, z10⟩, z11⟩ := fls_of hfb hS.lc
          go_wp2
          go_region_held3 (fun w' => (w'.cell? ⟨cb, 0, none⟩ = some (.int .i64 (F.R.n : Int)) ∧ w'.cell? ⟨cb, 1, none⟩ = some (.slice F.R.a F.R.m F.R.c) ∧ w'.cell? ⟨cb, 2, none⟩ = some (.int .i64 (F.R.cn : Int)) ∧ w'.cell? ⟨cb, 3, none⟩ = some (.int .i64 (F.R.cW : Int)) ∧ w'.cell? ⟨cb, 4, none⟩ = some (.int .i64 (F.R.cL : Int)) ∧ w'.cell? ⟨cb, 5, none⟩ = some (.slice F.R.a2 F.R.m2 F.R.c2) ∧ w'.cell? ⟨cb, 6, none⟩ = some (.int .i64 (F.b : Int)) ∧ w'.cell? ⟨cb, 7, none⟩ = some (.int .i64 (F.m : Int)) ∧ w'.cell? ⟨cb, 8, none⟩ = some (.int .i64 (F.e : Int)) ∧ w'.cell? ⟨cb, 9, none⟩ = some (.int .i64 (F.z : Int)) ∧ w'.cell? ⟨cb, 10, none⟩ = some (.int .i64 (F.o : Int))) ∧ w'.cell? ⟨w.heap.size + 2, 0, none⟩ = some (.func (.func 52) #[] #[.pointer (some ⟨w.heap.size, 0, none⟩), .pointer (some ⟨w.heap.size + 1, 0, none⟩), .pointer (some ⟨w.heap.size + 2, 0, none⟩)]))
            (first
              | (with_reducible exact fls_of hfb hS.lc)
              | (with_reducible exact fls_of (hfb.kept ((Below.refl _ _).drew)) hS.drew.lc)
              | go_keep)
            (first
              | (go_at_call 50; (with_reducible refine (H1.out _ hb).mono ?_); rintro e u4 ⟨rfl, hb, hbu⟩; have hS := hS.kept hbu; have hfb := hfb.kept hbu)
              | (go_at_call 50; (with_reducible refine (H1.out _ hb.drew).mono ?_); rintro e u4 ⟨rfl, hb, hbu⟩; have hS := hS.drew.kept hbu; have hfb := (hfb.kept ((Below.refl _ _).drew)).kept hbu)
              | (go_at_call 50; (with_reducible refine (H2.out _ hb).mono ?_); rintro e u5 ⟨rfl, hb, hbu⟩; have hS := hS.kept hbu; have hfb := hfb.kept hbu)
              | (go_at_call 50; (with_reducible refine (H2.out _ hb.drew).mono ?_); rintro e u5 ⟨rfl, hb, hbu⟩; have hS := hS.drew.kept hbu; have hfb := (hfb.kept ((Below.refl _ _).drew)).kept hbu)
              | (go_at_call 52; (with_reducible refine (H4.out _ _ hS).mono ?_); rintro e u6 ⟨rfl, fw, hS6, hK6⟩; have hfb6 := hfb.kp hK6.kp (fun e => by
                  rcases e with e | e
                  · have := hlc; omega
                  · exact HNC.out e); have hnc6 : fw.ownBlock ≠ some cb := fun e => by
                  rcases hK6.at_ _ e with e | e
                  · exact HNC.out e
                  · have := hfb.lt; omega
                 have hK7 := (HK3.out.below hb).trans hK6; have hS := hS6; have hfb := hfb6))
          all_goals
            have HF := Lib.hid (And.intro hS6 (And.intro hK7 (And.intro hfb6 hnc6)))
            clear hS6 hK6 hK7 hfb6 hnc6 hS hfb hb hbu z0 z1 z2 z3 z4 z5 z6 z7 z8 z9 z10 z11
            go_wp2
            go_roundw
            case rel => exact ⟨t' + 1, fw, by omega, by go_num, by rw [HNX.out, ← List.append_assoc]; exact HF.out.1, HF.out.2.1, HF.out.2.2.1, HF.out.2.2.2⟩
            case measure => simp [intOf]; omega
        · obtain rfl : t' = 2 := by omega
          rw [HQ.out.2.2.2.1] at hS
          have HF := Lib.hid (And.intro hS hK)
          clear hS hK hfb hnc
          go_wp2
          go_end0
          exact ⟨rfl, fv', HF.out.1, HF.out.2⟩

theorem DS.start (w : World) (n size : Int) (s : Value) (W3 : World) (e3 : W3 = ((w.alloc (.cells #[.int .i64 n, .int .i64 size, s] 27)).alloc (.cells #[.slice none 0 0] 22)).alloc (.cells #[(.func (.func 52) #[] #[.pointer (some ⟨w.heap.size, 0, none⟩), .pointer (some ⟨w.heap.size + 1, 0, none⟩), .pointer (some ⟨w.heap.size + 1 + 1, 0, none⟩)])] 80)) : DS w n size s (.slice none 0 0) [] W3 := by
  have hb : Below w.heap.size w W3 := by
    rw [e3]
    exact (((Below.refl _ _).alloc (Nat.le_refl _) _).alloc (by simp) _).alloc (by simp; omega) _
  have c0 : ∀ o, W3.cell? ⟨w.heap.size, o, none⟩ = (w.alloc (.cells #[.int .i64 n, .int .i64 size, s] 27)).cell? ⟨w.heap.size, o, none⟩ := fun o => by
    rw [e3]
    exact (((Below.refl _ _).alloc (Nat.le_refl _) _).alloc (by simp) _ : Below (w.alloc (.cells #[.int .i64 n, .int .i64 size, s] 27)).heap.size (w.alloc (.cells #[.int .i64 n, .int .i64 size, s] 27)) _).cell (p := ⟨w.heap.size, o, none⟩) (by simp)
  have h1 : ∀ o, W3.cell? ⟨w.heap.size + 1, o, none⟩ = ((w.alloc (.cells #[.int .i64 n, .int .i64 size, s] 27)).alloc (.cells #[.slice none 0 0] 22)).cell? ⟨w.heap.size + 1, o, none⟩ := fun o => by
    rw [e3]
    exact ((Below.refl _ _).alloc (Nat.le_refl _) _ : Below ((w.alloc (.cells #[.int .i64 n, .int .i64 size, s] 27)).alloc (.cells #[.slice none 0 0] 22)).heap.size _ _).cell (p := ⟨w.heap.size + 1, o, none⟩) (by simp)
  have f1 : W3.frozen? ⟨w.heap.size + 1, 0, none⟩ = ((w.alloc (.cells #[.int .i64 n, .int .i64 size, s] 27)).alloc (.cells #[.slice none 0 0] 22)).frozen? ⟨w.heap.size + 1, 0, none⟩ := by
    rw [e3]
    exact ((Below.refl _ _).alloc (Nat.le_refl _) _ : Below ((w.alloc (.cells #[.int .i64 n, .int .i64 size, s] 27)).alloc (.cells #[.slice none 0 0] 22)).heap.size _ _).frozen (p := ⟨w.heap.size + 1, 0, none⟩) (by simp)
  have h2 : W3.heap[w.heap.size + 1 + 1]? = some (.cells #[(.func (.func 52) #[] #[.pointer (some ⟨w.heap.size, 0, none⟩), .pointer (some ⟨w.heap.size + 1, 0, none⟩), .pointer (some ⟨w.heap.size + 1 + 1, 0, none⟩)])] 80) := by
    rw [e3]
    have := heap_alloc_new ((w.alloc (.cells #[.int .i64 n, .int .i64 size, s] 27)).alloc (.cells #[.slice none 0 0] 22)) (.cells #[(.func (.func 52) #[] #[.pointer (some ⟨w.heap.size, 0, none⟩), .pointer (some ⟨w.heap.size + 1, 0, none⟩), .pointer (some ⟨w.heap.size + 1 + 1, 0, none⟩)])] 80)
    rw [World.size_alloc, World.size_alloc] at this
    exact this
  have hc2 : W3.cell? ⟨w.heap.size + 1 + 1, 0, none⟩ = some (.func (.func 52) #[] #[.pointer (some ⟨w.heap.size, 0, none⟩), .pointer (some ⟨w.heap.size + 1, 0, none⟩), .pointer (some ⟨w.heap.size + 1 + 1, 0, none⟩)]) := by simp [World.cell?, h2]
  refine ⟨⟨?_, ?_, ?_⟩, ?_, ?_, hc2, ⟨rfl, .inl ⟨rfl, rfl⟩⟩, hb⟩
  · rw [c0]; simp
  · rw [c0]; simp
  · rw [c0]; simp
  · rw [h1]; simp
  · rw [f1]; simp

set_option maxHeartbeats 1000000 in
theorem wdist_any (l : List Int) (W : Nat) (a : Option Addr) (cap : Nat) (size f t : Int) (w : World) (h : WX w l W a) :
    Calls Try.prog 25 #[.agg #[.int .i64 (l.length : Int), .int .i64 size, .slice a W cap], .int .i64 f, .int .i64 t] w fun e w' => ∃ v, e = .returned v ∧ OwnI w v (disL (rng l (lo l.length f) (hi l.length f t)) W 0) w' := by
  have hS := DS.start w (l.length : Int) size (.slice a W cap) _ rfl
  have hsm := h.small
  have hwi := h.wide
  have hlh := lo_hi l.length f t
  have hpw : 2 ^ W ≤ 2 ^ 20 := Nat.pow_le_pow_right (by decide) hwi
  have h20 : (2 : Nat) ^ 20 = 1048576 := by decide
  have hk := fun u => wkeep_any l.length size (.slice a W cap) f t u (by omega)
  have hd := fun u fv hu => dist_any l W a cap size (lo l.length f) (hi l.length f t) l.length w h hlh.1 rfl W 0 0 u fv [] (by omega) (by simp) (by simp; omega) hu
  rw [start_pos l W (lo l.length f) h.sy (by omega), start_pos l W (hi l.length f t) h.sy hlh.2, start_pos l W l.length h.sy (Nat.le_refl _), show begN l W 0 = 0 by simp [begN, sortI]] at hd
  have HD := Lib.hid hd
  have HK := Lib.hid hk
  obtain ⟨x0, x1, x2⟩ := hS.box
  have HS := Lib.hid hS
  clear hS hd hk h hpw h20
  generalize disL (rng l (lo l.length f) (hi l.length f t)) W 0 = DL at *
  generalize lo l.length f = p at *
  generalize hi l.length f t = q at *
  generalize l.length = n at *
  go_enter Try.func25, Try.ntmps25
  go_wp2_with fail
  refine (HK.out _).mono ?_
  rintro e u1 ⟨rfl, hb1⟩
  have hS1 := HS.out.kept hb1
  clear x0 x1 x2
  obtain ⟨x0, x1, x2⟩ := hS1.box
  have x3 := hS1.lc
  have HS1 := Lib.hid hS1
  clear hb1 hS1 HS
  go_wp2_with fail
  refine (HD.out _ _ HS1.out).mono ?_
  rintro e u2 ⟨rfl, fv, hS2, hK2⟩
  rw [List.nil_append] at hS2
  have x4 := hS2.fc
  have HS2 := Lib.hid hS2
  obtain ⟨fa, fc, hfv, -⟩ := nums_of_own hS2.own
  subst hfv
  clear hS2 hK2 x0 x1 x2 x3 HS1
  go_wp2
  go_ret
  refine ⟨_, rfl, ?_, HS2.out.bel⟩
  obtain ⟨o1, o2⟩ := HS2.out.own
  refine ⟨by omega, ?_⟩
  rcases o2 with o2 | ⟨g', cap', cur, r1, r2, r3⟩
  · exact .inl o2
  · exact .inr ⟨g', cap', cur, r1, by omega, r3⟩

end Go.Proofs.Ytnedjbeemijmlaa
