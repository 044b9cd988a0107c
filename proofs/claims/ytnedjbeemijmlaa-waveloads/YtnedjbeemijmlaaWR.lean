/- The way of a symbol through the rows: the contract of forks. -/
import Derived.Test.YtnedjbeemijmlaaWQ
import Derived.Deep.CutRange
import Derived.Deep.CutBlock
set_option maxRecDepth 100000
namespace Go.Proofs.Ytnedjbeemijmlaa
open Go.RowKit
open M
attribute [local go_sem ↓] Go.wp_at_zero Go.wp_at_succ

theorem info76 : (Try.prog.info? 76).map (fun i => (i.zero, i.size, i.bytes)) = some (some (.agg #[.int .i64 0, .slice none 0 0, .int .i64 0, .int .i64 0, .int .i64 0, .slice none 0 0, .int .i64 0, .int .i64 0, .int .i64 0, .int .i64 0, .int .i64 0]), 11, 120) := by kernel_rfl

/-- The cells of a fork, at a place of a block. -/
structure FCx (w : World) (b o : Nat) (F : FP) : Prop where
  c0 : w.cell? ⟨b, o, none⟩ = some (.int .i64 (F.R.n : Int))
  c1 : w.cell? ⟨b, o + 1, none⟩ = some (.slice F.R.a F.R.m F.R.c)
  c2 : w.cell? ⟨b, o + 2, none⟩ = some (.int .i64 (F.R.cn : Int))
  c3 : w.cell? ⟨b, o + 3, none⟩ = some (.int .i64 (F.R.cW : Int))
  c4 : w.cell? ⟨b, o + 4, none⟩ = some (.int .i64 (F.R.cL : Int))
  c5 : w.cell? ⟨b, o + 5, none⟩ = some (.slice F.R.a2 F.R.m2 F.R.c2)
  c6 : w.cell? ⟨b, o + 6, none⟩ = some (.int .i64 (F.b : Int))
  c7 : w.cell? ⟨b, o + 7, none⟩ = some (.int .i64 (F.m : Int))
  c8 : w.cell? ⟨b, o + 8, none⟩ = some (.int .i64 (F.e : Int))
  c9 : w.cell? ⟨b, o + 9, none⟩ = some (.int .i64 (F.z : Int))
  c10 : w.cell? ⟨b, o + 10, none⟩ = some (.int .i64 (F.o : Int))
def fcl (F : FP) : List Value := [.int .i64 (F.R.n : Int), .slice F.R.a F.R.m F.R.c, .int .i64 (F.R.cn : Int), .int .i64 (F.R.cW : Int), .int .i64 (F.R.cL : Int), .slice F.R.a2 F.R.m2 F.R.c2, .int .i64 (F.b : Int), .int .i64 (F.m : Int), .int .i64 (F.e : Int), .int .i64 (F.z : Int), .int .i64 (F.o : Int)]
def F0 : FP := ⟨R0, 0, 0, 0, 0, 0⟩
theorem fcl_at (Fs : List FP) (j i : Nat) (hj : j < Fs.length) (hi : i < 11) : (Fs.flatMap fcl)[j * 11 + i]? = (fcl (Fs.getD j F0))[i]? := by
  induction Fs generalizing j with
  | nil => simp at hj
  | cons R r ih =>
    rw [List.flatMap_cons]
    cases j with
    | zero =>
      rw [Nat.zero_mul, Nat.zero_add, List.getElem?_append_left (by simp [fcl]; omega)]; simp
    | succ j =>
      rw [List.getElem?_append_right (by simp [fcl]; omega)]
      have := ih j (by simpa using hj)
      rw [show (j + 1) * 11 + i - (fcl R).length = j * 11 + i by simp [fcl]; omega, this]
      simp
theorem FCx.of_own {w : World} {B g cap n : Nat} {Fs : List FP} (h : w.ownsRow B 76 11 (.slice (some ⟨g, 0, none⟩) n cap) n (Fs.flatMap fcl)) (hn : Fs.length = n) (j : Nat) (hj : j < n) : FCx w g (j * 11) (Fs.getD j F0) := by
  have hc : ∀ i, i < 11 → w.cell? ⟨g, j * 11 + i, none⟩ = (fcl (Fs.getD j F0))[i]? := fun i hi => by
    rw [← fcl_at Fs j i (by omega) hi]
    exact h.cellAt (j * 11 + i) (by omega)
  exact ⟨by simpa [fcl] using hc 0 (by omega), by simpa [fcl] using hc 1 (by omega), by simpa [fcl] using hc 2 (by omega), by simpa [fcl] using hc 3 (by omega), by simpa [fcl] using hc 4 (by omega), by simpa [fcl] using hc 5 (by omega), by simpa [fcl] using hc 6 (by omega), by simpa [fcl] using hc 7 (by omega), by simpa [fcl] using hc 8 (by omega), by simpa [fcl] using hc 9 (by omega), by simpa [fcl] using hc 10 (by omega)⟩

/-- The forks of the first k rows on the way of c. -/
structure FF (w : World) (l : List Int) (W c k : Nat) (Fs : List FP) : Prop where
  len : Fs.length = k
  at_ : ∀ j, j < k → (Fs.getD j F0).b = begN l (W - j) (c / 2 ^ (W - j)) ∧ (Fs.getD j F0).e = posN l (W - j) (c / 2 ^ (W - j)) l.length ∧ ∀ w', Below w.heap.size w w' → FK w' (Fs.getD j F0) (rowK l W j)
theorem FF.app {w : World} {l : List Int} {W c k : Nat} {Fs : List FP} {F : FP} (h : FF w l W c k Fs) (h1 : F.b = begN l (W - k) (c / 2 ^ (W - k))) (h2 : F.e = posN l (W - k) (c / 2 ^ (W - k)) l.length) (h3 : ∀ w', Below w.heap.size w w' → FK w' F (rowK l W k)) : FF w l W c (k + 1) (Fs ++ [F]) := by
  refine ⟨by simp [h.len], fun j hj => ?_⟩
  by_cases hlt : j < k
  · have e2 : (Fs ++ [F]).getD j F0 = Fs.getD j F0 := by simp [List.getD_eq_getElem?_getD, List.getElem?_append_left (show j < Fs.length by rw [h.len]; exact hlt)]
    rw [e2]; exact h.at_ j hlt
  · obtain rfl : j = k := by omega
    have e2 : (Fs ++ [F]).getD j F0 = F := by rw [← h.len]; simp [List.getD_eq_getElem?_getD]
    rw [e2]; exact ⟨h1, h2, h3⟩

/-- Forks in a list of the call's own. -/
def OF (w : World) (v : Value) (Fs : List FP) (u : World) : Prop := u.ownsRow w.heap.size 76 11 v Fs.length (Fs.flatMap fcl) ∧ Below w.heap.size w u
theorem OF.kept {w u u' : World} {v : Value} {Fs : List FP} (h : OF w v Fs u) (hb : Below u.heap.size u u') : OF w v Fs u' := ⟨own_kept h.1 hb, h.2.trans (hb.mono h.2.size)⟩
theorem OF.alloc {w u : World} {v : Value} {Fs : List FP} (h : OF w v Fs u) (o : Obj) : OF w v Fs (u.alloc o) := h.kept ((Below.refl _ _).alloc (Nat.le_refl _) _)
theorem OF.app {w u u' : World} {v v' : Value} {l l' : List FP} (h : OF w v l u) (hown : u'.ownsRow w.heap.size 76 11 v' l'.length (l'.flatMap fcl)) (hg : u.grownBy u' v.ownBlock) : OF w v' l' u' := by
  have hk : Kp (fun k => v.ownBlock = some k) u u' := (Kp.refl _ u).grown hg (fun k hk _ => hk)
  exact ⟨hown, h.2.trans (hk.toBelow h.2.size (fun k hk e => by have := (h.1.lt k e).1; omega))⟩

theorem next_b {w u : World} {F : FP} (d : Bool) (x : Int) (hx : x = b2i d) (p q : Nat) (h1 : nb F d = p) (h2 : ne F d = q) (hu : Below w.heap.size w u) :
    Calls Try.prog 51 #[.agg #[.int .i64 (F.R.n : Int), .slice F.R.a F.R.m F.R.c, .int .i64 (F.R.cn : Int), .int .i64 (F.R.cW : Int), .int .i64 (F.R.cL : Int), .slice F.R.a2 F.R.m2 F.R.c2, .int .i64 (F.b : Int), .int .i64 (F.m : Int), .int .i64 (F.e : Int), .int .i64 (F.z : Int), .int .i64 (F.o : Int)], .int .i64 x] u fun e u' => e = .returned (.tuple #[.int .i64 (p : Int), .int .i64 (q : Int)]) ∧ Below w.heap.size w u' ∧ Below u.heap.size u u' :=
  (next_any F d x hx u).mono fun _ _ hh => ⟨by rw [hh.1, h1, h2], hu.trans (hh.2.mono hu.size), hh.2⟩

/-- A boxed fork's cells, and those of a boxed row of symbols. -/
theorem fbs_of {cb bx : Nat} {F : FP} {n size : Int} {s : Value} {w u : World} (h : FBx w cb F) (h2 : WBx w bx n size s) (hb : Below w.heap.size w u) : (u.cell? ⟨cb, 0, none⟩ = some (.int .i64 (F.R.n : Int)) ∧ u.cell? ⟨cb, 1, none⟩ = some (.slice F.R.a F.R.m F.R.c) ∧ u.cell? ⟨cb, 2, none⟩ = some (.int .i64 (F.R.cn : Int)) ∧ u.cell? ⟨cb, 3, none⟩ = some (.int .i64 (F.R.cW : Int)) ∧ u.cell? ⟨cb, 4, none⟩ = some (.int .i64 (F.R.cL : Int)) ∧ u.cell? ⟨cb, 5, none⟩ = some (.slice F.R.a2 F.R.m2 F.R.c2) ∧ u.cell? ⟨cb, 6, none⟩ = some (.int .i64 (F.b : Int)) ∧ u.cell? ⟨cb, 7, none⟩ = some (.int .i64 (F.m : Int)) ∧ u.cell? ⟨cb, 8, none⟩ = some (.int .i64 (F.e : Int)) ∧ u.cell? ⟨cb, 9, none⟩ = some (.int .i64 (F.z : Int)) ∧ u.cell? ⟨cb, 10, none⟩ = some (.int .i64 (F.o : Int))) ∧ u.cell? ⟨bx, 0, none⟩ = some (.int .i64 n) ∧ u.cell? ⟨bx, 1, none⟩ = some (.int .i64 size) ∧ u.cell? ⟨bx, 2, none⟩ = some s := by
  have h2 := h2.kept hb
  exact ⟨fs_of h hb, h2.c0, h2.c1, h2.c2⟩

/-- What forks tells. -/
def ForksEnd (w : World) (l : List Int) (W c : Nat) (e : Ending) (w' : World) : Prop :=
  ∃ v Fs, e = .returned (.tuple #[v, .int .i64 (begN l 0 c : Nat), .int .i64 (posN l 0 c l.length : Nat)]) ∧ FF w l W c W Fs ∧ OF w v Fs w'

set_option maxHeartbeats 4000000 in
theorem forks_any (l : List Int) (W : Nat) (a : Option Addr) (cap : Nat) (size : Int) (c : Nat) (w : World) (h : WX w l W a) (hc : c < 2 ^ W) :
    Calls Try.prog 56 #[.agg #[.int .i64 (l.length : Int), .int .i64 size, .slice a W cap], .int .i64 (c : Int)] w (ForksEnd w l W c) := by
  have hB := wbel w (.int .i64 (l.length : Int)) (.int .i64 size) (.slice a W cap)
  have hX := WBx.new w (l.length : Int) size (.slice a W cap)
  have hW := h.kept hB
  have hsm := h.small
  have hwi := h.wide
  have HS := Lib.hid h.sy
  have HC := Lib.hid hc
  have HW0 := Lib.hid h
  obtain ⟨n, hn⟩ : ∃ n, l.length = n := ⟨_, rfl⟩
  rw [hn] at hB hX hsm ⊢
  have hlt := hX.lt
  have HH := Lib.hid (And.intro hn (And.intro hB (And.intro hX hW)))
  clear h hc hB hW hn hX
  go_enter Try.func56, Try.ntmps56
  go_wp2
  go_quiet (fail)
  go_wp2
  have hB1 := below_drewN HH.out.2.1 nq
  have hD := below_drewN (Below.refl (w.alloc (.cells #[.int .i64 (n : Int), .int .i64 size, .slice a W cap] 27)).heap.size (w.alloc (.cells #[.int .i64 (n : Int), .int .i64 size, .slice a W cap] 27))) nq
  have hX1 := HH.out.2.2.1.kept hD
  have hW1 : WX ((w.alloc (.cells #[.int .i64 (n : Int), .int .i64 size, .slice a W cap] 27)).drewN nq) l W a := by
    have := HH.out.2.2.2
    rw [HH.out.1] at this
    exact this.kept hD
  have HN := Lib.hid HH.out.1
  clear hD HH
  generalize (w.alloc (.cells #[.int .i64 (n : Int), .int .i64 size, .slice a W cap] 27)).drewN nq = w1 at *
  have HH := Lib.hid (And.intro hB1 (And.intro hX1 hW1))
  clear hB1 hX1 hW1 nq hlt
  generalize hbx : w.heap.size = bx at *
  have HZ : Hid (bx ≤ w1.heap.size) := Lib.hid (by have := HH.out.1.size; omega)
  have HBX := Lib.hid hbx
  clear hbx
  obtain ⟨i0, hi, hz0, hz1, hz2⟩ := info_parts info76
  go_loopw [4, 5, 6, 15] (fun v4 v5 v6 v15 wr => ∃ (k : Nat) (Fs : List FP), k ≤ W ∧ v15 = .int .i64 (k : Int) ∧ v5 = .int .i64 (begN l (W - k) (c / 2 ^ (W - k)) : Nat) ∧ v6 = .int .i64 (posN l (W - k) (c / 2 ^ (W - k)) n : Nat) ∧ FF w l W c k Fs ∧ OF w1 v4 Fs wr) (fun _ _ _ v15 _ => W - (intOf v15).toNat)
  case atStart =>
    have e0 : c / 2 ^ W = 0 := Nat.div_eq_of_lt HC.out
    refine ⟨0, [], Nat.zero_le _, rfl, ?_, ?_, ⟨rfl, fun j hj => absurd hj (by omega)⟩, World.ownsRow_nil _ _ _ _, Below.refl _ _⟩
    · rw [Nat.sub_zero, e0]; simp [begN, sortI]
    · rw [Nat.sub_zero, e0, start_pos l W n HS.out (by rw [HN.out]; omega)]
  case round =>
    obtain ⟨k, Fs, hk, rfl, rfl, rfl, hff, hof⟩ := hrel
    by_cases hlt : k < W
    · obtain ⟨g, R, rfl, hx, hrk, hRn⟩ := HW0.out.rs.at_ k hlt
      rw [rowsI_at l W k hlt] at hrk
      have hbw : Below w.heap.size w wr := by rw [HBX.out]; exact HH.out.1.trans (hof.2.mono HZ.out)
      have hx2 := hx.kept hbw
      obtain ⟨x0, x1, x2, x3, x4, x5⟩ := hx2
      have hpl := first_lt c W k hk HC.out
      have hall := pos_all l W k (c / 2 ^ (W - k)) hk HS.out hpl
      have hbg := beg_le l (W - k) (c / 2 ^ (W - k)) n
      have hnx := bits_step c W k hlt
      rw [HN.out] at hall
      have hrl := rowK_len l W k hk HS.out
      rw [HN.out] at hrl
      have hnf := fun (F : FP) (w' : World) (hF : FK w' F (rowK l W k)) h1 h2 d => node_fork (w := w') (F := F) l W k (c / 2 ^ (W - k)) hlt HS.out hpl hF h1 h2 d
      have hfa := fun (F : FP) h1 h2 h3 => hff.app (F := F) h1 h2 h3
      rw [HN.out] at hnf hfa
      generalize hd : decide ((c : Int) / 2 ^ (W - 1 - k) % 2 = 1) = d at *
      generalize hp : c / 2 ^ (W - k) = p at *
      have q1 : (k : Int) < (W : Int) := by omega
      have q2 : (0 : Int) ≤ (k : Int) := by omega
      have HQ := Lib.hid (And.intro hnf (And.intro hnx hfa))
      have HD := Lib.hid hd
      have HK := Lib.hid (And.intro hrk hrl)
      have HE := Lib.hid (And.intro hof hbw)
      have hfl : Fs.length ≤ 20 := by rw [hff.len]; omega
      have HFL := Lib.hid hff.len
      clear hnf hnx hp hd hrk hof hx hRn hpl hrl hfa hff hbw
      generalize hpe : posN l (W - k) p n = pe at *
      generalize hpb : begN l (W - k) p = pb at *
      go_wp2_with fail
      have hb2 : Below wr.heap.size wr (wr.alloc (.cells #[.int .i64 (R.n : Int), .slice R.a R.m R.c, .int .i64 (R.cn : Int), .int .i64 (R.cW : Int), .int .i64 (R.cL : Int), .slice R.a2 R.m2 R.c2] 66)) := rbel wr R
      refine (forkAt_b pb pe HK.out.1 (HE.out.2.trans (hb2.mono HE.out.2.size)) (by omega) (by rw [HK.out.2]; exact hall)).mono ?_
      rintro e u ⟨F, rfl, hF, hbw2, hbu⟩
      have hbu2 : Below wr.heap.size wr u := hb2.trans (hbu.mono (by simp))
      have hof2 := HE.out.1.kept hbu2
      have HU := Lib.hid (And.intro hof2 hbw2)
      have hsz := hof2.2.size
      clear hbw2 hbu hb2 hbu2 hof2 x0 x1 x2 x3 x4 x5 HE
      go_wp2_with (first
        | (at_builtin
           refine wpList_append_own_at _ rfl (.tmp 24) (.tmp 26) 83 rfl w1.heap.size 76 i0 (.agg #[.int .i64 0, .slice none 0 0, .int .i64 0, .int .i64 0, .int .i64 0, .slice none 0 0, .int .i64 0, .int .i64 0, .int .i64 0, .int .i64 0, .int .i64 0]) 11 120 Try.underlying83 hi hz0 hz1 hz2 rfl (by omega) _ _ _ rfl ((HU.out.1.alloc _).alloc _).1 ⟨_, 0, none⟩ 1 1 (fcl F) rfl rfl ?c1 (by simp [fcl, Value.oneCell']) ?c2 ?c3 ?c4 ?_))
      case c1 =>
        have h9 := heap_alloc_new (u.alloc (.cells #[.int .i64 (F.R.n : Int), .slice F.R.a F.R.m F.R.c, .int .i64 (F.R.cn : Int), .int .i64 (F.R.cW : Int), .int .i64 (F.R.cL : Int), .slice F.R.a2 F.R.m2 F.R.c2, .int .i64 (F.b : Int), .int .i64 (F.m : Int), .int .i64 (F.e : Int), .int .i64 (F.z : Int), .int .i64 (F.o : Int)] 76)) (.cells #[.int .i64 (F.R.n : Int), .slice F.R.a F.R.m F.R.c, .int .i64 (F.R.cn : Int), .int .i64 (F.R.cW : Int), .int .i64 (F.R.cL : Int), .slice F.R.a2 F.R.m2 F.R.c2, .int .i64 (F.b : Int), .int .i64 (F.m : Int), .int .i64 (F.e : Int), .int .i64 (F.z : Int), .int .i64 (F.o : Int)] 76)
        rw [World.size_alloc] at h9
        exact World.news_of_block (cs := #[.int .i64 (F.R.n : Int), .slice F.R.a F.R.m F.R.c, .int .i64 (F.R.cn : Int), .int .i64 (F.R.cW : Int), .int .i64 (F.R.cL : Int), .slice F.R.a2 F.R.m2 F.R.c2, .int .i64 (F.b : Int), .int .i64 (F.m : Int), .int .i64 (F.e : Int), .int .i64 (F.z : Int), .int .i64 (F.o : Int)]) (t := 76) (fr := (0, 0)) h9
      case c2 => unfold maxLen; omega
      case c3 => omega
      case c4 => simp; omega
      intro v6 w5 hown hgrow _ hat
      have hof5 : OF w1 v6 (Fs ++ [F]) w5 := ((HU.out.1.alloc _).alloc _).app (l' := Fs ++ [F]) (by rw [List.length_append, List.flatMap_append]; simpa using hown) hgrow
      have hfb5 : FBx w5 u.heap.size F := by
        have h1 := (FBx.new u F).kept ((Below.refl _ _).alloc (Nat.le_refl _) (.cells #[.int .i64 (F.R.n : Int), .slice F.R.a F.R.m F.R.c, .int .i64 (F.R.cn : Int), .int .i64 (F.R.cW : Int), .int .i64 (F.R.cL : Int), .slice F.R.a2 F.R.m2 F.R.c2, .int .i64 (F.b : Int), .int .i64 (F.m : Int), .int .i64 (F.e : Int), .int .i64 (F.z : Int), .int .i64 (F.o : Int)] 76))
        have cl : ∀ o, w5.cell? ⟨u.heap.size, o, none⟩ = _ := fun o => hgrow.cell_far ⟨u.heap.size, o, none⟩ (by simp; omega) (fun e => by have := (HU.out.1.1.lt _ e.symm).2; simp at this)
        exact ⟨by rw [cl]; exact h1.c0, by rw [cl]; exact h1.c1, by rw [cl]; exact h1.c2, by rw [cl]; exact h1.c3, by rw [cl]; exact h1.c4, by rw [cl]; exact h1.c5, by rw [cl]; exact h1.c6, by rw [cl]; exact h1.c7, by rw [cl]; exact h1.c8, by rw [cl]; exact h1.c9, by rw [cl]; exact h1.c10⟩
      obtain ⟨hF1, hF2, hF3, hF4⟩ := hF.out
      obtain ⟨hQ1, hQ2, hQ3, hQ4⟩ := HQ.out.1 F w (hF4 w (Below.refl _ _)) hF2 hF3 d
      have hp' := HQ.out.2.1
      rw [hp'] at hQ1 hQ2
      have HFF := Lib.hid (HQ.out.2.2 F hF2 hF3 hF4)
      have HWB := Lib.hid (HH.out.2.1.kept hof5.2)
      have HFB := Lib.hid hfb5
      have HOF := Lib.hid hof5
      generalize hx : b2i d = x at *
      have c2 := fun u (hu : Below w5.heap.size w5 u) => wbit_b (w := w5) (n : Int) size (some ⟨g, 0, none⟩) W cap (c : Int) k hlt (by omega) hu
      rw [HD.out, hx] at c2
      have c3 := fun u (hu : Below w5.heap.size w5 u) => next_b (F := F) d x hx.symm _ _ hQ1 hQ2 hu
      have H2 := Lib.hid c2
      have H3 := Lib.hid c3
      clear hown hgrow hat hfb5 hof5 hF1 hF2 hF3 hF4 hQ1 hQ2 hQ3 hQ4 hp' hx c2 c3 HQ HU hsz hF
      generalize u.heap.size = cb at *
      generalize hne : posN l (W - 1 - k) (c / 2 ^ (W - 1 - k)) n = nn at *
      generalize hnb : begN l (W - 1 - k) (c / 2 ^ (W - 1 - k)) = nbg at *
      have HNN := Lib.hid (And.intro hne hnb)
      clear hne hnb
      have hb : Below w5.heap.size w5 w5 := Below.refl _ _
      obtain ⟨⟨z0, z1, z2, z3, z4, z5, z6, z7, z8, z9, z10⟩, b0, b1, b2⟩ := fbs_of HFB.out HWB.out hb
      go_wp2
      go_region_held3 (fun w' => (w'.cell? ⟨cb, 0, none⟩ = some (.int .i64 (F.R.n : Int)) ∧ w'.cell? ⟨cb, 1, none⟩ = some (.slice F.R.a F.R.m F.R.c) ∧ w'.cell? ⟨cb, 2, none⟩ = some (.int .i64 (F.R.cn : Int)) ∧ w'.cell? ⟨cb, 3, none⟩ = some (.int .i64 (F.R.cW : Int)) ∧ w'.cell? ⟨cb, 4, none⟩ = some (.int .i64 (F.R.cL : Int)) ∧ w'.cell? ⟨cb, 5, none⟩ = some (.slice F.R.a2 F.R.m2 F.R.c2) ∧ w'.cell? ⟨cb, 6, none⟩ = some (.int .i64 (F.b : Int)) ∧ w'.cell? ⟨cb, 7, none⟩ = some (.int .i64 (F.m : Int)) ∧ w'.cell? ⟨cb, 8, none⟩ = some (.int .i64 (F.e : Int)) ∧ w'.cell? ⟨cb, 9, none⟩ = some (.int .i64 (F.z : Int)) ∧ w'.cell? ⟨cb, 10, none⟩ = some (.int .i64 (F.o : Int))) ∧ w'.cell? ⟨bx, 0, none⟩ = some (.int .i64 (n : Int)) ∧ w'.cell? ⟨bx, 1, none⟩ = some (.int .i64 size) ∧ w'.cell? ⟨bx, 2, none⟩ = some (.slice (some ⟨g, 0, none⟩) W cap))
        (first
          | (with_reducible exact fbs_of HFB.out HWB.out hb)
          | (with_reducible exact fbs_of HFB.out HWB.out hb.drew)
          | go_keep)
        (first
          | (go_at_call 58; (with_reducible refine (H2.out _ hb).mono ?_); rintro e u5 ⟨rfl, hb, hbu⟩)
          | (go_at_call 58; (with_reducible refine (H2.out _ hb.drew).mono ?_); rintro e u5 ⟨rfl, hb, hbu⟩)
          | (go_at_call 51; (with_reducible refine (H3.out _ hb).mono ?_); rintro e u6 ⟨rfl, hb, hbu⟩)
          | (go_at_call 51; (with_reducible refine (H3.out _ hb.drew).mono ?_); rintro e u6 ⟨rfl, hb, hbu⟩))
      all_goals
        have HO6 := Lib.hid (HOF.out.kept hb)
        clear z0 z1 z2 z3 z4 z5 z6 z7 z8 z9 z10 b0 b1 b2 hb hbu
        go_wp2
        go_roundw
        case rel =>
          have e1 : W - (k + 1) = W - 1 - k := by omega
          refine ⟨k + 1, Fs ++ [F], hlt, by go_num, ?_, ?_, HFF.out, HO6.out⟩
          · rw [e1, HNN.out.2]
          · rw [e1, HNN.out.1]
        case measure => simp [intOf]; omega
    · obtain rfl : k = W := by omega
      rw [Nat.sub_self, Nat.pow_zero, Nat.div_one] at *
      have HE := Lib.hid (And.intro hff hof)
      clear hff hof
      generalize hnb : begN l 0 c = pb at *
      generalize hne : posN l 0 c n = pe at *
      have HNN := Lib.hid (And.intro hne hnb)
      clear hne hnb
      go_wp2
      refine bodyPost_ret (v := .tuple #[u4, .int .i64 (pb : Int), .int .i64 (pe : Int)]) (by simp [results, Try.results56, go_sem]) rfl ?_
      refine ⟨u4, Fs, by rw [HN.out, HNN.out.1, HNN.out.2], HE.out.1, ?_, ?_⟩
      · rw [HBX.out]
        obtain ⟨o1, o2⟩ := HE.out.2.1
        refine ⟨by have := HE.out.2.2.size; have := HZ.out; omega, ?_⟩
        rcases o2 with o2 | ⟨g', cap', cur, r1, r2, r3⟩
        · exact .inl o2
        · exact .inr ⟨g', cap', cur, r1, by have := HZ.out; omega, r3⟩
      · rw [HBX.out]
        exact HH.out.1.trans (HE.out.2.2.mono HZ.out)

end Go.Proofs.Ytnedjbeemijmlaa
