/- The contract of New of rows of symbols. -/
import Derived.Test.YtpnjccomngdblaaGreatWO
import Derived.Deep.AppendLies
import Derived.Deep.RegionHeld3
import Derived.Deep.RegionLaw
import Derived.Deep.CutRange
import Derived.Deep.CutBlock
set_option maxRecDepth 100000
namespace Go.Proofs.YtpnjccomngdblaaGreat
open Go.RowKit
open M
attribute [local go_sem ↓] Go.wp_at_zero Go.wp_at_succ

theorem info35 : (Tryz.prog.info? 35).map (fun i => (i.zero, i.size, i.bytes)) = some (some (.agg #[.int .i64 0, .slice none 0 0, .int .i64 0, .int .i64 0, .int .i64 0, .slice none 0 0]), 6, 80) := by kernel_rfl
theorem ent75 (args : Array Value) (w : World) : (callFunc 75 args).run Tryz.prog w = .ok (.enter 75 args) w := by kernel_rfl

/-- How many bits a symbol of that size has. -/
def wdt (size : Int) : Nat := wid (size - 1).toNat

theorem mayB_eq (l : List Int) (size : Int) : mayB l size = (sizeB size && l.all fun x => hasB size x) := by
  unfold mayB sizeB hasB
  congr 1
  · rw [Bool.decide_and]
  · congr 1; funext x; rw [Bool.decide_and]
theorem wdt_le (size : Int) (h : sizeB size = true) : wdt size ≤ 16 := by
  unfold sizeB at h
  rw [decide_eq_true_eq] at h
  unfold wdt
  rw [wid_le]
  omega
theorem wdt_pow (size : Int) (h : 1 ≤ size) : size ≤ 2 ^ wdt size := by
  have h1 : (size - 1).toNat < 2 ^ wdt size := (wid_le _ _).1 (Nat.le_refl _)
  have e : ((2 ^ wdt size : Nat) : Int) = 2 ^ wdt size := by simp
  omega
theorem mayB_sy (l : List Int) (size : Int) (h : mayB l size = true) : Sy l (wdt size) ∧ sizeB size = true ∧ ∀ x ∈ l, 0 ≤ x ∧ x < size := by
  rw [mayB_eq, Bool.and_eq_true, List.all_eq_true] at h
  have hx : ∀ x ∈ l, 0 ≤ x ∧ x < size := fun x hx => by have := h.2 x hx; unfold hasB at this; rwa [decide_eq_true_eq] at this
  refine ⟨fun x hxl => ?_, h.1, hx⟩
  have h1 := hx x hxl
  have h2 := wdt_pow size (by omega)
  omega

/-- The key by which New parts the symbols. -/
theorem key_any (sb s : Nat) (x : Int) (u : World) (hs : s ≤ 62) (h : u.cell? ⟨sb, 0, none⟩ = some (.int .i64 (s : Int))) :
    Calls Tryz.prog 75 (#[.int .i64 x] ++ #[.pointer (some ⟨sb, 0, none⟩)]) u fun e u' => e = .returned (.int .i64 (x / 2 ^ s)) ∧ u' = u := by
  have q3 : (0 : Int) ≤ (s : Int) := by omega
  have q5 : ((s : Int)).toNat = s := by omega
  have q6 : min s 64 = s := by omega
  go_enter Tryz.func75, Tryz.ntmps75
  go_wp2
  go_ret
  exact ⟨rfl, rfl⟩

/-- The symbols' order in row k, as a sort by all of the next row's key but its least bit. -/
theorem cur_srt (l : List Int) (W k s : Nat) (hs : s = W - 1 - k) (hk : k < W) (h : Sy l W) : curI l W k = srt (fun x => x / 2 ^ s / 2) l (2 ^ k) := by
  have e : ∀ x : Int, x / 2 ^ s / 2 = x / 2 ^ (s + 1) := fun x => by
    rw [Int.pow_succ, Int.ediv_ediv_of_nonneg (by exact Int.le_of_lt (Int.pow_pos (by decide)))]
  unfold curI
  by_cases h0 : k = 0
  · subst h0
    rw [if_pos rfl, Nat.pow_zero, srt_one]
    intro x hx
    rw [e, show s + 1 = W by omega]
    exact Int.ediv_eq_zero_of_lt (h x hx).1 (h x hx).2
  · rw [if_neg h0, sortI_srt]
    simp only [e]
    rw [show W - k = s + 1 by omega]
theorem cur_pw (l : List Int) (W k s : Nat) (hs : s = W - 1 - k) (hk : k < W) (h : Sy l W) : (curI l W k).Pairwise (fun x y => x / 2 ^ s / 2 ≤ y / 2 ^ s / 2) := by
  rw [cur_srt l W k s hs hk h]; exact srt_pw _ _ _
theorem cur_next (l : List Int) (W k s : Nat) (hs : s = W - 1 - k) (hk : k < W) (h : Sy l W) (O : List Int) (hO : SortOf (fun x => x / 2 ^ s) (curI l W k) O) : O = curI l W (k + 1) := by
  rw [cur_srt l W k s hs hk h] at hO
  have h1 := part_srt (fun x => x / 2 ^ s) l O (2 ^ k) (fun x hx => by
    have hp : (0 : Int) < 2 ^ s := Int.pow_pos (by decide)
    have e : ((2 * 2 ^ k : Nat) : Int) = 2 ^ (k + 1) := by rw [Nat.mul_comm, ← Nat.pow_succ]; simp
    obtain ⟨h1, h2⟩ := h x hx
    refine ⟨Int.ediv_nonneg h1 (by omega), ?_⟩
    rw [e]
    refine Int.ediv_lt_of_lt_mul hp ?_
    rw [← Int.pow_add, show k + 1 + s = W by omega]; exact h2) hO
  rw [h1]
  unfold curI
  rw [if_neg (by omega), sortI_srt, show W - (k + 1) = s by omega, Nat.mul_comm, ← Nat.pow_succ]

/-- How far the loop still goes. -/
def shN (v : Value) (w : World) : Nat := match v with
  | .pointer (some a) => (intOf ((w.cell? a).getD (.int .i64 0)) + 1).toNat
  | _ => 0

/-- What New's loop holds besides: the bit's number, the symbols in the order of the row. -/
structure NC (w : World) (n : Nat) (size : Int) (rv : Value) (Rs : List RP) (ls : List (List Bool)) (sb : Nat) (s : Int) (a0 : Option Addr) (cur : List Int) (u : World) : Prop where
  ni : NI w n size rv Rs ls u
  sh : u.cell? ⟨sb, 0, none⟩ = some (.int .i64 s)
  cur : NumsAt .i64 u a0 cur
  sbl : w.heap.size + 2 ≤ sb
  sbo : rv.ownBlock ≠ some sb
  a0o : ∀ b o, a0 = some ⟨b, o, none⟩ → rv.ownBlock ≠ some b ∧ b ≠ w.heap.size + 1
  a1l : ∀ b o, a0 = some ⟨b, o, none⟩ → b < u.heap.size
theorem NC.kept {w u u' : World} {n : Nat} {size : Int} {rv : Value} {Rs : List RP} {ls : List (List Bool)} {sb : Nat} {s : Int} {a0 : Option Addr} {cur : List Int} (h : NC w n size rv Rs ls sb s a0 cur u) (hb : Below u.heap.size u u') : NC w n size rv Rs ls sb s a0 cur u' :=
  ⟨h.ni.kept hb, by rw [hb.cell (p := ⟨sb, 0, none⟩) (World.block_lt_of_cell? u _ h.sh)]; exact h.sh, h.cur.kept hb, h.sbl, h.sbo, h.a0o, fun b o e => Nat.lt_of_lt_of_le (h.a1l b o e) hb.size⟩
theorem NC.drew {w u : World} {n : Nat} {size : Int} {rv : Value} {Rs : List RP} {ls : List (List Bool)} {sb : Nat} {s : Int} {a0 : Option Addr} {cur : List Int} (h : NC w n size rv Rs ls sb s a0 cur u) : NC w n size rv Rs ls sb s a0 cur u.drew := h.kept ((Below.refl _ _).drew)

set_option maxHeartbeats 1000000 in
theorem wnew_no (a0 : Option Addr) (n cap0 : Nat) (l : List Int) (size : Int) (w : World) (h : NumsAt .i64 w a0 l) (hl : l.length = n) (hn : n ≤ 1000000) (hm : mayB l size = false) :
    Calls Tryz.prog 54 #[.slice a0 n cap0, .int .i64 size] w fun e w' => e = .returned (.tuple #[.agg #[.int .i64 0, .int .i64 0, .slice none 0 0], .int .i64 1]) ∧ Below w.heap.size w w' := by
  have hI := NI.start w n size
  have hX := hI.box
  have hBB := hI.bel
  have hall := fun u (hu : Below w.heap.size w u) => hasAll_any (n : Int) size (.slice none 0 0) a0 n cap0 l u (h.kept hu) hl (by omega)
  have HI := Lib.hid hI
  have HB := Lib.hid hBB
  have HAL := Lib.hid hall
  have HL := Lib.hid (And.intro h hl)
  clear hI hall hBB h
  rw [mayB_eq] at hm
  by_cases hs : sizeB size = true
  · rw [hs, Bool.true_and] at hm
    rw [hm] at HAL
    have HS := Lib.hid hs
    clear hs hm hl
    obtain ⟨x0, x1, x2⟩ := hX
    go_enter Tryz.func54, Tryz.ntmps54
    go_wp2_with fail
    refine (isSize_any size _).mono ?_
    rintro e u ⟨rfl, rfl⟩
    rw [HS.out]
    go_wp2_with fail
    refine (HAL.out _ HB.out).mono ?_
    rintro e u ⟨rfl, hb⟩
    have hI2 := HI.out.kept hb
    obtain ⟨⟨v0, y0⟩, f0⟩ := hI2.res.ex 0 (by omega)
    obtain ⟨⟨v1, y1⟩, f1⟩ := hI2.res.ex 1 (by omega)
    obtain ⟨⟨v2, y2⟩, f2⟩ := hI2.res.ex 2 (by omega)
    have HI2 := Lib.hid hI2
    clear x0 x1 x2 hb hI2
    go_wp2
    refine bodyPost_ret (v := .tuple #[.agg #[.int .i64 0, .int .i64 0, .slice none 0 0], .int .i64 1]) (by simp [results, Tryz.results54, go_sem, y0, y1, y2]) rfl ?_
    exact ⟨rfl, (((HI2.out.bel.setCell (p := ⟨w.heap.size, 0, none⟩) (Nat.le_refl _) _).setCell (p := ⟨w.heap.size, 1, none⟩) (Nat.le_refl _) _).setCell (p := ⟨w.heap.size, 2, none⟩) (Nat.le_refl _) _)⟩
  · have HS : Hid (sizeB size = false) := Lib.hid (by simpa using hs)
    clear hs hl hm
    go_enter Tryz.func54, Tryz.ntmps54
    go_wp2_with fail
    refine (isSize_any size _).mono ?_
    rintro e u ⟨rfl, rfl⟩
    rw [HS.out]
    go_wp2
    refine bodyPost_ret (v := .tuple #[.agg #[.int .i64 0, .int .i64 0, .slice none 0 0], .int .i64 1]) (by simp [results, Tryz.results54, go_sem]) rfl ?_
    exact ⟨rfl, HB.out⟩

set_option maxHeartbeats 4000000 in
theorem wnew_any (a0 : Option Addr) (n cap0 : Nat) (l : List Int) (size : Int) (w : World) (h : NumsAt .i64 w a0 l) (hl : l.length = n) (hn : n ≤ 1000000) (hcap : n ≤ cap0) (hm : mayB l size = true) (ho : ∀ b o, a0 = some ⟨b, o, none⟩ → b < w.heap.size) :
    Calls Tryz.prog 54 #[.slice a0 n cap0, .int .i64 size] w fun e w' => ∃ a cap, e = .returned (.tuple #[.agg #[.int .i64 (n : Int), .int .i64 size, .slice a (wdt size) cap], .int .i64 0]) ∧ WX w' l (wdt size) a ∧ (∀ p, a = some p → w.heap.size ≤ p.block) ∧ Below w.heap.size w w' := by
  have hI := NI.start w n size
  have hX := hI.box
  have hBB := hI.bel
  have hall := fun u (hu : Below w.heap.size w u) => hasAll_any (n : Int) size (.slice none 0 0) a0 n cap0 l u (h.kept hu) hl (by omega)
  obtain ⟨hsy, hsb, hxs⟩ := mayB_sy l size hm
  have hW16 := wdt_le size hsb
  have hsz : 1 ≤ size ∧ size ≤ 65536 := by unfold sizeB at hsb; rwa [decide_eq_true_eq] at hsb
  rw [mayB_eq, hsb, Bool.true_and] at hm
  rw [hm] at hall
  have hwd := fun u => width_any (size - 1) u (by omega)
  have HWD := Lib.hid hwd
  rw [show wid (size - 1).toNat = wdt size from rfl] at HWD
  generalize hW : wdt size = W at *
  have HI := Lib.hid hI
  have HB := Lib.hid hBB
  have HAL := Lib.hid hall
  have HL := Lib.hid (And.intro h (And.intro hl (And.intro hsy ho)))
  have HS := Lib.hid hsb
  clear hI hall hBB h hsb hm hxs hsy hwd hW ho
  have hl2 := hl
  clear hl
  have HLL := Lib.hid hl2
  clear hl2
  obtain ⟨x0, x1, x2⟩ := hX
  go_enter Tryz.func54, Tryz.ntmps54
  go_wp2_with fail
  refine (isSize_any size _).mono ?_
  rintro e u ⟨rfl, rfl⟩
  rw [HS.out]
  go_wp2_with fail
  refine (HAL.out _ HB.out).mono ?_
  rintro e u ⟨rfl, hb⟩
  have HI2 := Lib.hid (HI.out.kept hb)
  clear x0 x1 x2 hb HI HB HAL
  go_wp2_with fail
  refine (HWD.out _).mono ?_
  rintro e u3 ⟨rfl, rfl⟩
  go_wp2
  have hNC0 : NC w n size (.slice none 0 0) [] (rowsI l W 0) u.heap.size ((W : Int) - 1) a0 (curI l W 0) (u.alloc (.cells #[.int .i64 ((W : Int) - 1)] 3)) :=
    ⟨HI2.out.kept ((Below.refl _ _).alloc (Nat.le_refl _) _), by simp, HL.out.1.kept (HI2.out.bel.alloc HI2.out.bel.size _), HI2.out.t1.lt, fun e => by simp [Value.ownBlock] at e, fun b o e => ⟨fun e2 => by simp [Value.ownBlock] at e2, by have := HL.out.2.2.2 b o e; omega⟩, fun b o e => by have := HL.out.2.2.2 b o e; have := HI2.out.bel.size; simp; omega⟩
  have HN0 := Lib.hid hNC0
  clear hNC0 HWD
  go_loopw [0, 7] (fun v0 v7 wr => ∃ (k : Nat) (a1 : Option Addr) (cap1 sb : Nat) (rv : Value) (Rs : List RP), k ≤ W ∧ v0 = .slice a1 n cap1 ∧ n ≤ cap1 ∧ v7 = .pointer (some ⟨sb, 0, none⟩) ∧ NC w n size rv Rs (rowsI l W k) sb ((W : Int) - 1 - (k : Int)) a1 (curI l W k) wr) (fun _ v7 wr => shN v7 wr)
  case atStart => exact ⟨0, a0, cap0, u.heap.size, .slice none 0 0, [], Nat.zero_le _, rfl, hcap, rfl, by simpa using HN0.out⟩
  case round =>
    obtain ⟨k, a1, cap1, sb, rv, Rs, hk, rfl, hcap1, rfl, hC⟩ := hrel
    clear HI2 HN0
    by_cases hlt : k < W
    · obtain ⟨s, hs⟩ : ∃ s : Nat, s = W - 1 - k := ⟨_, rfl⟩
      have hs2 : (W : Int) - 1 - (k : Int) = (s : Int) := by omega
      rw [hs2] at hC
      have hs62 : s ≤ 62 := by omega
      have q1 : (0 : Int) ≤ (s : Int) := by omega
      have c0 := hC.sh
      have HS2 := Lib.hid hs
      clear hs hs2
      have hcl := curI_len l W k hk HL.out.2.2.1
      rw [HLL.out] at hcl
      have hbl : (bitsI (curI l W k) s).length = n := by rw [bitsI_len]; exact hcl
      have hls : (rowsI l W k).length = k := rowsI_len l W k
      have hbits := fun u (hu : NC w n size rv Rs (rowsI l W k) sb (s : Int) a1 (curI l W k) u) => bitsAt_any a1 n cap1 (curI l W k) s u hu.cur hcl hn hs62
      have hmake := fun u g (hu : BoolsAt u (some ⟨g, 0, none⟩) (bitsI (curI l W k) s)) => make_any (some ⟨g, 0, none⟩) n (bitsI (curI l W k) s) u hu (by omega)
      have hrnew := fun u g m c (hu : RowAt u (.slice (some ⟨g, 0, none⟩) m c) (bitsI (curI l W k) s)) => rnew_any (some ⟨g, 0, none⟩) m c (bitsI (curI l W k) s) u hu (by omega)
      rw [hbl] at hmake hrnew
      have HC2 := Lib.hid (And.intro hbits (And.intro hmake (And.intro hrnew (And.intro hcl (And.intro hbl hls)))))
      clear hbits hmake hrnew hcl hbl
      generalize hro : rowsI l W k = ls at *
      generalize hcu : curI l W k = cur at *
      generalize hrow : bitsI cur s = row at *
      have HNM := Lib.hid (And.intro hro (And.intro hcu hrow))
      clear hro hcu hrow
      obtain ⟨i0, hi, hz0, hz1, hz2⟩ := info_parts info35
      subst hls
      have h63 : ls.length + 1 ≤ maxLen := by unfold maxLen; omega
      have h64 : (ls.length + 1) * 80 ≤ 140737488355328 := by omega
      obtain ⟨x0, x1, x2⟩ := hC.ni.box
      have hlt1 := hC.ni.t1.lt
      have hne1 : sb ≠ w.heap.size + 1 := by have := hC.sbl; omega
      go_upto_region 7 with fail
      go_cut [39] from 30 to 38 (fun _ wx => ∃ (g2 cap2 : Nat) (R : RP), NC w n size (.slice (some ⟨g2, 0, none⟩) (ls.length + 1) cap2) (Rs ++ [R]) (ls ++ [row]) sb (s : Int) a1 cur wx)
      case first =>
       go_region_law
          (first
            | (go_simp
               first
                | (go_at_call 73; (with_reducible refine (HC2.out.1 _ hC).mono ?_); rintro e u1 ⟨g1, rfl, hbo, hb⟩; have hC := hC.kept hb; clear x0 x1 x2 hlt1; obtain ⟨x0, x1, x2⟩ := hC.ni.box; have hlt1 := hC.ni.t1.lt)
                | (go_at_call 73; (with_reducible refine (HC2.out.1 _ hC.drew).mono ?_); rintro e u1 ⟨g1, rfl, hbo, hb⟩; have hC := hC.drew.kept hb; clear x0 x1 x2 hlt1; obtain ⟨x0, x1, x2⟩ := hC.ni.box; have hlt1 := hC.ni.t1.lt)
                | (go_at_call 72; (with_reducible refine (HC2.out.2.1 _ _ hbo).mono ?_); rintro e u2 ⟨rfl, hra, hb⟩; have hC := hC.kept hb; clear x0 x1 x2 hlt1; obtain ⟨x0, x1, x2⟩ := hC.ni.box; have hlt1 := hC.ni.t1.lt)
                | (go_at_call 71; (with_reducible refine (HC2.out.2.2.1 _ _ _ _ hra).mono ?_); rintro e u3 ⟨R, rfl, hrk, -, hb⟩; have hC := hC.kept hb; clear x0 x1 x2 hlt1; obtain ⟨x0, x1, x2⟩ := hC.ni.box; have hlt1 := hC.ni.t1.lt))
            | (refine step_append_lies _ (by rfl) _ _ _ (by rfl) w.heap.size 35 i0 _ 6 80 Tryz.underlying26 hi hz0 hz1 hz2 rfl (by omega) rv ls.length (Rs.flatMap rcl) (by rfl) (own_kept hC.ni.orr.own ((Below.refl _ _).alloc (Nat.le_refl _) _)) ⟨u3.heap.size, 0, none⟩ 1 1 (rcl R) (by rfl) (by rfl) (World.news_of_block (cs := #[.int .i64 (R.n : Int), .slice R.a R.m R.c, .int .i64 (R.cn : Int), .int .i64 (R.cW : Int), .int .i64 (R.cL : Int), .slice R.a2 R.m2 R.c2]) (t := 35) (fr := (0, 0)) (heap_alloc_new u3 _)) (by simp [rcl, Value.oneCell']) (by omega) h63 h64 (by have := hC.ni.bel.size; simp; omega) (u3.heap.size + 1) (by simp) ?_
               intro g2 cap2 w1 hown hgrow hat hlt2
               have f1 : w1.cell? ⟨w.heap.size + 1, 2, none⟩ = some rv := by rw [hgrow.cell_far _ (by simp; omega) (fun e => by have := hC.ni.far (w.heap.size + 1) e.symm; omega)]; exact (hC.kept ((Below.refl _ _).alloc (Nat.le_refl _) _)).ni.box.c2
               have f2 : w1.frozen? ⟨w.heap.size + 1, 2, none⟩ = false := by rw [hgrow.frozen_far _ (by simp; omega) (fun e => by have := hC.ni.far (w.heap.size + 1) e.symm; omega)]; exact (hC.kept ((Below.refl _ _).alloc (Nat.le_refl _) _)).ni.bz))
       all_goals
         have hRn : R.n = n := by rw [← hrk.len, HC2.out.2.2.2.2.1]
         obtain ⟨hNI, hKp⟩ := hC.ni.app hrk hRn _ hown hgrow hat
         have hsh2 := hKp.cell (p := ⟨sb, 0, none⟩) (World.block_lt_of_cell? u3 _ hC.sh) (fun e => by
           rcases e with e | e
           · exact hC.sbo e
           · exact hne1 e)
         rw [hC.sh] at hsh2
         have hcu2 := nums_kp hC.cur hKp (fun b o e e2 => by
           rcases e2 with e2 | e2
           · exact (hC.a0o b o e).1 e2
           · exact (hC.a0o b o e).2 e2)
         have hNC2 : NC w n size (.slice (some ⟨g2, 0, none⟩) (ls.length + 1) cap2) (Rs ++ [R]) (ls ++ [row]) sb (s : Int) a1 cur (w1.setCell ⟨w.heap.size + 1, 2, none⟩ (.slice (some ⟨g2, 0, none⟩) (ls.length + 1) cap2)) :=
           ⟨hNI, hsh2, hcu2, hC.sbl, fun e => by
             simp only [Value.ownBlock, Option.some.injEq] at e
             rcases hat with h1 | h1
             · exact hC.sbo (by rw [h1, e])
             · have := World.block_lt_of_cell? u3 _ hC.sh
               simp only at this
               omega, fun b o e => ⟨fun e2 => by
             simp only [Value.ownBlock, Option.some.injEq] at e2
             rcases hat with h1 | h1
             · exact (hC.a0o b o e).1 (by rw [h1, e2])
             · have := hC.a1l b o e
               omega, (hC.a0o b o e).2⟩, fun b o e => Nat.lt_of_lt_of_le (hC.a1l b o e) hKp.size⟩
         have HN2 := Lib.hid hNC2
         clear hNC2 hcu2 hsh2 hNI hKp hRn hown hgrow hat f1 f2 x0 x1 x2
         go_wp2
         go_meet
         exact ⟨g2, cap2, R, HN2.out⟩
      case rest =>
        obtain ⟨g2, cap2, R, hC2⟩ := hcut
        have HSW := Lib.hid c0
        clear hC x0 x1 x2 hlt1 c0
        obtain ⟨e1, e2, e3⟩ := HNM.out
        have hp := parted_any 75 #[.pointer (some ⟨sb, 0, none⟩)] (fun x => x / 2 ^ s) a1 n cap1 cur wc ent75 hC2.cur HC2.out.2.2.2.1 hn hcap1 (by rw [← e2]; exact cur_pw l W ls.length s HS2.out hlt HL.out.2.2.1)
          (fun x _ u hu => key_any sb s x u hs62 (by rw [hu.cell (p := ⟨sb, 0, none⟩) (World.block_lt_of_cell? wc _ hC2.sh)]; exact hC2.sh))
        have HP := Lib.hid hp
        have HC3 := Lib.hid hC2
        clear hp hC2
        go_wp2_with fail
        refine HP.out.mono ?_
        rintro e w3 ⟨v, O, rfl, hO, hown⟩
        have hOn : O = curI l W (ls.length + 1) := cur_next l W ls.length s HS2.out hlt HL.out.2.2.1 O (by rw [e2]; exact hO)
        have hOl : (curI l W (ls.length + 1)).length = n := by rw [curI_len l W (ls.length + 1) hlt HL.out.2.2.1]; exact HLL.out
        rw [hOn] at hown
        have hC3 := HC3.out.kept hown.2
        have c0 := hC3.sh
        obtain ⟨a5, c5, rfl, hn5, hl5, hle5, -, hno5⟩ := nums_of_own hown.1
        have hls2 : ls ++ [row] = rowsI l W (ls.length + 1) := by rw [rowsI_succ, e1, e2, ← HS2.out, e3]
        have hnx : NC w n size (.slice (some ⟨g2, 0, none⟩) (ls.length + 1) cap2) (Rs ++ [R]) (rowsI l W (ls.length + 1)) w3.heap.size ((s : Int) - 1) a5 (curI l W (ls.length + 1)) (w3.alloc (.cells #[.int .i64 ((s : Int) - 1)] 3)) := by
          rw [← hls2]
          have hbe : Below w3.heap.size w3 (w3.alloc (.cells #[.int .i64 ((s : Int) - 1)] 3)) := (Below.refl _ _).alloc (Nat.le_refl _) _
          have hfw : ∀ b o, a5 = some ⟨b, o, none⟩ → wc.heap.size ≤ b ∧ b < w3.heap.size := fun b o e => by
            have hb := World.ownsRow.lt hown.1 b (by subst e; rfl)
            exact hb
          have hown2 := fun g (e : (Value.slice (some ⟨g2, 0, none⟩) (ls.length + 1) cap2).ownBlock = some g) => World.ownsRow.lt HC3.out.ni.orr.own g e
          have ht1 := HC3.out.ni.t1.lt
          refine ⟨hC3.ni.kept hbe, by simp, hn5.kept hbe, ?_, fun e => ?_, fun b o e => ⟨fun e2 => ?_, ?_⟩, fun b o e => ?_⟩
          · have := hown.2.size; omega
          · have := (hown2 _ e).2; have := hown.2.size; omega
          · have := (hown2 _ e2).2; have := (hfw b o e).1; omega
          · have := (hfw b o e).1; omega
          · have := (hfw b o e).2; simp; omega
        have HNX := Lib.hid hnx
        have hln : (curI l W (ls.length + 1)).length ≤ c5 := by rw [← hl5] at hle5; exact hle5
        rw [hOl] at hln ⊢
        clear hnx hO hown hn5 hl5 hle5 hno5 hC3 HP hOn hls2 HC3
        clear hOl
        have HSK := Lib.hid c0
        go_wp2
        go_roundw
        case rel =>
          refine ⟨ls.length + 1, a5, c5, w3.heap.size, .slice (some ⟨g2, 0, none⟩) (ls.length + 1) cap2, Rs ++ [R], hlt, rfl, hln, rfl, ?_⟩
          have e9 : (W : Int) - 1 - ((ls.length + 1 : Nat) : Int) = (s : Int) - 1 := by have := HS2.out; omega
          rw [e9]
          exact HNX.out
        case measure =>
          have h1 : shN (.pointer (some ⟨w3.heap.size, 0, none⟩)) (w3.alloc (.cells #[.int .i64 ((s : Int) - 1)] 3)) = s := by
            unfold shN
            simp [intOf]
          have h2 : shN (.pointer (some ⟨sb, 0, none⟩)) wr = s + 1 := by
            unfold shN
            simp only [HSW.out, Option.getD_some, intOf]
            omega
          simp [h1, h2]
    · obtain rfl : k = W := by omega
      have hm1 : (k : Int) - 1 - (k : Int) = -1 := by omega
      rw [hm1] at hC
      have c0 := hC.sh
      obtain ⟨x0, x1, x2⟩ := hC.ni.box
      obtain ⟨⟨v0, y0⟩, f0⟩ := hC.ni.res.ex 0 (by omega)
      obtain ⟨⟨v1, y1⟩, f1⟩ := hC.ni.res.ex 1 (by omega)
      obtain ⟨⟨v2, y2⟩, f2⟩ := hC.ni.res.ex 2 (by omega)
      have hO := ((hC.ni.orr.set hC.ni.t0 0 (.int .i64 (n : Int))).set (hC.ni.t0.set _ _) 1 (.int .i64 size)).set ((hC.ni.t0.set _ _).set _ _) 2 rv
      have hbl := ((hC.ni.bel.setCell (p := ⟨w.heap.size, 0, none⟩) (Nat.le_refl _) (.int .i64 (n : Int))).setCell (p := ⟨w.heap.size, 1, none⟩) (Nat.le_refl _) (.int .i64 size)).setCell (p := ⟨w.heap.size, 2, none⟩) (Nat.le_refl _) rv
      obtain ⟨a9, c9, e9, hrs⟩ := hO.rs hbl
      have hfar := hC.ni.far
      rw [rowsI_len] at e9 hrs
      subst e9
      have k0 : (((wr.setCell ⟨w.heap.size, 0, none⟩ (.int .i64 (n : Int))).setCell ⟨w.heap.size, 1, none⟩ (.int .i64 size)).setCell ⟨w.heap.size, 2, none⟩ (.slice a9 k c9)).cell? ⟨w.heap.size, 0, none⟩ = some (.int .i64 (n : Int)) := (far_off (by decide)).trans ((far_off (by decide)).trans (World.cell?_setCell_same _ _ _ y0))
      have k1 : (((wr.setCell ⟨w.heap.size, 0, none⟩ (.int .i64 (n : Int))).setCell ⟨w.heap.size, 1, none⟩ (.int .i64 size)).setCell ⟨w.heap.size, 2, none⟩ (.slice a9 k c9)).cell? ⟨w.heap.size, 1, none⟩ = some (.int .i64 size) := (far_off (by decide)).trans (World.cell?_setCell_same _ _ _ ((far_off (by decide)).trans y1))
      have k2 : (((wr.setCell ⟨w.heap.size, 0, none⟩ (.int .i64 (n : Int))).setCell ⟨w.heap.size, 1, none⟩ (.int .i64 size)).setCell ⟨w.heap.size, 2, none⟩ (.slice a9 k c9)).cell? ⟨w.heap.size, 2, none⟩ = some (.slice a9 k c9) := World.cell?_setCell_same _ _ _ ((far_off (by decide)).trans ((far_off (by decide)).trans y2))
      have HK := Lib.hid (And.intro k0 (And.intro k1 (And.intro k2 (And.intro hrs (And.intro hfar hbl)))))
      clear k0 k1 k2 hrs hbl hO hC hfar
      go_wp2
      obtain ⟨k0, k1, k2, hrs, hfar, hbl⟩ := HK.out
      clear HK
      generalize ((wr.setCell ⟨w.heap.size, 0, none⟩ (.int .i64 (n : Int))).setCell ⟨w.heap.size, 1, none⟩ (.int .i64 size)).setCell ⟨w.heap.size, 2, none⟩ (.slice a9 k c9) = U at *
      refine bodyPost_ret (v := .tuple #[.agg #[.int .i64 (n : Int), .int .i64 size, .slice a9 k c9], .int .i64 0]) (by simp [results, Tryz.results54, go_sem, k0, k1, k2]) rfl ?_
      exact ⟨a9, c9, rfl, ⟨by rw [HLL.out]; exact hrs, HL.out.2.2.1, by rw [HLL.out]; exact hn, by omega⟩, fun p e => by have := hfar p.block (by rw [e]; rfl); omega, hbl⟩

end Go.Proofs.YtpnjccomngdblaaGreat
