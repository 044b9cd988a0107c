/- The contract of above. -/
import Derived.Test.YtdepncdknofocaaXK
set_option maxRecDepth 100000
namespace Go.Proofs.Ytdepncdknofocaa
open Go.RowKit
open M
attribute [local go_sem ↓] Go.wp_at_zero Go.wp_at_succ

theorem three_at (u : World) (ca cb cc : Array Value) (ta tb tc : TypeId) :
    (∀ i, (((u.alloc (.cells ca ta)).alloc (.cells cb tb)).alloc (.cells cc tc)).drew.cell? ⟨u.heap.size, i, none⟩ = ca[i]?) ∧
    (∀ i, (((u.alloc (.cells ca ta)).alloc (.cells cb tb)).alloc (.cells cc tc)).drew.cell? ⟨u.heap.size + 1, i, none⟩ = cb[i]?) ∧
    (∀ i, (((u.alloc (.cells ca ta)).alloc (.cells cb tb)).alloc (.cells cc tc)).drew.cell? ⟨u.heap.size + 1 + 1, i, none⟩ = cc[i]?) ∧
    (∀ i, (((u.alloc (.cells ca ta)).alloc (.cells cb tb)).alloc (.cells cc tc)).drew.frozen? ⟨u.heap.size, i, none⟩ = false) ∧
    (∀ i, (((u.alloc (.cells ca ta)).alloc (.cells cb tb)).alloc (.cells cc tc)).drew.frozen? ⟨u.heap.size + 1, i, none⟩ = false) ∧
    (∀ i, (((u.alloc (.cells ca ta)).alloc (.cells cb tb)).alloc (.cells cc tc)).drew.frozen? ⟨u.heap.size + 1 + 1, i, none⟩ = false) ∧
    (((u.alloc (.cells ca ta)).alloc (.cells cb tb)).alloc (.cells cc tc)).drew.heap.size = u.heap.size + 3 ∧
    Below u.heap.size u (((u.alloc (.cells ca ta)).alloc (.cells cb tb)).alloc (.cells cc tc)).drew := by
  have s1 : (u.alloc (.cells ca ta)).heap.size = u.heap.size + 1 := World.size_alloc _ _
  have s2 : ((u.alloc (.cells ca ta)).alloc (.cells cb tb)).heap.size = u.heap.size + 1 + 1 := by rw [World.size_alloc, s1]
  refine ⟨fun i => ?_, fun i => ?_, fun i => ?_, fun i => ?_, fun i => ?_, fun i => ?_, ?_, ?_⟩
  · show (((u.alloc (.cells ca ta)).alloc (.cells cb tb)).alloc (.cells cc tc)).cell? _ = _
    rw [cell_old _ _ _ _ (by omega), cell_old _ _ _ _ (by omega), cell_new _ _ _ _ _ rfl]
  · show (((u.alloc (.cells ca ta)).alloc (.cells cb tb)).alloc (.cells cc tc)).cell? _ = _
    rw [cell_old _ _ _ _ (by omega), cell_new _ _ _ _ _ s1.symm]
  · show (((u.alloc (.cells ca ta)).alloc (.cells cb tb)).alloc (.cells cc tc)).cell? _ = _
    rw [cell_new _ _ _ _ _ s2.symm]
  · show (((u.alloc (.cells ca ta)).alloc (.cells cb tb)).alloc (.cells cc tc)).frozen? _ = _
    rw [frozen_old _ _ _ _ (by omega), frozen_old _ _ _ _ (by omega), frozen_new _ _ _ _ _ rfl]
  · show (((u.alloc (.cells ca ta)).alloc (.cells cb tb)).alloc (.cells cc tc)).frozen? _ = _
    rw [frozen_old _ _ _ _ (by omega), frozen_new _ _ _ _ _ s1.symm]
  · show (((u.alloc (.cells ca ta)).alloc (.cells cb tb)).alloc (.cells cc tc)).frozen? _ = _
    rw [frozen_new _ _ _ _ _ s2.symm]
  · show (((u.alloc (.cells ca ta)).alloc (.cells cb tb)).alloc (.cells cc tc)).heap.size = _
    rw [World.size_alloc, s2]
  · exact ((((Below.refl _ _).alloc (Nat.le_refl _) _).alloc (by omega) _).alloc (by omega) _).drew
theorem DI.of {w W : World} {b m : Nat} (hc : ∀ i, W.cell? ⟨b, i, none⟩ = (madeCells #[Value.int .i64 0] m)[i]?) (hz : ∀ i, W.frozen? ⟨b, i, none⟩ = false) (lo : w.heap.size ≤ b) (hi : b < W.heap.size) (hb : Below w.heap.size w W) : DI w b m (fun _ => 0) W := by
  refine ⟨fun i h => ?_, fun i _ => hz i, lo, hi, hb⟩
  rw [hc]
  have := madeInt m i h
  rwa [Array.getElem?_toList] at this

set_option maxHeartbeats 4000000 in
theorem above_any (R I : Option Addr) (n c ci : Nat) (row three inn : List Int) (w : World) (hR : NumsAt .i64 w R row) (hlr : row.length = n) (hI : NumsAt .i64 w I inn) (hli : inn.length = smpN n) (hn : n ≤ 1000000) (h2 : 2 ≤ n) (hr : Rk row) (hB : Bel row three) (hS : SA (-1) three inn) :
    Calls Try.prog 32 #[.slice R n c, .slice I (smpN n) ci] w fun e u => ∃ A ca O, e = .returned (.slice A n ca) ∧ NumsAt .i64 u A O ∧ n ≤ ca ∧ Below w.heap.size w u ∧ SA (-1) row O ∧ Frs w.heap.size A := by
  have hmn := smpN_le n
  have hR0 := KX.new w R n c row hR hlr
  obtain ⟨br, hbr⟩ : ∃ br, br = w.heap.size := ⟨_, rfl⟩
  obtain ⟨w0, hw0⟩ : ∃ w0, w0 = w.alloc (.cells #[.slice R n c] 22) := ⟨_, rfl⟩
  have hs0 : w0.heap.size = br + 1 := by rw [hw0, hbr]; simp
  rw [← hw0, ← hbr] at hR0
  obtain ⟨w1, hw1⟩ : ∃ w1, w1 = w0.alloc (.cells #[.int .i64 (n : Int)] 3) := ⟨_, rfl⟩
  have hR1 := hR0.kept (al w0 (.cells #[.int .i64 (n : Int)] 3))
  have c1 : w1.cell? ⟨br + 1, 0, none⟩ = some (.int .i64 (n : Int)) := by rw [hw1, cell_new _ _ _ _ _ hs0.symm]; rfl
  rw [← hw1] at hR1
  have hsm : Calls Try.prog 40 #[.int .i64 (n : Int)] w1 fun e u => ∃ v, e = .returned v ∧ OwnI w1 v (smp n) u := sample_any n w1 hn
  have HX := Lib.hid (And.intro hR1 (And.intro c1 (And.intro hsm (And.intro hI (And.intro hli (And.intro hr (And.intro hB hS)))))))
  clear hR hlr hI hli hr hB hS hR0 hR1 hsm
  go_enter Try.func32, Try.ntmps32
  go_upto_region 2 with fail
  rw [← hw0, ← hw1, ← hbr]
  clear hw0 hbr hs0 hw1
  go_wp2_with fail
  (with_reducible refine HX.out.2.2.1.mono ?_)
  rintro e u1 ⟨v, rfl, hI1⟩
  obtain ⟨P, cP, rfl, hP, hPl, -, -, -⟩ := nums_of_own hI1.1
  rw [smp_len, show thC n 1 + thC n 2 = smpN n from rfl]
  obtain ⟨m, hmm⟩ : ∃ m, m = smpN n := ⟨_, rfl⟩
  rw [← hmm] at hmn ⊢
  have hRu := HX.out.1.kept hI1.2
  have cu : u1.cell? ⟨br + 1, 0, none⟩ = some (.int .i64 (n : Int)) := by rw [hI1.2.cell (p := ⟨br + 1, 0, none⟩) (World.block_lt_of_cell? w1 _ HX.out.2.1)]; exact HX.out.2.1
  have HP := Lib.hid (And.intro hRu (And.intro cu (And.intro hP hmm)))
  obtain ⟨i0, hi, hz0, hz1, hz2⟩ := info_parts info3
  have hmk : ∀ (m : Nat), m ≤ 1000000 → ∀ u : World, (Instr.makeSlice 22 (.int .i64 (m : Int)) (.int .i64 (m : Int))).run Try.prog u = .ok (.slice (some ⟨u.heap.size, 0, none⟩) m m) (u.alloc (.cells (madeCells (Value.int .i64 0).cells (m * 1)) 3)) := fun m hm u => by
    have := run_make (P := Try.prog) u 22 3 i0 (.int .i64 0) Try.underlying22 hi hz0 .i64 .i64 (m : Int) (m : Int) (by omega) (Int.le_refl _) (by rw [hz2]; omega) (by omega)
    rw [hz1] at this
    simpa using this
  have hmk1 := hmk m (by omega)
  have hmk2 := hmk n hn
  clear hi hz0 hz1 hz2 hmk hI1 hP hPl hRu hmm c1
  have hul := World.block_lt_of_cell? u1 _ cu
  have ca : ∀ o, (u1.alloc o).cell? ⟨br + 1, 0, none⟩ = some (.int .i64 (n : Int)) := fun o => by rw [cell_old _ _ _ _ hul]; exact cu
  have cb : ∀ o o', ((u1.alloc o).alloc o').cell? ⟨br + 1, 0, none⟩ = some (.int .i64 (n : Int)) := fun o o' => by rw [cell_old _ _ _ _ (by rw [World.size_alloc]; exact Nat.lt_succ_of_lt hul)]; exact ca o
  go_upto_region 3 with fail
  go_cut [7, 8] from 16 to 20 (fun v7 v8 wx => ∃ D1 D2 bk, v7 = .slice (some ⟨D1, 0, none⟩) m m ∧ v8 = .pointer (some ⟨bk, 0, none⟩) ∧ wx.cell? ⟨bk, 0, none⟩ = some (.slice (some ⟨D2, 0, none⟩) n n) ∧ D1 ≠ bk ∧ D2 ≠ bk ∧ bk < wx.heap.size ∧ u1.heap.size ≤ bk ∧ DD u1 D1 D2 m n (fun _ => 0) (fun _ => 0) wx)
  case first =>
    go_region
    all_goals go_wp2
    all_goals go_meet
    all_goals
      first
        | (obtain ⟨h0, h1, h2, z0, z1, z2, hsz, hbl⟩ := three_at u1 (madeCells #[Value.int .i64 0] m) (madeCells #[Value.int .i64 0] n) #[Value.slice (some ⟨u1.heap.size + 1, 0, none⟩) n n] 3 3 22
           exact ⟨_, u1.heap.size + 1, _, rfl, rfl, by rw [h2]; rfl, by omega, by omega, by omega, by omega, ⟨DI.of h0 z0 (by omega) (by omega) hbl, DI.of h1 z1 (by omega) (by omega) hbl, by omega⟩⟩)
        | (obtain ⟨h0, h1, h2, z0, z1, z2, hsz, hbl⟩ := three_at u1 (madeCells #[Value.int .i64 0] m) #[Value.slice (some ⟨u1.heap.size + 1 + 1, 0, none⟩) n n] (madeCells #[Value.int .i64 0] n) 3 22 3
           exact ⟨_, u1.heap.size + 1 + 1, _, rfl, rfl, by rw [h1]; rfl, by omega, by omega, by omega, by omega, ⟨DI.of h0 z0 (by omega) (by omega) hbl, DI.of h2 z2 (by omega) (by omega) hbl, by omega⟩⟩)
        | (obtain ⟨h0, h1, h2, z0, z1, z2, hsz, hbl⟩ := three_at u1 (madeCells #[Value.int .i64 0] n) (madeCells #[Value.int .i64 0] m) #[Value.slice (some ⟨u1.heap.size, 0, none⟩) n n] 3 3 22
           exact ⟨_, u1.heap.size, _, rfl, rfl, by rw [h2]; rfl, by omega, by omega, by omega, by omega, ⟨DI.of h1 z1 (by omega) (by omega) hbl, DI.of h0 z0 (by omega) (by omega) hbl, by omega⟩⟩)
        | (obtain ⟨h0, h1, h2, z0, z1, z2, hsz, hbl⟩ := three_at u1 (madeCells #[Value.int .i64 0] n) #[Value.slice (some ⟨u1.heap.size, 0, none⟩) n n] (madeCells #[Value.int .i64 0] m) 3 22 3
           exact ⟨_, u1.heap.size, _, rfl, rfl, by rw [h1]; rfl, by omega, by omega, by omega, by omega, ⟨DI.of h2 z2 (by omega) (by omega) hbl, DI.of h0 z0 (by omega) (by omega) hbl, by omega⟩⟩)
        | (obtain ⟨h0, h1, h2, z0, z1, z2, hsz, hbl⟩ := three_at u1 #[Value.slice (some ⟨u1.heap.size + 1 + 1, 0, none⟩) n n] (madeCells #[Value.int .i64 0] m) (madeCells #[Value.int .i64 0] n) 22 3 3
           exact ⟨_, u1.heap.size + 1 + 1, _, rfl, rfl, by rw [h0]; rfl, by omega, by omega, by omega, by omega, ⟨DI.of h1 z1 (by omega) (by omega) hbl, DI.of h2 z2 (by omega) (by omega) hbl, by omega⟩⟩)
        | (obtain ⟨h0, h1, h2, z0, z1, z2, hsz, hbl⟩ := three_at u1 #[Value.slice (some ⟨u1.heap.size + 1, 0, none⟩) n n] (madeCells #[Value.int .i64 0] n) (madeCells #[Value.int .i64 0] m) 22 3 3
           exact ⟨_, u1.heap.size + 1, _, rfl, rfl, by rw [h0]; rfl, by omega, by omega, by omega, by omega, ⟨DI.of h2 z2 (by omega) (by omega) hbl, DI.of h1 z1 (by omega) (by omega) hbl, by omega⟩⟩)
  case rest =>
    obtain ⟨D1, D2, bk, rfl, rfl, ck0, hne1, hne2, hbk, hbk1, hDD⟩ := hcut
    have HD := Lib.hid (And.intro hDD ck0)
    clear hDD ck0 ca cb cu hmk1 hmk2 hul
    go_wp2
    go_loopw [9, 10, 23] (fun _ _ v23 wr => ∃ (k : Nat) (d2 : Nat → Int), k ≤ m ∧ v23 = .int .i64 (k : Int) ∧ DD u1 D1 D2 m n (fun i => if i < k then ((plN n (inn.getD i 0).toNat : Nat) : Int) else 0) d2 wr ∧ wr.cell? ⟨bk, 0, none⟩ = some (.slice (some ⟨D2, 0, none⟩) n n) ∧ (∀ j : Nat, j < k → d2 (plN n (inn.getD j 0).toNat) = (j : Int)) ∧ ∀ p, 0 ≤ d2 p ∧ d2 p ≤ m) (fun _ _ v23 _ => m - (intOf v23).toNat)
    case atStart => exact ⟨0, fun _ => 0, Nat.zero_le _, rfl, ⟨HD.out.1.a.congr fun i _ => by simp, HD.out.1.b, HD.out.1.ne⟩, HD.out.2, fun j hj => by omega, fun p => by show (0 : Int) ≤ 0 ∧ (0 : Int) ≤ (m : Int); omega⟩
    case round =>
      obtain ⟨k, d2, hk, rfl, hDr, ckr, hd2, hdb⟩ := hrel
      clear HD
      have hS := HX.out.2.2.2.2.2.2.2
      have hBl := HX.out.2.2.2.2.2.2.1
      have hlen : three.length = m := by rw [hBl.len, HX.out.1.len]; exact HP.out.2.2.2.symm
      have hwb := HP.out.1.bel.trans (hDr.a.bel.mono HP.out.1.bel.size)
      by_cases hlt : k < m
      · obtain ⟨ib, io, hIe, -, ci0⟩ := num_at (HX.out.2.2.2.1.kept hwb) (i := k) (by rw [HX.out.2.2.2.2.1, ← HP.out.2.2.2]; exact hlt)
        obtain ⟨i, hi, him⟩ := hS.pl (i := k) (by rw [hlen]; exact hlt)
        rw [hi] at ci0
        have hi2 : (inn.getD k 0).toNat = i := by rw [hi]; rfl
        rw [hlen] at him
        have hplt := plN_lt n i (by rw [HP.out.2.2.2] at him; exact him)
        obtain ⟨pb, po, hPe, hpl, cp0⟩ := num_at HP.out.2.2.1 (i := i) (by rw [smp_len]; rw [HP.out.2.2.2] at him; exact him)
        rw [smp_at n i (by rw [HP.out.2.2.2] at him; exact him)] at cp0
        have hinj : ∀ j : Nat, j < k → plN n (inn.getD j 0).toNat ≠ plN n i := fun j hj e => by
          obtain ⟨i', hi', him'⟩ := hS.pl (i := j) (by rw [hlen]; omega)
          rw [hi', Int.toNat_natCast] at e
          rw [hlen] at him'
          have := plN_inj n i' i (by rw [HP.out.2.2.2] at him'; exact him') (by rw [HP.out.2.2.2] at him; exact him) e
          subst this
          have := hS.inj (by rw [hlen]; omega) (by rw [hlen]; exact hlt) (hi'.trans hi.symm)
          omega
        obtain ⟨p, hp⟩ : ∃ p, plN n i = p := ⟨_, rfl⟩
        rw [hp] at cp0 hplt hinj
        have cp1 : wr.cell? ⟨pb, po + i, none⟩ = some (.int .i64 (p : Int)) := by rw [hDr.a.bel.cell (p := ⟨pb, po + i, none⟩) hpl]; exact cp0
        have d1 := hDr.a.cell k hlt
        have z1 := hDr.a.frz k hlt
        obtain ⟨W1, hW1⟩ : ∃ W1, W1 = wr.setCell ⟨D1, k, none⟩ (.int .i64 (p : Int)) := ⟨_, rfl⟩
        have hA1 := hDr.a.set hlt (p : Int)
        have hB1 := hDr.b.other (p := ⟨D1, k, none⟩) hDr.a.lo hDr.ne (.int .i64 (p : Int))
        have ck1 : W1.cell? ⟨bk, 0, none⟩ = some (.slice (some ⟨D2, 0, none⟩) n n) := by rw [hW1, World.cell?_setCell_other _ _ _ _ (ne_addr hne1)]; exact ckr
        rw [← hW1] at hA1 hB1
        have cp2 : W1.cell? ⟨pb, po + i, none⟩ = some (.int .i64 (p : Int)) := by rw [hA1.bel.cell (p := ⟨pb, po + i, none⟩) hpl]; exact cp0
        have d3 := hB1.cell p hplt
        have z3 := hB1.frz p hplt
        have hA2 := (hA1.other (p := ⟨D2, p, none⟩) hB1.lo (fun e => hDr.ne e.symm) (.int .i64 (k : Int))).kept ((Below.refl _ _).drew)
        have hB2 := (hB1.set hplt (k : Int)).kept ((Below.refl _ _).drew)
        have ck2 : (W1.setCell ⟨D2, p, none⟩ (.int .i64 (k : Int))).drew.cell? ⟨bk, 0, none⟩ = some (.slice (some ⟨D2, 0, none⟩) n n) := by
          show (W1.setCell ⟨D2, p, none⟩ (.int .i64 (k : Int))).cell? _ = _
          rw [World.cell?_setCell_other _ _ _ _ (ne_addr hne2)]; exact ck1
        have HS := Lib.hid (And.intro hA2 (And.intro hB2 (And.intro ck2 (And.intro hd2 (And.intro hdb (And.intro hinj (And.intro hi2 (And.intro hp hDr.ne))))))))
        subst hIe hPe
        clear hA1 hB1 hA2 hB2 ck2 hd2 hdb hinj hi2 hp hDr hS hBl hlen hwb ckr cp0 hi
        have q1 : (k : Int) < (m : Int) := by omega
        have q2 : (0 : Int) ≤ (k : Int) := by omega
        have q3 : (i : Int) < (m : Int) := by omega
        have q4 : (0 : Int) ≤ (i : Int) := by omega
        have q5 : (p : Int) < (n : Int) := by omega
        have q6 : (0 : Int) ≤ (p : Int) := by omega
        go_upto_region 8 with fail
        rw [← hW1]
        clear hW1 d1 z1 cp1
        go_region
        all_goals
          go_wp2
          go_roundw
          case rel =>
            obtain ⟨hA2, hB2, ck2, hd2, hdb, hinj, hi2, hp, hne⟩ := HS.out
            refine ⟨k + 1, _, by omega, by go_num, ⟨hA2.congr fun j hj => ?_, hB2, hne⟩, ck2, fun j hj => ?_, fun q => ?_⟩
            · by_cases e : j = k
              · rw [if_pos e, if_pos (by omega), e, hi2, hp]
              · rw [if_neg e]
                by_cases e2 : j < k
                · rw [if_pos e2, if_pos (by omega)]
                · rw [if_neg e2, if_neg (by omega)]
            · by_cases e : j = k
              · rw [e, hi2, hp, if_pos rfl]
              · rw [if_neg (hinj j (by omega))]
                exact hd2 j (by omega)
            · by_cases e : q = p
              · rw [if_pos e]; omega
              · rw [if_neg e]; exact hdb q
          case measure => simp [intOf]; omega
      · obtain rfl : k = m := by omega
        obtain ⟨m, rfl⟩ : ∃ m, m = k := ⟨_, rfl⟩
        have hr := HX.out.2.2.2.2.2.1
        have hln := HX.out.1.len
        have hn2 : 2 ≤ row.length := by omega
        -- the sample in order, and its ranks
        obtain ⟨fst, hfst⟩ : ∃ fst, fst = (List.range m).map fun j => ((plN n (inn.getD j 0).toNat : Nat) : Int) := ⟨_, rfl⟩
        obtain ⟨rks, hrks⟩ : ∃ rks, rks = (List.range n).map d2 := ⟨_, rfl⟩
        have hfl : fst.length = m := by rw [hfst]; simp
        have hrl : rks.length = n := by rw [hrks]; simp
        have hfa : ∀ j, j < m → fst.getD j 0 = ((plN n (inn.getD j 0).toNat : Nat) : Int) := fun j hj => by rw [hfst]; simp [List.getD_eq_getElem?_getD, hj]
        have hra : ∀ q, q < n → rks.getD q 0 = d2 q := fun q hq => by rw [hrks]; simp [List.getD_eq_getElem?_getD, hq]
        have hfn := hDr.a.nums hfl (fun j hj => by rw [if_pos hj, hfa j hj])
        have hrn := hDr.b.nums hrl (fun q hq => (hra q hq).symm)
        have hin : ∀ p, p < n → (n - p) % 3 ≠ 0 → ∃ a i, a < m ∧ inn.getD a 0 = ((i : Nat) : Int) ∧ i < m ∧ plN n i = p ∧ rks.getD p 0 = (a : Int) := fun p hp h3 => by
          obtain ⟨i, hi, he⟩ := plN_has n p hp h3
          have him : i < m := by rw [HP.out.2.2.2]; exact hi
          obtain ⟨a, ha, hae⟩ := hS.has i (by rw [hlen]; exact him)
          rw [hlen] at ha
          refine ⟨a, i, ha, hae, him, he, ?_⟩
          have := hd2 a ha
          rw [hae, Int.toNat_natCast, he] at this
          rw [hra p hp, this]
        have hRS : RkS row rks n := by
          intro p q hp hq hp3 hq3
          obtain ⟨a, i, ha, hae, him, hpe, hre⟩ := hin p hp hp3
          obtain ⟨b, j, hb, hbe, hjm, hqe, hse⟩ := hin q hq hq3
          rw [hre, hse, ← hpe, ← hqe]
          have h1 := hBl.iff hr hn2 (i := i) (j := j) (by rw [hlen]; exact him) (by rw [hlen]; exact hjm)
          rw [hln] at h1
          rw [← h1, ← hS.iff (by rw [hlen]; exact ha) (by rw [hlen]; exact hb) hae hbe]
          omega
        have hr64 : I64s rks := fun x hx => by
          rw [hrks] at hx
          obtain ⟨q, -, rfl⟩ := List.mem_map.1 hx
          have := hdb q
          omega
        have hRr := HP.out.1.kept hDr.a.bel
        have hcl : CL w (br + 1) br bk R n c row (some ⟨D2, 0, none⟩) n rks wr := ⟨by rw [hDr.a.bel.cell (p := ⟨br + 1, 0, none⟩) (World.block_lt_of_cell? u1 _ HP.out.2.1)]; exact HP.out.2.1, hRr, ⟨ckr, hrn, hrl, hwb⟩⟩
        have hot := others_any R (some ⟨D2, 0, none⟩) n c n row rks wr hRr.nums hln hrn hrl hn hr hr64 hRS
        have hfm : ∀ x ∈ fst, ∃ p : Nat, x = (p : Int) ∧ p < n ∧ (n - p) % 3 ≠ 0 := fun x hx => by
          rw [hfst] at hx
          obtain ⟨j, hj, rfl⟩ := List.mem_map.1 hx
          obtain ⟨i, hi, him⟩ := hS.pl (i := j) (by rw [hlen]; exact List.mem_range.1 hj)
          rw [hlen] at him
          have him' : i < thC n 1 + thC n 2 := by rw [HP.out.2.2.2] at him; exact him
          refine ⟨_, rfl, ?_, ?_⟩
          · rw [hi, Int.toNat_natCast]; exact plN_lt n i him'
          · rw [hi, Int.toNat_natCast]
            by_cases e : i < thC n 1
            · rw [plN_first n i e]; omega
            · rw [plN_second n i e him']; omega
        have hfp : fst.Pairwise (fun x y => sl (-1) row x.toNat y.toNat) := by
          rw [List.pairwise_iff_getElem]
          intro a b ha hb hab
          rw [hfl] at ha hb
          have e1 := hfa a ha
          have e2 := hfa b hb
          obtain ⟨i, hi, him⟩ := hS.pl (i := a) (by rw [hlen]; exact ha)
          obtain ⟨j, hj, hjm⟩ := hS.pl (i := b) (by rw [hlen]; exact hb)
          rw [hi, Int.toNat_natCast] at e1
          rw [hj, Int.toNat_natCast] at e2
          simp only [List.getD_eq_getElem?_getD, List.getElem?_eq_getElem (show a < fst.length by omega), List.getElem?_eq_getElem (show b < fst.length by omega), Option.getD_some] at e1 e2
          rw [e1, e2, Int.toNat_natCast, Int.toNat_natCast]
          have h1 := hBl.iff hr hn2 him hjm
          rw [hln] at h1
          rw [← h1]
          exact (hS.iff (by rw [hlen]; exact ha) (by rw [hlen]; exact hb) hi hj).1 hab
        have HQ := Lib.hid (And.intro hot (And.intro hcl (And.intro hfn (And.intro hfl (And.intro hfm (And.intro hfp (And.intro hRS (And.intro hr hln))))))))
        have cR := hRr.c0
        have q2 : ¬ (m : Int) < (m : Int) := by omega
        clear hot hcl hfn hfl hfm hfp hRS hr hln hn2 hrn hrl hfa hra hin hr64 hRr hfst hrks hDr hd2 hdb hS hBl hlen hwb
        go_wp2_with fail
        (with_reducible refine HQ.out.1.mono ?_)
        rintro e u2 ⟨D, L, rfl, hLn, hLl, hb2, hLp, hLm⟩
        have hcl2 := HQ.out.2.1.kept hb2
        have hfn2 := HQ.out.2.2.1.kept hb2
        have hLq : ∀ y ∈ L, ∃ q : Nat, y = (q : Int) ∧ q < n ∧ (n - q) % 3 = 0 := fun y hy => by
          obtain ⟨i, hi, rfl⟩ := (hLm y).1 hy
          obtain ⟨o1, o2, o3⟩ := oth_rest n i hi
          exact ⟨_, rfl, by omega, o2⟩
        have hLC : LessC u2 (.pointer (some ⟨br + 1, 0, none⟩)) (.pointer (some ⟨br, 0, none⟩)) (.pointer (some ⟨bk, 0, none⟩)) fst L (ltS row) := by
          intro u hu x hx y hy
          obtain ⟨p, rfl, hp, hp3⟩ := HQ.out.2.2.2.2.1 x hx
          obtain ⟨q, rfl, hq, hq3⟩ := hLq y hy
          exact lessc_any (br + 1) br bk R n c row (some ⟨D2, 0, none⟩) n rks w u (hcl2.kept hu) hn HQ.out.2.2.2.2.2.2.2.1 HQ.out.2.2.2.2.2.2.1 p q hp hp3 hq hq3
        have hmg := merged_any (some ⟨D1, 0, none⟩) (some ⟨D, 0, none⟩) m m (thC n 0) (thC n 0) fst L _ _ _ (ltS row) u2 hfn2 hLn HQ.out.2.2.2.1 hLl (Nat.le_refl _) (fun h => by cases h) (by omega) (by have := thC_le n 0; omega) hLC
        have HM := Lib.hid (And.intro hmg (And.intro hcl2.r.bel (And.intro hLq (And.intro hLp hLl))))
        clear hmg hcl2 hfn2 hLC hLq hLp hLl hLn hLm hb2 cR
        go_wp2_with fail
        (with_reducible refine HM.out.1.mono ?_)
        rintro e u3 ⟨v, rfl, hO⟩
        have HO := Lib.hid hO
        clear hO
        go_wp2
        go_ret
        obtain ⟨-, -, -, hfl, hfm, hfp, -, hr, hln⟩ := HQ.out
        obtain ⟨-, hwb, hLq, hLp, hLl⟩ := HM.out
        obtain ⟨A, ca, hve, hAn, hAl, hnc, -, -⟩ := nums_of_own HO.out.1
        have hml : (mrg (ltS row) fst L).length = n := by
          have := th_sums n
          have := HP.out.2.2.2
          unfold smpN at this
          rw [mrg_len, hfl, hLl]; omega
        rw [hml] at hve hnc
        refine ⟨A, ca, mrg (ltS row) fst L, by rw [hve]; rfl, hAn, hnc, hwb.trans (HO.out.2.mono hwb.size), ⟨by rw [hml, hln], fun x hx => ?_, ?_⟩, fun a ha => by have h1 := (HO.out.1.lt a.block (by rw [hve, ha]; rfl)).1; have h2 := hwb.size; omega⟩
        · rcases List.mem_append.1 ((mrg_perm _ _ _).mem_iff.1 hx) with h | h
          · obtain ⟨p, rfl, hp, -⟩ := hfm x h; omega
          · obtain ⟨q, rfl, hq, -⟩ := hLq x h; omega
        · refine mrg_pw (R := fun x y => sl (-1) row x.toNat y.toNat) (fun x y z h1 h2 => lx.trans h1 h2) L fst (fun a ha q hq => ?_) hfp hLp
          obtain ⟨p, rfl, hp, hp3⟩ := hfm a ha
          obtain ⟨q, rfl, hq, hq3⟩ := hLq q hq
          rw [Int.toNat_natCast, Int.toNat_natCast]
          refine ⟨fun h => (ltS_iff hr p q).1 h, fun h => ?_⟩
          have hne : p ≠ q := by rintro rfl; omega
          rcases sl_total hr.abv (p := p) (q := q) (by omega) (by omega) hne with h1 | h1
          · rw [(ltS_iff hr p q).2 h1] at h; cases h
          · exact h1

end Go.Proofs.Ytdepncdknofocaa
