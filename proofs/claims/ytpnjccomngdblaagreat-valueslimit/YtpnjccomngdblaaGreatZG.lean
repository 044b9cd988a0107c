/- The contract of Find. -/
import Derived.Test.YtpnjccomngdblaaGreatZS
set_option maxRecDepth 100000
namespace Go.Proofs.YtpnjccomngdblaaGreat
open Go.RowKit
open M
attribute [local go_sem ↓] Go.wp_at_zero Go.wp_at_succ

variable {w u : World} {b : Nat} {F : FQ} {l : List Int} {size : Nat}

/-- Where p stands, rising; what is told of the places from f on, so many. -/
def fndL (l p : List Int) : List Int := ((List.range (l.length + 1)).filter (stB l p)).map Int.ofNat
def fndN (l : List Int) (f d : Nat) : List Int := (List.range d).map fun i => (plA l (f + i) : Int)
theorem fndN_len (l : List Int) (f d : Nat) : (fndN l f d).length = d := by simp [fndN]
theorem fndN_succ (l : List Int) (f d : Nat) : fndN l f (d + 1) = fndN l f d ++ [(plA l (f + d) : Int)] := by simp [fndN, List.range_succ]
theorem fnd_mem (h : I64s l) (hn : Nn l) (p : List Int) (x : Int) : x ∈ fndN l (frN l false p) (frN l true p - frN l false p) ↔ x ∈ fndL l p := by
  have hle := frN_le l true p
  unfold fndN fndL
  simp only [List.mem_map, List.mem_range, List.mem_filter]
  constructor
  · rintro ⟨i, hi, rfl⟩
    have ha := (allA_at h hn (j := frN l false p + i) (by omega)).2
    refine ⟨plA l (frN l false p + i), ⟨by omega, ?_⟩, rfl⟩
    rw [st_iff h hn p ha, plR_plA h hn (by omega)]
    omega
  · rintro ⟨q, ⟨hq, hs⟩, rfl⟩
    rw [st_iff h hn p (by omega)] at hs
    obtain ⟨h1, h2⟩ := plR_ok h hn (p := q) (by omega)
    refine ⟨plR l q - frN l false p, by omega, ?_⟩
    rw [show frN l false p + (plR l q - frN l false p) = plR l q by omega, h2]
    rfl
theorem fndN_nd (h : I64s l) (hn : Nn l) (f d : Nat) (hd : f + d ≤ l.length + 1) : (fndN l f d).Nodup := by
  unfold fndN
  rw [List.Nodup, List.pairwise_map]
  refine List.Pairwise.imp_of_mem (fun {i j} hi hj hij => ?_) List.pairwise_lt_range
  have hi := List.mem_range.1 hi
  have hj := List.mem_range.1 hj
  intro e
  have := plA_inj h hn (i := f + i) (j := f + j) (by omega) (by omega) (by omega)
  omega
theorem fndL_pw (l p : List Int) : (fndL l p).Pairwise (· < ·) := by
  unfold fndL
  rw [List.pairwise_map]
  refine (List.Pairwise.filter _ List.pairwise_lt_range).imp fun {i j} hij => ?_
  show (i : Int) < (j : Int)
  omega
theorem fnd_sort (h : I64s l) (hn : Nn l) (p : List Int) : srtI (fndN l (frN l false p) (frN l true p - frN l false p)) = fndL l p := by
  have hle := frN_le l true p
  have hmo := frN_mono l p
  refine pw_uniq (R := (· < ·)) (fun x hx => by omega) (fun x y h1 h2 => by omega) ?_ (fndL_pw l p) (fun x => by rw [srtI_mem, fnd_mem h hn])
  have hnd : (srtI (fndN l (frN l false p) (frN l true p - frN l false p))).Nodup := (List.mergeSort_perm _ _).nodup_iff.2 (fndN_nd h hn _ _ (by omega))
  exact (List.Pairwise.and (srtI_pw _) hnd).imp fun {x y} hh => by
    have h1 : x ≤ y := hh.1
    have h2 : x ≠ y := hh.2
    omega
theorem fndL_len (h : I64s l) (hn : Nn l) (p : List Int) : (fndL l p).length = frN l true p - frN l false p := by
  rw [← fnd_sort h hn p, srtI_len, fndN_len]

set_option maxHeartbeats 4000000 in
theorem find_own (h : FMI u F l size) (A : Option Addr) (np cp : Nat) (p : List Int) (hP : NumsAt .i64 u A p) (hp : p.length = np) (hnp : np ≤ 1000000) :
    Calls Tryz.prog 46 #[.agg #[.int .i64 (F.N : Int), .int .i64 F.Z, .slice F.wa F.wW F.wc, .int .i64 (F.R.n : Int), .slice F.R.a F.R.m F.R.c, .int .i64 (F.R.cn : Int), .int .i64 (F.R.cW : Int), .int .i64 (F.R.cL : Int), .slice F.R.a2 F.R.m2 F.R.c2, .int .i64 (F.S.n : Int), .int .i64 (F.S.W : Int), .int .i64 (F.S.L : Int), .slice F.S.a F.S.m F.S.c, .int .i64 (F.P.n : Int), .int .i64 (F.P.W : Int), .int .i64 (F.P.L : Int), .slice F.P.a F.P.m F.P.c], .slice A np cp] u fun e u' => ∃ v, e = .returned v ∧ OwnI u v (fndL l p) u' := by
  have hA := MX.new h
  have hr := range_any (hA.fm) A np cp p (hP.kept hA.bel) hp hnp
  have hmo := frN_mono l p
  have hle := frN_le l true p
  have hl := h.len
  have hnn := h.nn
  have h64 := h.i64
  have hso := fnd_sort h64 hnn p
  have hbg := fun (w : World) (hw : FMI w F l size) (j : Nat) (hj : j ≤ l.length) => begin_any hw j hj
  obtain ⟨n, hn⟩ : ∃ n, l.length = n := ⟨_, rfl⟩
  obtain ⟨E, hE⟩ : ∃ E, fndL l p = E := ⟨_, rfl⟩
  rw [hE] at hso ⊢
  obtain ⟨f, hf⟩ : ∃ f, frN l false p = f := ⟨_, rfl⟩
  obtain ⟨t, ht⟩ : ∃ t, frN l true p = t := ⟨_, rfl⟩
  rw [hf, ht] at hr hmo hso
  rw [ht, hn] at hle
  rw [hn] at hbg hl
  obtain ⟨z, hz⟩ : ∃ z, t - f = z := ⟨_, rfl⟩
  rw [hz] at hso
  have q1 : IntKind.i64.wrap ((t : Int) - (f : Int)) = (z : Int) := by rw [show (t : Int) - (f : Int) = (z : Int) by omega]; exact IntWalk.i64_in _ (by omega)
  have HR := Lib.hid (And.intro hr (And.intro hA (And.intro hso hbg)))
  have HZ := Lib.hid hz
  have hz9 : z ≤ 1001 := by omega
  clear h hP hp hnp hA hr hnn h64 hso hbg hn hE hf ht
  obtain ⟨i0, hi, hz0, hz1, hz2⟩ := info_parts info3
  go_enter Tryz.func46, Tryz.ntmps46
  go_upto_region 1 with fail
  obtain ⟨w0, hw0⟩ : ∃ w0, u.alloc (.cells #[.int .i64 (F.N : Int), .int .i64 F.Z, .slice F.wa F.wW F.wc, .int .i64 (F.R.n : Int), .slice F.R.a F.R.m F.R.c, .int .i64 (F.R.cn : Int), .int .i64 (F.R.cW : Int), .int .i64 (F.R.cL : Int), .slice F.R.a2 F.R.m2 F.R.c2, .int .i64 (F.S.n : Int), .int .i64 (F.S.W : Int), .int .i64 (F.S.L : Int), .slice F.S.a F.S.m F.S.c, .int .i64 (F.P.n : Int), .int .i64 (F.P.W : Int), .int .i64 (F.P.L : Int), .slice F.P.a F.P.m F.P.c] 37) = w0 := ⟨_, rfl⟩
  obtain ⟨bx, hbx⟩ : ∃ bx, u.heap.size = bx := ⟨_, rfl⟩
  rw [hw0, hbx] at HR
  simp only [hw0, hbx]
  clear hw0
  have HBX := Lib.hid hbx
  clear hbx
  go_wp2_with (refine load36 HR.out.2.1.box _ rfl rfl rfl ?_)
  (with_reducible refine HR.out.1.mono ?_)
  rintro e w1 ⟨rfl, hb⟩
  have HM := Lib.hid (HR.out.2.1.kept hb)
  clear hb hz
  go_wp2_with (first | (at_make; refine wpList_make_own _ rfl _ _ 38 rfl w1.heap.size 3 i0 (.int .i64 0) 1 Tryz.underlying38 hi hz0 hz1 _ _ _ z rfl rfl rfl ?b2 ?b3 (Nat.le_refl _) ?_))
  case b2 => first | omega | (rw [hz2]; omega)
  case b3 => unfold maxLen; omega
  intro w2 hown hgrow
  have hO : OwnI w1 (.slice (some ⟨w1.heap.size, 0, none⟩) 0 z) [] w2 := ⟨hown, below_grown hgrow⟩
  have HO := Lib.hid hO
  clear hown hgrow hO hi hz0 hz1 hz2
  obtain ⟨D, hDe⟩ : ∃ D, D = w1.heap.size := ⟨_, rfl⟩
  rw [← hDe] at HO
  rw [← hDe]
  clear hDe
  have hzf : f + z = t := by have := HZ.out; omega
  go_wp2
  go_loopw [7, 8] (fun v7 v8 wr => ∃ i : Nat, i ≤ z ∧ v8 = .int .i64 ((f + i : Nat) : Int) ∧ OwnI w1 v7 (fndN l f i) wr) (fun _ v8 _ => t - (intOf v8).toNat)
  case atStart => exact ⟨0, Nat.zero_le _, rfl, HO.out⟩
  case round =>
    obtain ⟨i, hiz, rfl, hI⟩ := hrel
    clear HO
    obtain ⟨j, hj⟩ : ∃ j, f + i = j := ⟨_, rfl⟩
    rw [hj]
    by_cases hlt : i < z
    · have hmx := HM.out.kept hI.2
      have hsu := fndN_succ l f i
      rw [hj] at hsu
      have hml := fndN_len l f i
      have hca := HR.out.2.2.2 wr hmx.fm j (by omega)
      obtain ⟨x, hx⟩ : ∃ x, plA l j = x := ⟨_, rfl⟩
      rw [hx] at hca hsu
      have hsz := hI.2.size
      have HG := Lib.hid (And.intro hI (And.intro hsu (And.intro hml (And.intro hca hmx.box))))
      have q2 : (j : Int) < (t : Int) := by omega
      have q3 : IntKind.i64.wrap ((j : Int) + 1) = ((j + 1 : Nat) : Int) := by rw [Int.natCast_add]; exact IntWalk.i64_in _ (by omega)
      clear hI hsu hml hca hmx hx
      go_wp2_with (refine load36 HG.out.2.2.2.2 _ rfl rfl rfl ?_)
      (with_reducible refine HG.out.2.2.2.1.mono ?_)
      rintro e w3 ⟨rfl, hb⟩
      have HI := Lib.hid (HG.out.1.kept hb)
      have hsz3 := HI.out.2.size
      clear hb
      go_wp2_with (first
        | (at_builtin
           refine wpList_append_nums rfl (.tmp 25) (.tmp 29) rfl w1.heap.size _ _ _ rfl (HI.out.alloc _).1 (some ⟨_, 0, none⟩) 1 1 [(x : Int)] rfl rfl ?c1 (by simp) ?c2 ?c3 ?_))
      case c1 => exact nums_one _ _
      case c2 => rw [HG.out.2.2.1]; omega
      case c3 => first | omega | (simp; omega)
      intro v' w5 hown hgrow _
      have hI5 := (HI.out.alloc _).app (l' := fndN l f i ++ [(x : Int)]) (by simpa using hown) hgrow
      have HX5 := Lib.hid hI5
      clear hown hgrow hI5
      go_wp2
      go_roundw
      case rel => exact ⟨i + 1, by omega, by rw [← Nat.add_assoc, hj]; first | rfl | simp, by rw [HG.out.2.1]; exact HX5.out⟩
      case measure => first | (simp [intOf]; done) | (simp [intOf]; omega)
    · obtain rfl : i = z := by omega
      have hss := sort_own hI (by rw [fndN_len]; omega)
      obtain ⟨P, pc, rfl, -, -, -, -, -⟩ := nums_of_own hI.1
      have HS := Lib.hid hss
      have q2 : ¬ (j : Int) < (t : Int) := by omega
      clear hI hss
      go_wp2_with fail
      (with_reducible refine HS.out.mono ?_)
      rintro e w4 ⟨rfl, hI⟩
      rw [HR.out.2.2.1] at hI
      have HI := Lib.hid hI
      clear hI
      go_wp2
      go_ret
      exact ⟨_, rfl, own_mono HI.out.1 HM.out.bel.size, HM.out.bel.trans (HI.out.2.mono HM.out.bel.size)⟩

theorem find_any (h : FMI u F l size) (A : Option Addr) (np cp : Nat) (p : List Int) (hP : NumsAt .i64 u A p) (hp : p.length = np) (hnp : np ≤ 1000000) :
    Calls Tryz.prog 46 #[.agg #[.int .i64 (F.N : Int), .int .i64 F.Z, .slice F.wa F.wW F.wc, .int .i64 (F.R.n : Int), .slice F.R.a F.R.m F.R.c, .int .i64 (F.R.cn : Int), .int .i64 (F.R.cW : Int), .int .i64 (F.R.cL : Int), .slice F.R.a2 F.R.m2 F.R.c2, .int .i64 (F.S.n : Int), .int .i64 (F.S.W : Int), .int .i64 (F.S.L : Int), .slice F.S.a F.S.m F.S.c, .int .i64 (F.P.n : Int), .int .i64 (F.P.W : Int), .int .i64 (F.P.L : Int), .slice F.P.a F.P.m F.P.c], .slice A np cp] u fun e u' => ∃ B c, e = .returned (.slice B (fndL l p).length c) ∧ NumsAt .i64 u' B (fndL l p) ∧ Below u.heap.size u u' := by
  refine (find_own h A np cp p hP hp hnp).mono ?_
  rintro e u' ⟨v, rfl, hI⟩
  obtain ⟨B, c, rfl, hN, -, -, -, -⟩ := nums_of_own hI.1
  exact ⟨B, c, rfl, hN, hI.2⟩

end Go.Proofs.YtpnjccomngdblaaGreat
