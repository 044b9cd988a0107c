/- The walk of IntsTight. -/
import Derived.Test.YtilfjdmgeflagaaTightA
import Derived.Deep.CutRange
import Derived.Deep.CutBlock
namespace Go.Proofs.Ytilfjdmgeflagaa
open Go.RowKit
open M

/-- The numbers are from 0 on and below 2^40. -/
def Sm40 (xs : List Int) : Prop := ∀ x ∈ xs, 0 ≤ x ∧ x < 1099511627776

/-- Behind the first loop and Tight: what the rest of the law needs. -/
def TightPre (w : World) (i : Nat) (p : List Int) (a4 : Option Addr) (u : World) : Prop := NumsAt .i64 u a4 p ∧ p.length = i ∧ Sm40 p ∧ (∀ b o, a4 = some ⟨b, o, none⟩ → b < u.heap.size) ∧ Below w.heap.size w u

theorem TF.cells {w u : World} {bx n W L g m cb g' m' : Nat} {p : List Int} {a4 : Option Addr} (h : TF w bx n W L g m cb g' m' p a4 u) :
    u.cell? ⟨bx, 0, none⟩ = some (.int .i64 (n : Int)) ∧ u.cell? ⟨bx, 1, none⟩ = some (.int .i64 (W : Int)) ∧ u.cell? ⟨bx, 2, none⟩ = some (.int .i64 (L : Int)) ∧ u.cell? ⟨bx, 3, none⟩ = some (.slice (some ⟨g, 0, none⟩) m m) ∧
    u.cell? ⟨cb, 0, none⟩ = some (.int .i64 (n : Int)) ∧ u.cell? ⟨cb, 1, none⟩ = some (.int .i64 (W : Int)) ∧ u.cell? ⟨cb, 2, none⟩ = some (.int .i64 (L : Int)) ∧ u.cell? ⟨cb, 3, none⟩ = some (.slice (some ⟨g', 0, none⟩) m' m') :=
  ⟨h.t.box.c0, h.t.box.c1, h.t.box.c2, h.t.box.c3, h.box.c0, h.box.c1, h.box.c2, h.box.c3⟩

theorem same_tf {w u : World} {bx n W L g m cb g' m' : Nat} {p : List Int} {a4 : Option Addr} (h : TF w bx n W L g m cb g' m' p a4 u) :
    Calls Try.prog 27 #[.agg #[.int .i64 (n : Int), .int .i64 (W : Int), .int .i64 (L : Int), .slice (some ⟨g', 0, none⟩) m' m'], .agg #[.int .i64 (n : Int), .int .i64 (W : Int), .int .i64 (L : Int), .slice (some ⟨g, 0, none⟩) m m]] u fun e w' => e = .returned (.bool true) ∧ TF w bx n W L g m cb g' m' p a4 w' := by
  have hs := isame_any n W L n W L (some ⟨g', 0, none⟩) (some ⟨g, 0, none⟩) m' m' m m p p u h.row h.t.row
  rw [decide_eq_true (⟨rfl, rfl⟩ : W = W ∧ p = p)] at hs
  exact hs.mono fun _ _ hh => ⟨hh.1, h.kept hh.2⟩
theorem bytes_tf {w u : World} {bx n W L g m cb g' m' : Nat} {p : List Int} {a4 : Option Addr} (str : ByteArray) (h : TF w bx n W L g m cb g' m' p a4 u) (hs : strOfNums (bytI (rowB p W) (p8 L)) = str) : Calls Try.prog 21 #[.agg #[.int .i64 (n : Int), .int .i64 (W : Int), .int .i64 (L : Int), .slice (some ⟨g, 0, none⟩) m m]] u fun e w' => e = .returned (.string str) ∧ TF w bx n W L g m cb g' m' p a4 w' :=
  (bytes_tk str h.t hs).mono fun _ _ hh => ⟨hh.1, h.kept hh.2.2⟩
theorem width_tf {w u : World} {bx n W L g m cb g' m' : Nat} {p : List Int} {a4 : Option Addr} (h : TF w bx n W L g m cb g' m' p a4 u) : Calls Try.prog 19 #[.agg #[.int .i64 (n : Int), .int .i64 (W : Int), .int .i64 (L : Int), .slice (some ⟨g, 0, none⟩) m m]] u fun e w' => e = .returned (.int .i64 (W : Int)) ∧ TF w bx n W L g m cb g' m' p a4 w' :=
  (width_tk h.t).mono fun _ _ hh => ⟨hh.1, h.kept hh.2.2⟩

theorem less_no (a4 : Option Addr) (i cap : Nat) (p : List Int) (W : Nat) (u : World) (hn : NumsAt .i64 u a4 p) (hl : p.length = i) (hi : i ≤ 100) (hs : Sm40 p) (hW : wid (mostI p).toNat = W) (hW2 : W ≤ 62) :
    Calls Try.prog 11 #[.slice a4 i cap, .int .i64 ((W : Int) - 1)] u fun e w' => e = .returned (.tuple #[.agg #[.int .i64 0, .int .i64 0, .int .i64 0, .slice none 0 0], .int .i64 1]) ∧ Below u.heap.size u w' := by
  cases W with
  | zero => exact pack_arg a4 i cap _ u (by omega)
  | succ V =>
    have e : (((V + 1 : Nat) : Int) - 1) = (V : Int) := by omega
    rw [e]
    exact pack_bad a4 i cap p V u hn hl (by omega) (by omega) (fun x hx => by have := hs x hx; omega) (tight_less p V hW)

set_option maxRecDepth 100000 in
set_option maxHeartbeats 4000000 in
theorem tight_walk (a1 : Option Addr) (n1 c1 : Nat) (xs : List Int) (w : World) (e1 : xs.length = n1) (hm1 : n1 ≤ 9223372036854775807) (h1 : NumsAt .i64 w a1 xs) :
    Calls Try.prog 5 #[.slice a1 n1 c1] w fun e w' => e = .returned (.bool true) ∧ Below w.heap.size w w' := by
  obtain ⟨M1, hA1, hA2, hA3⟩ : ∃ M, M ≤ n1 ∧ M ≤ 100 ∧ (M = n1 ∨ M = 100) := ⟨min n1 100, by omega⟩
  have HX := Lib.hid (And.intro h1 e1)
  clear h1 e1
  go_enter Try.func5, Try.ntmps5
  go_wp2_with fail
  refine (awake_any _).mono ?_
  rintro e w1 ⟨rfl, hb⟩
  have hS : OwnI w (.slice none 0 0) [] w1 := ⟨World.ownsRow_nil _ _ _ _, hb⟩
  have HS := Lib.hid hS
  clear hb hS
  go_upto_block 0 with fail
  go_cut [4] from 16 to 33 (fun v4 wx => ∃ (i : Nat) (p : List Int), i ≤ 100 ∧ p.length = i ∧ Sm40 p ∧ OwnI w v4 p wx)
  case first =>
    go_wp2_with fail
    go_loopw [4, 5] (fun v4 v5 wr => ∃ (i : Nat) (p : List Int), i ≤ M1 ∧ v5 = .int .i64 (i : Int) ∧ p.length = i ∧ Sm40 p ∧ OwnI w v4 p wr) (fun _ v5 _ => n1 - (intOf v5).toNat)
    case atStart => exact ⟨0, [], Nat.zero_le _, rfl, rfl, fun x h => absurd h (by simp), HS.out⟩
    case round =>
      obtain ⟨i, p, hi, rfl, hpl, hsm, hs⟩ := hrel
      obtain ⟨h1, e1⟩ := HX.out
      by_cases hlt : i < M1
      · rcases h1.kept hs.2 with hnil | ⟨b, off, rfl, hbs, hcs⟩
        · subst hnil; simp at e1; omega
        have hcb := hcs i (by omega)
        have q1 : (i : Int) < (n1 : Int) := by omega
        have q2 : (0 : Int) ≤ (i : Int) := by omega
        have hand : bits .and .i64 (xs.getD i 0) 1099511627775 = xs.getD i 0 % 1099511627776 := and_mask (xs.getD i 0) 40 (by omega)
        generalize xs.getD i 0 = z at *
        obtain ⟨y, hy, hy1, hy2⟩ : ∃ y, z % 1099511627776 = y ∧ 0 ≤ y ∧ y < 1099511627776 := ⟨_, rfl, by omega, by omega⟩
        rw [hy] at hand
        clear hy
        have hsz := hs.2.size
        have HB := Lib.hid (And.intro hs (And.intro hpl hsm))
        clear hs hpl hsm hcs h1 e1 HS
        go_wp2_with (first
          | (at_builtin
             refine wpList_append_nums rfl (.tmp 26) (.tmp 32) rfl w.heap.size u4 _ _ rfl (HB.out.1.alloc _).1 (some ⟨wr.heap.size, 0, none⟩) 1 1 [y] rfl rfl ?c1 (by simp) ?c2 ?c3 ?_))
        case c1 =>
          refine .inr ⟨wr.heap.size, 0, rfl, by simp, fun j hj => ?_⟩
          match j, hj with
          | 0, _ => simp
        case c2 => rw [HB.out.2.1]; omega
        case c3 => simp; omega
        intro v' w5 hown hgrow _
        have hI5 := (HB.out.1.alloc _).app (l' := p ++ [y]) (by simpa using hown) hgrow
        have HX5 := Lib.hid hI5
        clear hown hgrow hI5
        go_wp2
        go_roundw
        case rel =>
          refine ⟨i + 1, p ++ [y], by omega, by go_num, by rw [List.length_append, HB.out.2.1]; rfl, ?_, HX5.out⟩
          intro x hx
          rcases List.mem_append.1 hx with h | h
          · exact HB.out.2.2 x h
          · simp only [List.mem_singleton] at h; subst h; exact ⟨hy1, hy2⟩
        case measure => simp [intOf]; omega
      · have hex : ¬ i < n1 ∨ (i < n1 ∧ ¬ i < 100) := by omega
        have HY := Lib.hid (And.intro hpl (And.intro hsm hs))
        clear hs hpl hsm h1 e1 HS
        rcases hex with q1 | ⟨q1, q2⟩
        all_goals
          go_wp2
          go_meet
          exact ⟨i, p, by omega, HY.out⟩
  case rest =>
    obtain ⟨i, p, hi, hpl, hsm, hs⟩ := hcut
    have r4 := hs.1
    rw [hpl] at r4
    obtain ⟨b4, d4, rfl, hn4, -⟩ := nums_of_own r4
    have hold : ∀ b o, b4 = some ⟨b, o, none⟩ → b < wc.heap.size := fun b o e => (r4.lt b (by rw [e]; rfl)).2
    have htg := tight_row b4 i d4 p wc 40 (by omega) hn4 hpl (by omega) hsm
    have HB := Lib.hid (And.intro htg (And.intro hn4 (And.intro hpl (And.intro hsm (And.intro hold hs.2)))))
    clear htg hs hpl hsm hn4 hold r4 HS HX
    obtain ⟨W, hW⟩ : ∃ W, wid (mostI p).toNat = W := ⟨_, rfl⟩
    rw [hW] at HB
    have HW := Lib.hid hW
    clear hW
    go_wp2_with fail
    refine HB.out.1.mono ?_
    rintro e w3 ⟨g3, L3, m3, rfl, hr3, hb3⟩
    obtain ⟨-, hn4, hpl, hsm, hold, hbel⟩ := HB.out
    have hsz := hb3.size
    have hbel3 := hbel.trans (hb3.mono hbel.size)
    have hal3 := ((Below.refl w3.heap.size w3).alloc (Nat.le_refl _) (.cells #[.int .i64 (i : Int), .int .i64 (W : Int), .int .i64 (L3 : Int), .slice (some ⟨g3, 0, none⟩) m3 m3] 31))
    have hT : TK w w3.heap.size i W L3 g3 m3 p b4 (w3.alloc (.cells #[.int .i64 (i : Int), .int .i64 (W : Int), .int .i64 (L3 : Int), .slice (some ⟨g3, 0, none⟩) m3 m3] 31)) :=
      ⟨IBx.new _ _ _ _ _, hr3.kept hal3, (hn4.kept hb3).kept hal3, fun b o e => Nat.lt_of_lt_of_le (hold b o e) hsz, hbel3.size, hbel3.alloc hbel3.size _⟩
    have hW62 : W ≤ 62 := hr3.hW
    have hLL : L3 ≤ 7992 := by rw [← hr3.mul]; calc i * W ≤ 100 * 62 := Nat.mul_le_mul (by omega) hW62
                                _ ≤ 7992 := by decide
    have HT := Lib.hid (And.intro hT (And.intro hpl hsm))
    clear hn4 hpl hsm hold hbel hsz hbel3 hal3 hT hr3 hb3 HB
    go_wp2_with fail
    generalize (w3.alloc (.cells #[.int .i64 (i : Int), .int .i64 (W : Int), .int .i64 (L3 : Int), .slice (some ⟨g3, 0, none⟩) m3 m3] 31)) = w4 at *
    generalize w3.heap.size = bx at *
    refine (len_tk HT.out.1).mono ?_
    rintro e w5 ⟨rfl, hk, -⟩
    obtain ⟨l0, l1, l2, l3⟩ := hk.cells
    have HK := Lib.hid (And.intro hk HT.out.2)
    clear hk HT
    go_wp2_with fail
    refine (width_tk HK.out.1).mono ?_
    clear l0 l1 l2 l3
    rintro e w6 ⟨rfl, hk, -⟩
    have HK6 := Lib.hid (And.intro hk HK.out.2)
    clear hk HK
    go_wp2_with fail
    refine (less_no b4 i d4 p W w6 HK6.out.1.nums HK6.out.2.1 (by omega) HK6.out.2.2 HW.out hW62).mono ?_
    rintro e w7 ⟨rfl, hb7⟩
    have hk := (HK6.out.1.kept hb7).alloc (.cells #[.int .i64 0, .int .i64 0, .int .i64 0, .slice none 0 0] 31)
    obtain ⟨l0, l1, l2, l3⟩ := (HK6.out.1.kept hb7).cells
    have hlt7 := (HK6.out.1.kept hb7).box.lt
    obtain ⟨str, hstr⟩ : ∃ str, strOfNums (bytI (rowB p W) (p8 L3)) = str := ⟨_, rfl⟩
    have HP := Lib.hid (And.intro HK6.out.2.1 hstr)
    clear hb7 HK6 hstr
    go_upto_region 11 with fail
    clear l0 l1 l2 l3 hlt7
    generalize (w7.alloc (.cells #[.int .i64 0, .int .i64 0, .int .i64 0, .slice none 0 0] 31)) = wr8 at *
    generalize w7.heap.size = b8 at *
    go_cut [10, 11] from 56 to 65 (fun v10 v11 wx => ∃ cb g' m' : Nat, v10 = .pointer (some ⟨cb, 0, none⟩) ∧ v11 = .int .i64 0 ∧ TF w bx i W L3 g3 m3 cb g' m' p b4 wx)
    case first =>
      obtain ⟨l0, l1, l2, l3⟩ := hk.cells
      go_region_held3 (fun w' => w'.cell? ⟨bx, 0, none⟩ = some (.int .i64 (i : Int)) ∧ w'.cell? ⟨bx, 1, none⟩ = some (.int .i64 (W : Int)) ∧ w'.cell? ⟨bx, 2, none⟩ = some (.int .i64 (L3 : Int)) ∧ w'.cell? ⟨bx, 3, none⟩ = some (.slice (some ⟨g3, 0, none⟩) m3 m3))
        (first
          | (with_reducible exact hk.cells)
          | (with_reducible exact (hk.alloc _).cells)
          | (with_reducible exact (hk.alloc _).drew.cells)
          | (with_reducible exact (tf_set hk hrow hq hne).t.cells)
          | (with_reducible exact (tf_alloc hk hrow).t.cells)
          | go_keep)
        (first
          | (go_at_call 13; (with_reducible refine (len_tk hk.drew).mono ?_); rintro e u ⟨rfl, hk, hbel⟩)
          | (go_at_call 13; (with_reducible refine (len_tk (hk.alloc _).drew).mono ?_); rintro e u ⟨rfl, hk2, hbel⟩; have hq := hk.fresh.drew.kept hbel; clear hk; have hk := hk2; clear hk2; generalize wr8.heap.size = cb at hq ⊢)
          | (go_at_call 19; (with_reducible refine (width_tk hk).mono ?_); rintro e u ⟨rfl, hk, hbel⟩; have hq := hq.kept hbel)
          | (go_at_call 19; (with_reducible refine (width_tk hk).mono ?_); rintro e u ⟨rfl, hk, hbel⟩)
          | (go_at_call 19; (with_reducible refine (width_tk (hk.alloc _)).mono ?_); rintro e u2 ⟨rfl, hk2, hbel⟩; have hq := hk.fresh.kept hbel; clear hk; have hk := hk2; clear hk2; generalize u.heap.size = cb at hq ⊢)
          | (go_at_call 21; (with_reducible refine (bytes_tk str hk HP.out.2).mono ?_); rintro e u ⟨rfl, hk, hbel⟩; have hq := hq.kept hbel)
          | (go_at_call 21; (with_reducible refine (bytes_tk str hk HP.out.2).mono ?_); rintro e u ⟨rfl, hk, hbel⟩)
          | (go_at_call 21; (with_reducible refine (bytes_tk str (hk.alloc _) HP.out.2).mono ?_); rintro e u2 ⟨rfl, hk2, hbel⟩; have hq := hk.fresh.kept hbel; clear hk; have hk := hk2; clear hk2; generalize u.heap.size = cb at hq ⊢)
          | (go_at_call 24; (with_reducible refine (read_tk str hk HP.out.2 hLL).mono ?_); rintro e u ⟨g', m', rfl, hrow, hlt', hk, hbel⟩; have hne := Nat.ne_of_gt (Nat.lt_trans hq.lt hlt'); have hq := hq.kept hbel; obtain ⟨r0, r1, r2, r3, z0, z1, z2, z3, -, -, -⟩ := id hq)
          | (go_at_call 24; (with_reducible refine (read_tk str hk HP.out.2 hLL).mono ?_); rintro e u ⟨g', m', rfl, hrow, hlt', hk, hbel⟩)
          | (go_at_call 24; (with_reducible refine (read_tk str (hk.alloc _) HP.out.2 hLL).mono ?_); rintro e u2 ⟨g', m', rfl, hrow, hlt', hk2, hbel⟩; have hne := Nat.ne_of_gt (Nat.lt_trans hk.fresh.lt hlt'); have hq := hk.fresh.kept hbel; clear hk; have hk := hk2; clear hk2; generalize u.heap.size = cb at hq hne ⊢; obtain ⟨r0, r1, r2, r3, z0, z1, z2, z3, -, -, -⟩ := id hq))
      all_goals
        first
          | (have hf := tf_set hk hrow hq hne
             have HF := Lib.hid hf
             clear hf hk hrow hq hne r0 r1 r2 r3 z0 z1 z2 z3
             go_wp2
             go_meet
             exact ⟨_, g', m', rfl, rfl, HF.out⟩)
          | (have hf := tf_alloc hk hrow
             have HF := Lib.hid hf
             clear hf hk hrow
             go_wp2
             go_meet
             exact ⟨_, g', m', rfl, rfl, HF.out⟩)
    case rest =>
      obtain ⟨cb, g', m', rfl, rfl, hf⟩ := hcut
      clear hk
      obtain ⟨c0, c1', c2, c3⟩ := hf.box
      have HF := Lib.hid hf
      clear hf
      go_wp2_with fail
      have hli := ilist_any i W L3 (some ⟨g', 0, none⟩) m' m' p wc HF.out.row
      unfold intsV at hli
      refine hli.mono ?_
      clear hli c0 c1' c2 c3
      rintro e w8 ⟨g8, rfl, -, hown, hb8⟩
      obtain ⟨a8, c8, hv8, hn8, hl8, -⟩ := nums_of_own hown
      simp only [Value.slice.injEq] at hv8
      obtain ⟨rfl, -, rfl⟩ := hv8
      have HU := Lib.hid (And.intro (HF.out.kept hb8) hn8)
      clear hown hn8 hl8 hb8 HF
      go_wp2_with fail
      refine (rsame_any (some ⟨g8, 0, none⟩) b4 i i i d4 p p w8 HU.out.2 HU.out.1.t.nums HP.out.1 HP.out.1 (by omega)).mono ?_
      rintro e w9 ⟨rfl, hb9⟩
      rw [decide_eq_true (rfl : p = p)]
      have HV := Lib.hid (HU.out.1.kept hb9)
      clear hb9 HU
      go_wp2_with fail
      refine (tight2 _ w9.heap.size ?_ (by simp)).mono ?_
      · intro j hj
        rw [cell_new _ _ _ _ _ (by simp)]
        match j, hj with
        | 0, _ => rfl
        | 1, _ => rfl
      rintro e w10 ⟨rfl, hb10⟩
      have hf := ((HV.out.kept ((Below.refl _ _).alloc (Nat.le_refl _) _)).kept hb10).kept ((Below.refl _ _).alloc (Nat.le_refl _) (.cells #[.int .i64 0, .int .i64 0, .int .i64 0, .slice none 0 0] 31))
      clear hb10 HV
      have hmul := hf.t.row.mul
      have hsz : str.size = p8 L3 := by
        have hb := (back_str (rowB p W)).1
        rw [rowB_length, hf.t.row.len, hmul, HP.out.2] at hb
        exact hb
      have q0 : (i : Int) * (W : Int) = (L3 : Int) := by rw [← hmul]; simp
      have q1 : IntKind.i64.wrap ((i : Int) * (W : Int)) = (L3 : Int) := by rw [q0]; exact IntWalk.i64_in _ (by omega)
      have q2 : IntKind.i64.wrap ((L3 : Int) + 7) = (L3 : Int) + 7 := IntWalk.i64_in _ (by omega)
      have q3 : IntKind.i64.wrap (((L3 : Int) + 7).tdiv 8) = (str.size : Int) := by
        rw [hsz]
        unfold p8
        rw [Int.tdiv_eq_ediv_of_nonneg (by omega)]
        rw [IntWalk.i64_in _ (by omega)]
        omega
      clear hmul hsz q0
      go_upto_region 14 with fail
      generalize (w10.alloc (.cells #[.int .i64 0, .int .i64 0, .int .i64 0, .slice none 0 0] 31)) = w11 at *
      obtain ⟨l0, l1, l2, l3, l4, l5, l6, l7⟩ := hf.cells
      go_region_held3 (fun w' => w'.cell? ⟨bx, 0, none⟩ = some (.int .i64 (i : Int)) ∧ w'.cell? ⟨bx, 1, none⟩ = some (.int .i64 (W : Int)) ∧ w'.cell? ⟨bx, 2, none⟩ = some (.int .i64 (L3 : Int)) ∧ w'.cell? ⟨bx, 3, none⟩ = some (.slice (some ⟨g3, 0, none⟩) m3 m3) ∧
          w'.cell? ⟨cb, 0, none⟩ = some (.int .i64 (i : Int)) ∧ w'.cell? ⟨cb, 1, none⟩ = some (.int .i64 (W : Int)) ∧ w'.cell? ⟨cb, 2, none⟩ = some (.int .i64 (L3 : Int)) ∧ w'.cell? ⟨cb, 3, none⟩ = some (.slice (some ⟨g', 0, none⟩) m' m'))
        (first
          | (with_reducible exact hf.cells)
          | (with_reducible exact hf.drew.cells)
          | go_keep)
        (first
          | (go_at_call 27; (with_reducible refine (same_tf hf.drew).mono ?_); rintro e u ⟨rfl, hf⟩)
          | (go_at_call 27; (with_reducible refine (same_tf hf).mono ?_); rintro e u ⟨rfl, hf⟩)
          | (go_at_call 21; (with_reducible refine (bytes_tf str hf HP.out.2).mono ?_); rintro e u ⟨rfl, hf⟩)
          | (go_at_call 19; (with_reducible refine (width_tf hf).mono ?_); rintro e u ⟨rfl, hf⟩))
      all_goals
        have HFin := Lib.hid hf.t.bel
        clear hf l0 l1 l2 l3 l4 l5 l6 l7
        go_wp2
        go_ret
        exact ⟨rfl, HFin.out⟩

end Go.Proofs.Ytilfjdmgeflagaa
