/- The contracts of Array and Ranks. -/
import Derived.Test.YtdepncdknofocaaXL
import Derived.Test.YtdepncdknofocaaXD
import Derived.Deep.LoopGhost
set_option maxRecDepth 100000
namespace Go.Proofs.Ytdepncdknofocaa
open Go.RowKit
open M
attribute [local go_sem ↓] Go.wp_at_zero Go.wp_at_succ

theorem info22 : (Try.prog.info? 22).map (fun i => (i.zero, i.size, i.bytes)) = some (some (.slice none 0 0), 1, 24) := by kernel_rfl

/-- The levels: each one is below the one ahead; the last one first. -/
def Lev (l : List Int) : List (List Int) → List Int → Prop
  | [], row => row = rnkL (kyI l) l.length
  | top :: rest, row => Lev l rest top ∧ Rk top ∧ 2 ≤ top.length ∧ Bel top row

/-- The values of the stack. -/
structure SV (u : World) (rs : List (List Int)) (vs : List Value) : Prop where
  len : vs.length = rs.length
  at' : ∀ j, j < rs.length → ∃ D, vs[j]? = some (.slice (some ⟨D, 0, none⟩) (rs.getD (rs.length - 1 - j) []).length (rs.getD (rs.length - 1 - j) []).length) ∧ NumsAt .i64 u (some ⟨D, 0, none⟩) (rs.getD (rs.length - 1 - j) [])
theorem SV.kept {u u' : World} {rs : List (List Int)} {vs : List Value} (h : SV u rs vs) (hb : Below u.heap.size u u') : SV u' rs vs :=
  ⟨h.len, fun j hj => by obtain ⟨D, h1, h2⟩ := h.at' j hj; exact ⟨D, h1, h2.kept hb⟩⟩

/-- The stack. -/
structure ST (w : World) (v : Value) (rs : List (List Int)) (u : World) : Prop where
  own : ∃ vs, u.ownsRow w.heap.size 22 1 v rs.length vs ∧ SV u rs vs
  bel : Below w.heap.size w u
theorem ST.kept {w u u' : World} {v : Value} {rs : List (List Int)} (h : ST w v rs u) (hb : Below u.heap.size u u') : ST w v rs u' := by
  obtain ⟨vs, h1, h2⟩ := h.own
  exact ⟨⟨vs, own_kept h1 hb, h2.kept hb⟩, h.bel.trans (hb.mono h.bel.size)⟩
theorem ST.nil {w u : World} (hb : Below w.heap.size w u) : ST w (.slice none 0 0) [] u := ⟨⟨[], World.ownsRow_nil _ _ _ _, rfl, fun j hj => by simp at hj⟩, hb⟩

/-- Numbers at the head of a block are in none of slices. -/
theorem nums_apart {u : World} {w0 : Nat} {v : Value} {n : Nat} {vs : List Value} (hown : u.ownsRow w0 22 1 v n vs) (hvs : ∀ j, j < n → ∃ A m c, vs[j]? = some (.slice A m c)) {D : Nat} {l : List Int} (h : NumsAt .i64 u (some ⟨D, 0, none⟩) l) (hn : 0 < n) (hl : 0 < l.length) : v.ownBlock ≠ some D := by
  intro e
  obtain ⟨A, m, c, h0⟩ := hvs 0 hn
  have h1 := hown.cells e 0 _ h0
  have e1 : (⟨D, 0, none⟩ : Addr).add 0 = ⟨D, 0, none⟩ := rfl
  rw [e1] at h1
  rcases h with h | ⟨b, off, hb, -, hc⟩
  · rw [h] at hl; simp at hl
  · simp only [Option.some.injEq, Addr.mk.injEq, and_true] at hb
    obtain ⟨rfl, rfl⟩ := hb
    have := hc 0 hl
    rw [Nat.add_zero, h1] at this
    cases this
theorem nums_kp22 {u u' : World} {w0 : Nat} {v : Value} {n : Nat} {vs : List Value} (hown : u.ownsRow w0 22 1 v n vs) (hvs : ∀ j, j < n → ∃ A m c, vs[j]? = some (.slice A m c)) {D : Nat} {l : List Int} (h : NumsAt .i64 u (some ⟨D, 0, none⟩) l) (hk : Kp (fun k => v.ownBlock = some k) u u') (hn0 : n = 0 → v = .slice none 0 0) (hl : 0 < l.length) : NumsAt .i64 u' (some ⟨D, 0, none⟩) l := by
  refine NumsAt.kp h hk (fun b o e ev => ?_)
  simp only [Option.some.injEq, Addr.mk.injEq, and_true] at e
  obtain ⟨rfl, rfl⟩ := e
  by_cases hn : n = 0
  · rw [hn0 hn] at ev; simp [Value.ownBlock] at ev
  · exact nums_apart hown hvs h (by omega) hl ev
/-- A level is put on the stack. -/
theorem ST.push {w u u' : World} {v v' : Value} {rs : List (List Int)} {vs : List Value} {D : Nat} {row : List Int} (hown : u.ownsRow w.heap.size 22 1 v rs.length vs) (hsv : SV u rs vs) (hb : Below w.heap.size w u) (hnil : rs.length = 0 → v = .slice none 0 0) (hrow : NumsAt .i64 u (some ⟨D, 0, none⟩) row) (hpos : ∀ r ∈ row :: rs, 0 < r.length)
    (hown' : u'.ownsRow w.heap.size 22 1 v' (rs.length + 1) (vs ++ [.slice (some ⟨D, 0, none⟩) row.length row.length])) (hg : u.grownBy u' v.ownBlock) : ST w v' (row :: rs) u' ∧ NumsAt .i64 u' (some ⟨D, 0, none⟩) row := by
  have hk : Kp (fun k => v.ownBlock = some k) u u' := (Kp.refl _ u).grown hg (fun k hk _ => hk)
  have hvs : ∀ j, j < rs.length → ∃ A m c, vs[j]? = some (.slice A m c) := fun j hj => by obtain ⟨D, h1, -⟩ := hsv.at' j hj; exact ⟨_, _, _, h1⟩
  have hrow' := nums_kp22 hown hvs hrow hk hnil (hpos row (by simp))
  refine ⟨⟨⟨_, hown', by simp [hsv.len], fun j hj => ?_⟩, hb.trans (hk.toBelow hb.size (fun k hk e => by have := (hown.lt k e).1; omega))⟩, hrow'⟩
  rw [List.length_cons] at hj
  by_cases e : j = rs.length
  · subst e
    refine ⟨D, ?_, ?_⟩
    · rw [List.getElem?_append_right (by rw [hsv.len]; exact Nat.le_refl _), hsv.len]
      simp
    · simpa using hrow'
  · obtain ⟨D2, h1, h2⟩ := hsv.at' j (by omega)
    have hidx : (row :: rs).getD ((row :: rs).length - 1 - j) [] = rs.getD (rs.length - 1 - j) [] := by
      rw [show (row :: rs).length - 1 - j = (rs.length - 1 - j) + 1 by rw [List.length_cons]; omega]
      simp
    rw [hidx]
    refine ⟨D2, by rw [List.getElem?_append_left (by rw [hsv.len]; omega)]; exact h1, nums_kp22 hown hvs h2 hk hnil ?_⟩
    refine hpos _ (List.mem_cons_of_mem _ ?_)
    rw [List.getD_eq_getElem?_getD, List.getElem?_eq_getElem (by omega), Option.getD_some]
    exact List.getElem_mem _

/-- The next level is less, or has none alike. -/
theorem not_df {row : List Int} (hr : Rk row) (h : ¬ Df row) : 2 ≤ row.length := by
  apply Nat.le_of_not_lt
  intro hlt
  apply h
  by_cases h0 : row.length = 0
  · exact .inl h0
  · refine .inr ?_
    have h1 := hr.nn _ (memI row 0 (by omega))
    have h2 := memI row 0 (by omega)
    rwa [show row.getD 0 0 = (row.length : Int) - 1 by omega] at h2
theorem bel_less {row three : List Int} (hr : Rk row) (h : ¬ Df row) (hB : Bel row three) : three.length ≤ row.length ∧ (¬ Df three → three.length + 1 ≤ row.length) := by
  have h2 := not_df hr h
  have hs := th_sums row.length
  rw [hB.len]
  refine ⟨by omega, fun hd => ?_⟩
  by_cases h3 : 3 ≤ row.length
  · have : 0 < thC row.length 0 := by
      have := th_vals row.length
      unfold thC
      omega
    omega
  · exfalso
    have hn : row.length = 2 := by omega
    apply hd
    refine hB.rk.inj_df (fun i j hi hj e => ?_)
    have hl := hB.len
    have e1 : thC 2 1 = 1 := by decide
    have e2 : thC 2 2 = 1 := by decide
    rw [hn, e1, e2] at hl
    have p0 : plN 2 0 = 1 := by decide
    have p1 : plN 2 1 = 0 := by decide
    have h1 := (hB.eq i j hi hj).1 e
    rw [hn] at h1
    have key : ¬ E3 row 1 0 := by
      rintro ⟨-, h1, -⟩
      rw [getD_out (by omega), getD_in (by omega), Nat.zero_add] at h1
      have := hr.nn _ (memI row 1 (by omega))
      omega
    have key' : ¬ E3 row 0 1 := fun ⟨a, b, c⟩ => key ⟨a.symm, b.symm, c.symm⟩
    rcases (show (i = 0 ∨ i = 1) ∧ (j = 0 ∨ j = 1) by omega) with ⟨rfl | rfl, rfl | rfl⟩
    · rfl
    · rw [p0, p1] at h1; exact absurd h1 key
    · rw [p0, p1] at h1; exact absurd h1 key'
    · rfl

/-- An order of the ranks is one of the row. -/
theorem sa_rank {l o : List Int} (h64 : I64s l) (h : SA (-1) (rnkL (kyI l) l.length) o) : o = sufA l := by
  have h1 : SA b0 l o := h.map (rnkL_length _ _) (fun p q hp hq hs => (sl_map (rnkL_length _ _) (rnk_rk _ _).abv (i64_abv h64) (fun i j hi hj => by
    rw [rnkL_length] at hi hj
    have := (rnk_lt (kyI l) l.length hi hj).1
    rw [this]
    unfold kyI
    rw [Int.toNat_natCast, Int.toNat_natCast]) p q).1 hs)
  exact h1.uniq (sufA_ok h64)

theorem own_shape {w : World} {base : Nat} {e : TypeId} {v : Value} {n : Nat} {xs : List Value} (h : w.ownsRow base e 1 v n xs) : ∃ G cap, v = .slice G n cap ∧ (0 < n → ∃ g, G = some ⟨g, 0, none⟩) := by
  obtain ⟨h1, h2⟩ := h
  rcases h2 with ⟨rfl, hn⟩ | ⟨g, cap, cur, rfl, -⟩
  · exact ⟨none, 0, by rw [hn], fun h => by omega⟩
  · exact ⟨some ⟨g, 0, none⟩, cap, rfl, fun _ => ⟨g, rfl⟩⟩

set_option maxHeartbeats 4000000 in
theorem array_any (A : Option Addr) (n c : Nat) (l : List Int) (w : World) (hA : NumsAt .i64 w A l) (hl : l.length = n) (hn : n ≤ 1000000) (h64 : I64s l) :
    Calls Try.prog 22 #[.slice A n c] w fun e u => ∃ A' ca, e = .returned (.slice A' n ca) ∧ NumsAt .i64 u A' (sufA l) ∧ n ≤ ca ∧ Below w.heap.size w u ∧ Frs w.heap.size A' := by
  have hrk := ranks_any A n c l w hA hl hn h64
  have HX := Lib.hid (And.intro hrk (And.intro hl h64))
  clear hA hl hrk h64
  go_enter Try.func22, Try.ntmps22
  go_wp2_with fail
  go_step3
  go_wp2_with fail
  (with_reducible refine HX.out.1.mono ?_)
  rintro e u1 ⟨D0, rfl, h1, h2⟩
  have HR := Lib.hid (And.intro h1 h2)
  clear h1 h2
  go_wp2
  go_step3
  go_wp2
  go_loopg [3, 4, 15] (n + 1) (fun g v3 v4 _ wr => ∃ (rs : List (List Int)) (row : List Int) (D : Nat), v4 = .slice (some ⟨D, 0, none⟩) row.length row.length ∧ ST w v3 rs wr ∧ (rs.length = 0 → v3 = .slice none 0 0) ∧ NumsAt .i64 wr (some ⟨D, 0, none⟩) row ∧ Rk row ∧ Lev l rs row ∧ (∀ r ∈ rs, 0 < r.length ∧ r.length ≤ n) ∧ row.length ≤ n ∧ rs.length + g ≤ n + 1 ∧ row.length ≤ g ∧ (¬ Df row → row.length + 1 ≤ g))
  case atStart => exact ⟨[], rnkL (kyI l) n, D0, by rw [rnkL_length], ST.nil HR.out.2, fun _ => rfl, HR.out.1, rnk_rk _ _, by rw [Lev, HX.out.2.1], fun r hr => by simp at hr, by rw [rnkL_length]; exact Nat.le_refl _, by simp, by rw [rnkL_length]; omega, fun _ => by rw [rnkL_length]; exact Nat.le_refl _⟩
  case round =>
    obtain ⟨rs, row, D, rfl, hST, hnil, hrow, hrk, hlev, hlen, hrn, hg, hg1, hg2⟩ := hrel
    clear HR
    have hdf := diff_any (some ⟨D, 0, none⟩) row.length row.length row wr hrow rfl (by omega) hrk
    have HH := Lib.hid (And.intro hST (And.intro hnil (And.intro hrow (And.intro hrk (And.intro hlev (And.intro hlen (And.intro hg2 hdf)))))))
    obtain ⟨k, hk⟩ : ∃ k, row.length = k := ⟨_, rfl⟩
    rw [hk] at hrn hg1 HH ⊢
    have HK := Lib.hid hk
    clear hST hnil hrow hrk hlev hlen hg2 hdf hk
    go_wp2_with fail
    (with_reducible refine HH.out.2.2.2.2.2.2.2.mono ?_)
    rintro e u2 ⟨⟨r, rfl, hr⟩, rfl⟩
    have HRR := Lib.hid hr
    clear hr
    cases r with
    | false =>
      have hnd : ¬ Df row := fun h => by have := HRR.out.2 h; cases this
      obtain ⟨vs, ho, hsv⟩ := HH.out.1.own
      have h2 := not_df HH.out.2.2.2.1 hnd
      have hrg := HH.out.2.2.2.2.2.2.1 hnd
      have hal : Below u2.heap.size u2 (u2.alloc (.cells #[.slice (some ⟨D, 0, none⟩) k k] 22)) := al _ _
      have hST1 := HH.out.1.bel.trans (hal.mono HH.out.1.bel.size)
      have ho1 := own_kept ho hal
      have hsv1 := hsv.kept hal
      have hrow1 := HH.out.2.2.1.kept hal
      have HA := Lib.hid (And.intro ho1 (And.intro hsv1 (And.intro hrow1 (And.intro hST1 hnd))))
      obtain ⟨i0, hi, hz0, hz1, hz2⟩ := info_parts info22
      have hsz := hST1.size
      rw [HK.out] at h2
      clear ho hsv hal hST1 ho1 hsv1 hrow1 hnd
      go_wp2_with (first
        | (at_builtin
           refine wpList_append_own_at _ rfl (.tmp 9) (.tmp 11) 39 rfl w.heap.size 22 i0 (.slice none 0 0) 1 24 Try.underlying39 hi hz0 hz1 hz2 rfl (by omega) _ _ _ rfl HA.out.1 ⟨_, 0, none⟩ 1 1 [.slice (some ⟨D, 0, none⟩) k k] rfl rfl ?c1 ?c2 ?c3 ?c4 ?c5 ?_))
      case c1 =>
        intro j u hu
        cases j with
        | zero =>
          simp only [List.getElem?_cons_zero, Option.some.injEq] at hu
          subst hu
          rw [show (⟨u2.heap.size, 0, none⟩ : Addr).add 0 = ⟨u2.heap.size, 0, none⟩ from rfl, cell_new _ _ _ _ _ rfl]; rfl
        | succ j => simp at hu
      case c2 => intro u hu; simp at hu; subst hu; rfl
      case c3 => unfold maxLen; omega
      case c4 => omega
      case c5 => exact hsz
      intro v' w5 hown hgrow _ _
      obtain ⟨hST5, hrow5⟩ := ST.push HA.out.1 HA.out.2.1 HA.out.2.2.2.1 HH.out.2.1 HA.out.2.2.1 (by
        intro r hr
        rcases List.mem_cons.1 hr with e | e
        · rw [e, HK.out]; omega
        · exact (HH.out.2.2.2.2.2.1 r e).1) (by rw [HK.out]; exact hown) hgrow
      have hbl := below_any (some ⟨D, 0, none⟩) k k row w5 hrow5 HK.out (by omega) HH.out.2.2.2.1
      have H5 := Lib.hid (And.intro hST5 hbl)
      clear hown hgrow hST5 hrow5 hbl hi hz0 hz1 hz2 hsz
      go_wp2_with fail
      (with_reducible refine H5.out.2.mono ?_)
      rintro e u3 ⟨D2, three, rfl, h3, hB, hb⟩
      have hls := bel_less HH.out.2.2.2.1 HA.out.2.2.2.2 hB
      have h3l : three.length = smpN k := by rw [hB.len, HK.out]; rfl
      have H6 := Lib.hid (And.intro (H5.out.1.kept hb) (And.intro h3 (And.intro hB (And.intro hls h3l))))
      clear h3 hB hb hls h3l
      go_wp2
      go_roundg (gk - 1)
      case measure => omega
      case rel =>
        obtain ⟨hST, h3, hB, ⟨hls1, hls2⟩, h3l⟩ := H6.out
        rw [HK.out] at hls1 hls2
        refine ⟨row :: rs, three, D2, by rw [h3l], hST, fun h => by simp at h, h3, hB.rk, ⟨HH.out.2.2.2.2.1, HH.out.2.2.2.1, by rw [HK.out]; exact h2, hB⟩, fun r hr => ?_, by omega, by simp only [List.length_cons]; omega, by omega, fun h => by have := hls2 h; omega⟩
        rcases List.mem_cons.1 hr with e | e
        · rw [e, HK.out]; omega
        · exact HH.out.2.2.2.2.2.1 r e
    | true =>
      have hdf : Df row := HRR.out.1 rfl
      have htu := turned_any (some ⟨D, 0, none⟩) k k row u2 HH.out.2.2.1 HK.out (by omega) (HH.out.2.2.2.1.all hdf)
      have HT := Lib.hid (And.intro htu hdf)
      clear htu hdf
      go_wp2_with fail
      (with_reducible refine HT.out.1.mono ?_)
      rintro e u3 ⟨D2, L, hLl, rfl, hLn, hLq, hb, hlo⟩
      have hlo2 : Frs w.heap.size (some ⟨D2, 0, none⟩) := fun a ha => by cases ha; exact Nat.le_trans HH.out.1.bel.size hlo
      have HLO := Lib.hid hlo2
      clear hlo hlo2
      have hsa : SA (-1) row L := HH.out.2.2.2.1.turn HT.out.2 (hLl.trans HK.out.symm) (by rw [HK.out]; exact hLq)
      have hrl : rs.length ≤ n + 1 := by omega
      obtain ⟨t, hte⟩ : ∃ t, t = rs.length := ⟨_, rfl⟩
      have hST := HH.out.1.kept hb
      obtain ⟨vs, ho, hsv⟩ := hST.own
      obtain ⟨G, cap, rfl, hG⟩ := own_shape ho
      have H3 := Lib.hid (And.intro hsa (And.intro hLn (And.intro hLl (And.intro hST.bel (And.intro ho (And.intro hsv (And.intro hG hte)))))))
      rw [← hte] at hrl ⊢
      clear hLl hLn hLq hb hsa hST ho hsv HRR hG hte HT
      have q0 : IntKind.i64.wrap ((t : Int) - 1) = (t : Int) - 1 := IntWalk.i64_in _ (by omega)
      obtain ⟨w3, rfl⟩ : ∃ w3, w3 = u3 := ⟨_, rfl⟩
      go_wp2
      go_loopw [5, 6] (fun v5 v6 wr => ∃ (s : Nat) (cur o : List Int) (A' : Option Addr) (ca : Nat), s ≤ t ∧ v6 = .int .i64 ((s : Int) - 1) ∧ v5 = .slice A' cur.length ca ∧ NumsAt .i64 wr A' o ∧ SA (-1) cur o ∧ cur.length ≤ ca ∧ Lev l (rs.drop (t - s)) cur ∧ Below w3.heap.size w3 wr ∧ Frs w.heap.size A') (fun _ v6 _ => (intOf v6 + 1).toNat)
      case atStart =>
        refine ⟨t, row, L, some ⟨D2, 0, none⟩, k, Nat.le_refl _, rfl, by rw [HK.out], H3.out.2.1, H3.out.1, by rw [HK.out]; exact Nat.le_refl _, ?_, Below.refl _ _, HLO.out⟩
        rw [Nat.sub_self, List.drop_zero]; exact HH.out.2.2.2.2.1
      case round =>
        obtain ⟨s, cur, o, A', ca, hs, rfl, rfl, hon, hso, hca, hlv, hbw, hfr⟩ := hrel
        have HFR := Lib.hid hfr
        clear hfr
        by_cases h0 : 0 < s
        · obtain ⟨j, rfl⟩ : ∃ j, s = j + 1 := ⟨s - 1, by omega⟩
          obtain ⟨-, -, -, -, ho, hsv, hG, hte⟩ := H3.out
          obtain ⟨g, rfl⟩ := hG (by omega)
          have hix : rs.drop (t - (j + 1)) = rs.getD (t - (j + 1)) [] :: rs.drop (t - j) := by
            rw [List.drop_eq_getElem_cons (by omega), List.getD_eq_getElem?_getD, List.getElem?_eq_getElem (by omega), Option.getD_some, show t - (j + 1) + 1 = t - j by omega]
          rw [hix] at hlv
          obtain ⟨hl1, hl2, hl3, hl4⟩ := hlv
          obtain ⟨Dj, hv, hn'⟩ := hsv.at' j (by omega)
          rw [← hte, show t - 1 - j = t - (j + 1) by omega] at hv hn'
          have htm : rs.getD (t - (j + 1)) [] ∈ rs := by
            rw [List.getD_eq_getElem?_getD, List.getElem?_eq_getElem (by omega), Option.getD_some]
            exact List.getElem_mem _
          have htl := (HH.out.2.2.2.2.2.1 _ htm).2
          have hcl := hl4.len
          have hcell := ho.cellAt j (by omega)
          rw [hv, ← hbw.cell (p := ⟨g, j, none⟩) (ho.lt g rfl).2] at hcell
          obtain ⟨top, htop⟩ : ∃ top, top = rs.getD (t - (j + 1)) [] := ⟨_, rfl⟩
          rw [← htop] at hl1 hl2 hl3 hl4 hcl hn' htl hcell
          have hcl2 : cur.length = smpN top.length := hcl
          obtain ⟨kt, hkt⟩ : ∃ kt, top.length = kt := ⟨_, rfl⟩
          rw [hkt] at hcl2 hl3 htl hcell
          have hab := above_any (some ⟨Dj, 0, none⟩) A' kt kt ca top cur o wr (hn'.kept hbw) hkt hon (by rw [hso.len, hcl2]) (by omega) hl3 hl2 hl4 hso
          have H4 := Lib.hid (And.intro hab (And.intro hl1 (And.intro hkt hbw)))
          rw [hcl2]
          clear hab hl1 hl2 hl4 hkt hbw hcl hcl2 hon hso hn' hv htm hix htop hsv ho hG hte
          have q1 : IntKind.i64.wrap (((j + 1 : Nat) : Int) - 1) = (j : Int) := by rw [Int.natCast_add]; exact (IntWalk.i64_in _ (by omega)).trans (by omega)
          have q2 : (((j + 1 : Nat) : Int) - 1) = (j : Int) := by omega
          have q3 : (0 : Int) ≤ (j : Int) := by omega
          have q4 : (j : Int) < (t : Int) := by omega
          have q5 : IntKind.i64.wrap ((j : Int) - 1) = (j : Int) - 1 := IntWalk.i64_in _ (by omega)
          rw [q2]
          go_wp2_with fail
          (with_reducible refine H4.out.1.mono ?_)
          rintro e u4 ⟨A2, c2, O, rfl, h1, h2, h3, h4, h5⟩
          have H5 := Lib.hid (And.intro h1 (And.intro h2 (And.intro h3 (And.intro h4 h5))))
          clear h1 h2 h3 h4 h5
          go_wp2
          go_roundw
          case rel =>
            obtain ⟨h1, h2, h3, h4, h5⟩ := H5.out
            obtain ⟨-, hl1, hkt, hbw⟩ := H4.out
            exact ⟨j, top, O, A2, c2, by omega, rfl, by rw [hkt], h1, h4, by rw [hkt]; exact h2, hl1, hbw.trans (h3.mono hbw.size), h5.mono (Nat.le_trans H3.out.2.2.2.1.size hbw.size)⟩
          case measure => simp [intOf]
        · obtain rfl : s = 0 := by omega
          have hte := H3.out.2.2.2.2.2.2.2
          have hwb := H3.out.2.2.2.1
          rw [Nat.sub_zero, hte, List.drop_length] at hlv
          have hcl : cur.length = n := by rw [hlv, rnkL_length, HX.out.2.1]
          rw [hlv] at hso
          have hoe := sa_rank HX.out.2.2 hso
          rw [hoe] at hon
          rw [hcl] at hca ⊢
          have H4 := Lib.hid (And.intro hon (hwb.trans (hbw.mono hwb.size)))
          clear hon hso hoe hlv hcl hte hwb hbw
          go_wp2
          try rw [Exit.noGoto_ret]
          go_ret
          exact ⟨A', ca, rfl, H4.out.1, hca, H4.out.2, HFR.out⟩

end Go.Proofs.Ytdepncdknofocaa
