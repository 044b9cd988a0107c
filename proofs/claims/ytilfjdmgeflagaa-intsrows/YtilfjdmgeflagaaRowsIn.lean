/- The walk of IntsRows, where the place that is asked for is one of the row. -/
import Derived.Test.YtilfjdmgeflagaaRowsB
import Derived.Deep.CutRange
import Derived.Deep.CutBlock
namespace Go.Proofs.Ytilfjdmgeflagaa
open Go.RowKit
open M

set_option maxRecDepth 100000 in
set_option maxHeartbeats 4000000 in
theorem rows_walk_in (a1 : Option Addr) (n1 c1 : Nat) (xs : List Int) (x y : Int) (cut : Bool) (w : World) (e1 : xs.length = n1) (hk1 : n1 ≤ c1) (hm1 : c1 ≤ maxLen) (h1 : NumsAt .i64 w a1 xs) (h64 : I64s xs) (hy : y ≤ 9223372036854775807) (M1 : Nat) (hM : min n1 100 = M1) (hin0 : 0 ≤ y ∧ y < (M1 : Int)) :
    Calls Try.prog 3 #[.slice a1 n1 c1, .agg #[.int .i64 x, .int .i64 y], .bool cut] w fun e w' => e = .returned (.bool true) ∧ Below w.heap.size w w' := by
  have HIN0 := Lib.hid hin0
  clear hin0
  have hfw := fun u => few_any a1 n1 c1 u hk1 hm1
  have hms : NumsAt .i64 w a1 (xs.take 100) ∧ (xs.take 100).length = min n1 100 ∧ I64s (xs.take 100) := ⟨h1.take 100, by simp; omega, i64s_take h64 100⟩
  have hM100 : M1 ≤ 100 := by omega
  rw [hM] at hms hfw
  generalize xs.take 100 = ms at *
  have HX := Lib.hid (And.intro hfw hms)
  clear hfw hms h1 h64 e1 hk1 hm1 hM
  go_enter Try.func3, Try.ntmps3
  go_wp2_with fail
  refine (awake_any _).mono ?_
  rintro e w1 ⟨rfl, hb⟩
  have hS := SS.start w x y hb
  have l0 := hS.c0
  have l1 := hS.c1
  have HS := Lib.hid hS
  clear hb hS
  go_wp2_with fail
  refine (HX.out.1 _).mono ?_
  rintro e w2 ⟨rfl, rfl⟩
  go_upto_region 3 with fail
  go_cut [30] from 20 to 30 (fun v30 wx => (∃ b : Bool, v30 = .bool b ∧ (b = true → 0 ≤ x ∧ x ≤ 62)) ∧ wx = w1)
  case first =>
    cases cut
    · go_wp2
      go_meet
      exact ⟨⟨false, rfl, by simp⟩, rfl⟩
    · by_cases h0 : 0 ≤ x
      · by_cases h1 : x ≤ 62
        · go_wp2
          go_meet
          exact ⟨⟨true, rfl, fun _ => ⟨h0, h1⟩⟩, rfl⟩
        · go_wp2
          go_meet
          exact ⟨⟨false, rfl, by simp⟩, rfl⟩
      · go_wp2
        go_meet
        exact ⟨⟨false, rfl, by simp⟩, rfl⟩
  case rest =>
    obtain ⟨⟨b, rfl, hbx⟩, rfl⟩ := hcut
    go_upto_if 30 with fail
    go_cut [8] from 31 to 50 (fun v8 wx => ∃ (a : Option Addr) (n cap : Nat) (ms : List Int), v8 = .slice a n cap ∧ NumsAt .i64 wx a ms ∧ ms.length = n ∧ n = M1 ∧ I64s ms ∧ SS w x y (.slice none 0 0) (.slice none 0 0) [] [] wx)
    case first =>
      cases b
      · go_wp2
        go_meet
        obtain ⟨-, h1, h2, h3⟩ := HX.out
        exact ⟨a1, M1, c1, ms, rfl, h1.kept HS.out.bel, h2, rfl, h3, HS.out⟩
      · obtain ⟨h0, h62⟩ := hbx rfl
        obtain ⟨W, rfl⟩ := Int.eq_ofNat_of_zero_le h0
        have hW : W ≤ 62 := by omega
        clear hbx h0 h62
        obtain ⟨i0, hi0, hz00, hz01, hz02⟩ := info_parts info3
        go_wp2_with fail
        go_loopw [9, 10] (fun v9 v10 wr => ∃ (i : Nat) (p : List Int), i ≤ M1 ∧ v10 = .int .i64 (i : Int) ∧ p.length = i ∧ I64s p ∧ SS w (W : Int) y v9 (.slice none 0 0) p [] wr) (fun _ v10 _ => M1 - (intOf v10).toNat)
        case atStart => exact ⟨0, [], Nat.zero_le _, rfl, rfl, fun x h => absurd h (by simp), HS.out⟩
        case round =>
          obtain ⟨i, p, hi, rfl, hpl, hp64, hs⟩ := hrel
          obtain ⟨-, h1, h2, h3⟩ := HX.out
          by_cases hlt : i < M1
          · rcases h1.kept hs.bel with hnil | ⟨bb, off, rfl, hbs, hcs⟩
            · subst hnil; simp at h2; omega
            have hcb := hcs i (by omega)
            have q1 : (i : Int) < (M1 : Int) := by omega
            have q2 : (0 : Int) ≤ (i : Int) := by omega
            obtain ⟨z', hand, hz1, hz2⟩ := cut_num (ms.getD i 0) W hW
            have hp2 : (2 : Nat) ^ W ≤ 2 ^ 62 := Nat.pow_le_pow_right (by decide) hW
            have hp1 : (0 : Nat) < 2 ^ W := Nat.pow_pos (by decide)
            have e2 : ((2 : Int) ^ W) = ((2 ^ W : Nat) : Int) := by simp
            have hr1 : IntKind.i64.wrap ((2 : Int) ^ W) = (2 : Int) ^ W := IntWalk.i64_in _ (by rw [e2]; omega)
            have hr2 : IntKind.i64.wrap ((2 : Int) ^ W - 1) = ((2 ^ W - 1 : Nat) : Int) := by rw [e2, IntWalk.i64_in _ (by omega)]; omega
            have l0 := hs.c0
            have hsz := hs.lt
            have HB := Lib.hid (And.intro hs (And.intro hpl hp64))
            clear hs hpl hp64 hcs h1 h2 h3 hp2 hp1 e2
            generalize ms.getD i 0 = z at *
            generalize hmk : ((2 ^ W - 1 : Nat) : Int) = mk at *
            clear hmk
            have q6 : min W 64 = W := by omega
            have q7 : IntKind.u64.wrap (W : Int) = (W : Int) := wrapU W (by omega)
            have hps : p.length + 1 ≤ maxLen := by rw [HB.out.2.1]; unfold maxLen; omega
            have hpb : (p.length + 1) * 8 ≤ 140737488355328 := by rw [HB.out.2.1]; omega
            go_wp2
            go_region_law
              ((refine step_append_lies _ (by rfl) _ _ _ (by rfl) (w.heap.size + 1) 3 i0 _ 1 8 Try.underlying22 hi0 hz00 hz01 hz02 rfl (by omega) u9 p.length (p.map (Value.int .i64)) (by rfl) ((HB.out.1.alloc _).r8.drew)
                  ⟨wr.heap.size, 0, none⟩ 1 1 [.int .i64 z'] (by rfl) (by rfl) (World.news_of_block (cs := #[.int .i64 z']) (t := 3) (fr := (0, 0)) (heap_alloc_new wr _)) (by simp [Value.oneCell'])
                  (by omega) hps hpb (by simp; omega) (wr.heap.size + 1) (by simp) ?_; intro gg cap' w1 hown1 hgrow hat hlt1))
            all_goals
              have hsd := (HB.out.1.alloc (.cells #[.int .i64 z'] 3)).kept ((Below.refl _ _).drew)
              have hs4 := hsd.app8 (v' := .slice (some ⟨gg, 0, none⟩) (p.length + 1) cap') (p' := p ++ [z']) (by simpa using hown1) hgrow (by
                rcases hat with e | e
                · left; rw [e]; rfl
                · right; rw [e]; simp [Value.ownBlock])
              have HS4 := Lib.hid hs4
              clear hs4 hsd hown1 hgrow hat hlt1 hcb l0 q6 q7 hr1 hr2 hand hps hpb
              go_wp2
              go_roundw
              case rel =>
                refine ⟨i + 1, p ++ [z'], by omega, by go_num, by rw [List.length_append, HB.out.2.1]; rfl, ?_, HS4.out⟩
                intro v hv
                rcases List.mem_append.1 hv with h | h
                · exact HB.out.2.2 v h
                · simp only [List.mem_singleton] at h; subst h; exact ⟨by omega, hz2⟩
              case measure => simp [intOf]; omega
          · obtain rfl : i = M1 := by omega
            have r8 := hs.r8
            rw [hpl] at r8
            obtain ⟨b8, d8, rfl, hn8, -⟩ := nums_of_own r8
            have hs2 : SS w (W : Int) y (.slice none 0 0) (.slice none 0 0) [] [] wr := ⟨hs.c0, hs.c1, World.ownsRow_nil _ _ _ _, World.ownsRow_nil _ _ _ _, fun k e => by simp [Value.ownBlock] at e, hs.bel⟩
            have HY := Lib.hid (And.intro hn8 (And.intro hpl (And.intro hp64 hs2)))
            clear hs hs2 hpl hp64 hn8 r8 h1 h2 h3
            go_wp2
            go_meet
            exact ⟨_, _, _, p, rfl, HY.out.1, HY.out.2.1, rfl, HY.out.2.2⟩
    case rest =>
      obtain ⟨a8, n8, d8, ms8, rfl, hn8, hl8, hnM, h64, hs8⟩ := hcut
      clear hbx
      have h100 : n8 ≤ 100 := by omega
      have hin1 : 0 ≤ y ∧ y < (n8 : Int) := by have := HIN0.out; omega
      have HIN := Lib.hid hin1
      clear hnM hM100 hin1
      have hpack : (∃ W : Nat, x = (W : Int) ∧ W ≤ 62 ∧ Fits ms8 W) ∨
          ((∀ u, NumsAt .i64 u a8 ms8 → Calls Try.prog 11 #[.slice a8 n8 d8, .int .i64 x] u fun e w' => e = .returned (.tuple #[noInts, .int .i64 1]) ∧ Below u.heap.size u w') ∧
           (∀ u, NumsAt .i64 u a8 ms8 → Calls Try.prog 12 #[.slice a8 n8 d8, .int .i64 x] u fun e w' => e = .returned (.bool false) ∧ u = w')) := by
        by_cases hx : 0 ≤ x ∧ x ≤ 62
        · obtain ⟨W, rfl⟩ := Int.eq_ofNat_of_zero_le hx.1
          by_cases hf : Fits ms8 W
          · exact .inl ⟨W, rfl, by omega, hf⟩
          · exact .inr ⟨fun u hu => pack_bad a8 n8 d8 ms8 W u hu hl8 (by omega) (by omega) h64 hf, fun u hu => may_any a8 n8 d8 ms8 W u hu hl8 (by omega) h64 (by omega) false (by simp [hf])⟩
        · exact .inr ⟨fun u _ => pack_arg a8 n8 d8 x u hx, fun u _ => may_arg a8 n8 d8 x u hx⟩
      have l0 := hs8.c0
      have l1 := hs8.c1
      rcases hpack with ⟨W, rfl, hW, hfit⟩ | ⟨hpk, hmay⟩
      · have hpk := pack_irow a8 n8 d8 ms8 W wc hn8 hl8 hW (by omega) hfit
        have HA := Lib.hid (And.intro hpk (And.intro hn8 hs8))
        have HF := Lib.hid (And.intro hl8 (And.intro h64 hfit))
        clear hpk hn8 hs8 hl8 h64 hfit HX HS
        go_wp2_with fail
        refine HA.out.1.mono ?_
        rintro e w3 ⟨g3, L3, m3, rfl, hr3, hb3⟩
        have hal3 := ((Below.refl w3.heap.size w3).alloc (Nat.le_refl _) (.cells #[.int .i64 (n8 : Int), .int .i64 (W : Int), .int .i64 (L3 : Int), .slice (some ⟨g3, 0, none⟩) m3 m3] 31))
        have hs3 := (HA.out.2.2.kept hb3)
        have hlt3 := hs3.lt
        clear l0 l1
        have l0 := hs3.c0
        have l1 := hs3.c1
        have hri : RI w (W : Int) y w3.heap.size n8 W L3 g3 m3 ms8 a8 (w3.alloc (.cells #[.int .i64 (n8 : Int), .int .i64 (W : Int), .int .i64 (L3 : Int), .slice (some ⟨g3, 0, none⟩) m3 m3] 31)) := ⟨⟨hs3.kept hal3, IBx.new _ _ _ _ _⟩, hr3.kept hal3, (HA.out.2.1.kept hb3).kept hal3⟩
        have HMUL := Lib.hid hr3.mul
        have HI := Lib.hid hri
        clear hri hal3 hs3 hr3 hb3 HA
        go_wp2_with fail
        refine (may_any a8 n8 d8 ms8 W _ HI.out.q HF.out.1 (by omega) HF.out.2.1 hW true (by simp [HF.out.2.2])).mono ?_
        rintro e w4 ⟨rfl, rfl⟩
        clear l0 l1 hlt3
        generalize (w3.alloc (.cells #[.int .i64 (n8 : Int), .int .i64 (W : Int), .int .i64 (L3 : Int), .slice (some ⟨g3, 0, none⟩) m3 m3] 31)) = w5 at *
        generalize w3.heap.size = k3 at *
        obtain ⟨d0, d1, d2, d3, d4, d5⟩ := HI.out.cells
        go_wp2_with fail
        refine (list_ri HI.out).mono ?_
        clear d0 d1 d2 d3 d4 d5
        rintro e w6 ⟨g6, rfl, hn6, hr⟩
        have HI6 := Lib.hid (And.intro hr hn6)
        clear hr hn6 HI
        go_wp2_with fail
        refine (rsame_any (some ⟨g6, 0, none⟩) a8 n8 n8 n8 d8 ms8 ms8 w6 HI6.out.2 HI6.out.1.q HF.out.1 HF.out.1 (by omega)).mono ?_
        rintro e w7 ⟨rfl, hb7⟩
        rw [decide_eq_true (rfl : ms8 = ms8)]
        have hr := HI6.out.1.kept hb7
        obtain ⟨d0, d1, d2, d3, d4, d5⟩ := hr.cells
        have HI7 := Lib.hid hr
        clear hr hb7 HI6
        obtain ⟨V, hV⟩ : ∃ V, wid y.toNat = V := ⟨_, rfl⟩
        have HV := Lib.hid hV
        obtain ⟨str, hstr⟩ : ∃ str, strOfNums (bytI (rowB ms8 W) (p8 L3)) = str := ⟨_, rfl⟩
        have HSTR := Lib.hid hstr
        clear hV hstr
        have hin := HIN.out
        clear HIN HIN0
        obtain ⟨k, rfl⟩ := Int.eq_ofNat_of_zero_le hin.1
        have hk8 : k < n8 := by omega
        have hat := atI_in ms8 k (by rw [HF.out.1]; exact hk8)
        have hx0 := (HF.out.2.2 _ (memI ms8 k (by rw [HF.out.1]; exact hk8))).1
        have hget := get_ri HI7.out (k : Int) (ms8.getD k 0) 0 (.inl ⟨by omega, by omega, by simp, rfl⟩)
        have HG := Lib.hid hget
        obtain ⟨z, hz⟩ : ∃ z, ms8.getD k 0 = z := ⟨_, rfl⟩
        have HZ := Lib.hid hz
        rw [hz] at hat hx0 HG
        have HAT := Lib.hid hat
        clear hget hat hz hin
        go_wp2_with fail
        refine HG.out.mono ?_
        clear d0 d1 d2 d3 d4 d5
        rintro e w8 ⟨rfl, hr⟩
        have hnn := hr.q
        have hll := hr.r.len
        obtain ⟨d0, d1, d2, d3, d4, d5⟩ := hr.cells
        have HR := Lib.hid hr
        clear hr HI7 HG
        rcases hnn with hnil | ⟨bb, off, rfl, hbs, hcs⟩
        · subst hnil; simp at hll; omega
        have hcb := hcs k (by omega)
        rw [HZ.out] at hcb
        clear hcs hll
        go_upto_region 18 with fail
        clear hcb HF HZ HMUL
        as_aux_lemma =>
          have hr := HR.out
          have hund : undef = Value.tuple #[] := rfl
          simp only [List.append_eq, List.cons_append, List.nil_append]
          first
            | (go_region_held (fun w' => w'.cell? ⟨w.heap.size, 0, none⟩ = some (.int .i64 (W : Int)) ∧ w'.cell? ⟨w.heap.size, 1, none⟩ = some (.int .i64 (k : Int)) ∧ w'.cell? ⟨k3, 0, none⟩ = some (.int .i64 (n8 : Int)) ∧ w'.cell? ⟨k3, 1, none⟩ = some (.int .i64 (W : Int)) ∧ w'.cell? ⟨k3, 2, none⟩ = some (.int .i64 (L3 : Int)) ∧ w'.cell? ⟨k3, 3, none⟩ = some (.slice (some ⟨g3, 0, none⟩) m3 m3))
              (first
                | (with_reducible exact hr.cells)
                | (with_reducible exact hr.drew.cells)
                | go_keep)
              (first
                | (go_at_call 13; (with_reducible refine (len_ri hr.drew).mono ?_); rintro e u ⟨rfl, hr⟩)
                | (go_at_call 13; (with_reducible refine (len_ri hr).mono ?_); rintro e u ⟨rfl, hr⟩)
                | (go_at_call 19; (with_reducible refine (width_ri hr).mono ?_); rintro e u ⟨rfl, hr⟩)
                | (go_at_call 20; (with_reducible refine (at_ri hr (k : Int) _ HAT.out).mono ?_); rintro e u ⟨rfl, hr⟩)
                | (go_at_call 21; (with_reducible refine (bytes_ri hr str HSTR.out).mono ?_); rintro e u ⟨rfl, hr⟩)
                | (go_at_call 23; (with_reducible refine (rrow_ri hr d8 h100).mono ?_); rintro e u ⟨a13, c13, rfl, hbl, hr⟩)
                | (go_at_call 22; (with_reducible refine (rbytes_ri hr a13 c13 hbl str HSTR.out).mono ?_); rintro e u ⟨rfl, hr⟩)
                | (go_at_call 14; (with_reducible refine (width_rk hy V HV.out _).mono ?_); rintro e u ⟨rfl, rfl⟩)
                | (go_at_call 15; (with_reducible refine (rwidth_rk hy V HV.out _).mono ?_); rintro e u ⟨rfl, rfl⟩)))
            | fail
          all_goals
            have HFin := Lib.hid hr.k.s.bel
            clear hr d0 d1 d2 d3 d4 d5
            go_wp2
            go_ret
            exact ⟨rfl, HFin.out⟩
      · have HA := Lib.hid (And.intro (hpk _ hn8) (And.intro hmay (And.intro hn8 hs8)))
        clear hpk hmay hn8 hs8 h64 HX HS
        go_wp2_with fail
        refine HA.out.1.mono ?_
        rintro e w3 ⟨rfl, hb3⟩
        unfold noInts
        have hal3 := ((Below.refl w3.heap.size w3).alloc (Nat.le_refl _) (.cells #[.int .i64 0, .int .i64 0, .int .i64 0, .slice none 0 0] 31))
        have hs3 := (HA.out.2.2.2.kept hb3)
        have hn3 := (HA.out.2.2.1.kept hb3).kept hal3
        have hbx3 := IBx.new w3 0 0 0 (.slice none 0 0)
        have hlt3 := hs3.lt
        clear l0 l1
        have l0 := hs3.c0
        have l1 := hs3.c1
        have HB := Lib.hid (And.intro (HA.out.2.1 _ hn3) (And.intro (hs3.kept hal3) hbx3))
        clear hal3 hs3 hn3 hbx3 hb3 HA
        go_wp2_with fail
        refine HB.out.1.mono ?_
        rintro e w4 ⟨rfl, rfl⟩
        have hr : RK w x y w3.heap.size 0 0 0 none 0 0 (w3.alloc (.cells #[.int .i64 0, .int .i64 0, .int .i64 0, .slice none 0 0] 31)) := ⟨HB.out.2.1, HB.out.2.2⟩
        obtain ⟨V, hV⟩ : ∃ V, wid y.toNat = V := ⟨_, rfl⟩
        have HV := Lib.hid hV
        clear hV HB
        go_upto_region 12 with fail
        clear l0 l1 hlt3
        generalize (w3.alloc (.cells #[.int .i64 0, .int .i64 0, .int .i64 0, .slice none 0 0] 31)) = w5 at *
        generalize w3.heap.size = k3 at *
        as_aux_lemma =>
          obtain ⟨c0, c1', c2, c3, c4⟩ := hr.cells
          go_region_held3 (fun w' => w'.cell? ⟨w.heap.size, 1, none⟩ = some (.int .i64 y) ∧ w'.cell? ⟨k3, 0, none⟩ = some (.int .i64 0) ∧ w'.cell? ⟨k3, 1, none⟩ = some (.int .i64 0) ∧ w'.cell? ⟨k3, 2, none⟩ = some (.int .i64 0) ∧ w'.cell? ⟨k3, 3, none⟩ = some (.slice none 0 0))
            (first
              | (with_reducible exact hr.cells)
              | (exact hr.cells)
              | go_keep)
            (first
              | (go_at_call 13; (with_reducible refine (len_rk hr.drew).mono ?_); rintro e u ⟨rfl, hr⟩)
              | (go_at_call 13; (with_reducible refine (len_rk hr).mono ?_); rintro e u ⟨rfl, hr⟩)
              | (go_at_call 14; (with_reducible refine (width_rk hy V HV.out _).mono ?_); rintro e u ⟨rfl, rfl⟩)
              | (go_at_call 15; (with_reducible refine (rwidth_rk hy V HV.out _).mono ?_); rintro e u ⟨rfl, rfl⟩))
          all_goals
            have HFin := Lib.hid hr.s.bel
            clear hr c0 c1' c2 c3 c4
            go_wp2
            go_ret
            exact ⟨rfl, HFin.out⟩

end Go.Proofs.Ytilfjdmgeflagaa
