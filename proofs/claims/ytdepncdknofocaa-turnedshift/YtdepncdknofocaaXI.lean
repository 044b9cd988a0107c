/- The contract of merged. -/
import Derived.Test.YtdepncdknofocaaXG
import Derived.Test.YtdepncdknofocaaXC
set_option maxRecDepth 100000
namespace Go.Proofs.Ytdepncdknofocaa
open Go.RowKit
open M
attribute [local go_sem ↓] Go.wp_at_zero Go.wp_at_succ

def lenOf : Value → Nat
  | .slice _ n _ => n
  | _ => 0
theorem mrg_take {lt : Int → Int → Bool} {x q : Int} {X B : List Int} (h : lt x q = true) : mrg lt (x :: X) (q :: B) = x :: mrg lt X (q :: B) := by
  unfold mrg
  rw [List.takeWhile_cons, List.dropWhile_cons, h]
  rfl
theorem mrg_skip {lt : Int → Int → Bool} {x q : Int} {X B : List Int} (h : lt x q = false) : mrg lt (x :: X) (q :: B) = q :: mrg lt (x :: X) B := by
  conv => lhs; unfold mrg
  rw [List.takeWhile_cons, List.dropWhile_cons, h]
  rfl
theorem mrg_none {lt : Int → Int → Bool} {q : Int} {B : List Int} : mrg lt [] (q :: B) = q :: mrg lt [] B := by
  conv => lhs; unfold mrg
  rfl
theorem mrg_len (lt : Int → Int → Bool) (A B : List Int) : (mrg lt A B).length = A.length + B.length := by rw [(mrg_perm lt B A).length_eq, List.length_append]

/-- What is asked of the closure. -/
def LessC (w : World) (p5 p2 p8 : Value) (a b : List Int) (lt : Int → Int → Bool) : Prop :=
  ∀ u, Below w.heap.size w u → ∀ x ∈ a, ∀ y ∈ b, Calls Try.prog 45 #[.int .i64 x, .int .i64 y, p5, p2, p8] u fun e u' => e = .returned (.bool (lt x y)) ∧ ∃ q, u' = u.drewN q

set_option maxHeartbeats 4000000 in
theorem merged_any (A B : Option Addr) (na ca nb cb : Nat) (a b : List Int) (p5 p2 p8 : Value) (lt : Int → Int → Bool) (w : World) (hA : NumsAt .i64 w A a) (hB : NumsAt .i64 w B b) (hla : a.length = na) (hlb : b.length = nb) (hca : na ≤ ca) (hAn : A = none → na = 0 ∧ ca = 0)
    (hna : na ≤ 1000000) (hnb : nb ≤ 1000000) (hC : LessC w p5 p2 p8 a b lt) :
    Calls Try.prog 46 #[.slice A na ca, .slice B nb cb, .func (.func 45) #[] #[p5, p2, p8]] w fun e u => ∃ v, e = .returned v ∧ OwnI w v (mrg lt a b) u := by
  have hlen := mrg_len lt a b
  rw [hla, hlb] at hlen
  obtain ⟨M, hM⟩ : ∃ M, mrg lt a b = M := ⟨_, rfl⟩
  rw [hM] at hlen ⊢
  have HX := Lib.hid (And.intro hB (And.intro hlb (And.intro hC (And.intro hM (And.intro hlen hla)))))
  have HA := Lib.hid (And.intro hA (And.intro hAn hca))
  obtain ⟨i0, hi, hz0, hz1, hz2⟩ := info_parts info3
  clear hB hlb hC hM hlen hla hA hAn hca
  have z1 : IntKind.i64.wrap ((na : Int) + (nb : Int)) = (na : Int) + nb := IntWalk.i64_in _ (by omega)
  go_enter Try.func46, Try.ntmps46
  go_wp2_with (first | (at_make; refine wpList_make_own _ rfl _ _ 22 rfl w.heap.size 3 i0 (.int .i64 0) 1 Try.underlying22 hi hz0 hz1 _ _ _ (na + nb) rfl rfl (by omega) ?b2 ?b3 (Nat.le_refl _) ?_))
  case b2 => first | omega | (rw [hz2]; omega)
  case b3 => unfold maxLen; omega
  intro w1 hown hgrow
  have hO : OwnI w (.slice (some ⟨w.heap.size, 0, none⟩) 0 (na + nb)) [] w1 := ⟨hown, below_grown hgrow⟩
  have HO := Lib.hid hO
  clear hown hgrow hO hi hz0 hz1 hz2
  obtain ⟨D, hDe⟩ : ∃ D, D = w.heap.size := ⟨_, rfl⟩
  rw [← hDe] at HO
  rw [← hDe]
  clear hDe
  go_wp2
  go_loopw [0, 7, 9, 18] (fun v0 v7 _ v18 wr => ∃ (k t : Nat) (done : List Int) (A' : Option Addr) (c' : Nat), k ≤ nb ∧ t ≤ na ∧ v18 = .int .i64 (k : Int) ∧ v0 = .slice A' (na - t) c' ∧ na - t ≤ c' ∧ NumsAt .i64 w A' (a.drop t) ∧ (A' = none → na - t = 0 ∧ c' = 0) ∧ OwnI w v7 done wr ∧ done ++ mrg lt (a.drop t) (b.drop k) = M) (fun _ _ _ v18 _ => nb - (intOf v18).toNat)
  case atStart => exact ⟨0, 0, [], A, ca, Nat.zero_le _, Nat.zero_le _, rfl, rfl, HA.out.2.2, HA.out.1, HA.out.2.1, HO.out, HX.out.2.2.2.1⟩
  case round =>
    obtain ⟨k, t, done, A', c', hk, ht, rfl, rfl, hc', hA, hAn, hI, he⟩ := hrel
    have hdl : done.length ≤ na + nb := by
      have := HX.out.2.2.2.2.1
      rw [← he, List.length_append] at this
      omega
    have hsz := hI.2.size
    by_cases hlt : k < nb
    · obtain ⟨bb, off, hBe, hbl, ck⟩ := num_at HX.out.1 (i := k) (by rw [HX.out.2.1]; exact hlt)
      rw [at_drop (l := b) (i := k) (by rw [HX.out.2.1]; exact hlt)] at he
      have hqm := memI b k (by rw [HX.out.2.1]; exact hlt)
      obtain ⟨q, hq⟩ : ∃ q, b.getD k 0 = q := ⟨_, rfl⟩
      rw [hq] at ck he hqm
      rw [← hI.2.cell (p := ⟨bb, off + k, none⟩) hbl] at ck
      subst hBe
      obtain ⟨w2, rfl⟩ : ∃ w2, w2 = wr := ⟨_, rfl⟩
      have HH := Lib.hid (And.intro hA (And.intro hAn (And.intro hI (And.intro he (And.intro hqm hc')))))
      clear hA hAn hI he hq hqm hdl HO hc'
      have q1 : (k : Int) < (nb : Int) := by omega
      have q2 : (0 : Int) ≤ (k : Int) := by omega
      go_wp2
      go_loopw [0, 7] (fun v0 v7 wr => ∃ (t : Nat) (done : List Int) (A' : Option Addr) (c' : Nat), t ≤ na ∧ v0 = .slice A' (na - t) c' ∧ na - t ≤ c' ∧ NumsAt .i64 w A' (a.drop t) ∧ (A' = none → na - t = 0 ∧ c' = 0) ∧ OwnI w v7 done wr ∧ done ++ mrg lt (a.drop t) (q :: b.drop (k + 1)) = M) (fun v0 _ _ => lenOf v0)
      case atStart => exact ⟨t, done, A', c', ht, rfl, HH.out.2.2.2.2.2, HH.out.1, HH.out.2.1, HH.out.2.2.1, HH.out.2.2.2.1⟩
      case round =>
        obtain ⟨t, done, A', c', ht, rfl, hc', hA, hAn, hI, he⟩ := hrel
        have hdl : done.length ≤ na + nb := by
          have := HX.out.2.2.2.2.1
          rw [← he, List.length_append] at this
          omega
        have hqm := HH.out.2.2.2.2.1
        have hsz := hI.2.size
        have hal := HX.out.2.2.2.2.2
        by_cases h0 : t < na
        · obtain ⟨r, hr⟩ : ∃ r, na - t = r + 1 := ⟨na - t - 1, by omega⟩
          obtain ⟨xa, xo, hAe, hxl, cx⟩ := num_at hA (i := 0) (by rw [List.length_drop]; omega)
          subst hAe
          have hxe : (a.drop t).getD 0 0 = a.getD t 0 := by simp [List.getD_eq_getElem?_getD]
          have hxm := memI a t (by omega)
          rw [hxe, Nat.add_zero] at cx
          have had := at_drop (l := a) (i := t) (by omega)
          have hA1 := hA.drop 1
          rw [List.drop_drop] at hA1
          rw [had] at he
          obtain ⟨x, hx⟩ : ∃ x, a.getD t 0 = x := ⟨_, rfl⟩
          rw [hx] at cx he hxm had
          rw [← hI.2.cell (p := ⟨xa, xo, none⟩) hxl] at cx
          have hcl := HX.out.2.2.1 wr hI.2 x hxm q hqm
          rw [hr] at hc' hAn ⊢
          obtain ⟨cp, rfl⟩ : ∃ cp, c' = cp + 1 := ⟨c' - 1, by omega⟩
          have q3 : (0 : Int) < (r : Int) + 1 := by omega
          have q4 : (1 : Int) ≤ (r : Int) + 1 := by omega
          have q5 : (1 : Int) ≤ (cp : Int) + 1 := by omega
          have q6 : r ≤ cp := by omega
          obtain ⟨o, ho⟩ : ∃ o, lt x q = o := ⟨_, rfl⟩
          rw [ho] at hcl
          cases o with
          | true =>
            rw [mrg_take ho] at he
            have HC := Lib.hid hcl
            have HK := Lib.hid (And.intro hA1 (And.intro hI (And.intro he had)))
            clear hA hA1 hI he had hx hxm hqm hcl ho hxe hc' hAn
            go_wp2_with fail
            (with_reducible refine HC.out.mono ?_)
            rintro e u3 ⟨rfl, q', rfl⟩
            have hI3 := HK.out.2.1.kept (below_drewN wr q')
            have HK3 := Lib.hid hI3
            have hsz3 := hI3.2.size
            have cx3 : (wr.drewN q').cell? ⟨xa, xo, none⟩ = some (.int .i64 x) := cx
            clear hI3 cx
            generalize wr.drewN q' = u3 at *
            go_wp2_with (first
              | (at_builtin
                 refine wpList_append_nums rfl (.tmp 33) (.tmp 37) rfl w.heap.size _ _ _ rfl (HK3.out.alloc _).1 (some ⟨_, 0, none⟩) 1 1 [x] rfl rfl ?c1 (by simp) ?c2 ?c3 ?_))
            case c1 => exact nums_one _ _
            case c2 => omega
            case c3 => first | omega | (simp; omega)
            intro v' w5 hown hgrow _
            have hI5 := (HK3.out.alloc _).app (l' := done ++ [x]) (by simpa using hown) hgrow
            have HX5 := Lib.hid hI5
            clear hown hgrow hI5
            rcases Nat.eq_zero_or_pos cp with hcp | hcp
            · subst hcp
              obtain rfl : r = 0 := by omega
              go_wp2
              go_roundw
              case rel =>
                refine ⟨t + 1, done ++ [x], some ⟨xa, xo, none⟩, 0, by omega, ?_, by omega, ?_, (fun h => by cases h), HX5.out, ?_⟩
                · rw [show na - (t + 1) = 0 by omega]
                · refine .inl (List.drop_eq_nil_of_le (by omega))
                · have := HK.out.2.2.1
                  rw [List.append_assoc]; exact this
              case measure => simp [lenOf]
            · have q7 : ¬ (1 : Int) = (cp : Int) + 1 := by omega
              have q8 : ¬ 1 = cp + 1 := by omega
              go_wp2
              go_roundw
              case rel =>
                refine ⟨t + 1, done ++ [x], some ⟨xa, xo + 1, none⟩, cp, by omega, ?_, by omega, HK.out.1, (fun h => by cases h), HX5.out, ?_⟩
                · rw [show na - (t + 1) = r by omega]
                · have := HK.out.2.2.1
                  rw [List.append_assoc]; exact this
              case measure => simp [lenOf]; try omega
          | false =>
            rw [mrg_skip ho, ← had] at he
            have HC := Lib.hid hcl
            have HK := Lib.hid (And.intro hA (And.intro hI (And.intro he (And.intro hr hAn))))
            clear hA hA1 hI he had hx hxm hqm hcl ho hxe hAn
            go_wp2_with fail
            (with_reducible refine HC.out.mono ?_)
            rintro e u3 ⟨rfl, q', rfl⟩
            have hI3 := HK.out.2.1.kept (below_drewN wr q')
            have HK3 := Lib.hid hI3
            have hsz3 := hI3.2.size
            clear hI3 cx
            generalize wr.drewN q' = u3 at *
            go_wp2_with (first
              | (at_builtin
                 refine wpList_append_nums rfl (.tmp 41) (.tmp 43) rfl w.heap.size _ _ _ rfl (HK3.out.alloc _).1 (some ⟨_, 0, none⟩) 1 1 [q] rfl rfl ?c1 (by simp) ?c2 ?c3 ?_))
            case c1 => exact nums_one _ _
            case c2 => omega
            case c3 => first | omega | (simp; omega)
            intro v' w5 hown hgrow _
            have hI5 := (HK3.out.alloc _).app (l' := done ++ [q]) (by simpa using hown) hgrow
            have HX5 := Lib.hid hI5
            clear hown hgrow hI5
            go_wp2
            go_roundw
            case rel =>
              refine ⟨k + 1, t, done ++ [q], some ⟨xa, xo, none⟩, cp + 1, by omega, by omega, by go_num, by rw [HK.out.2.2.2.1], by omega, HK.out.1, (fun h => by cases h), HX5.out, ?_⟩
              have := HK.out.2.2.1
              rw [List.append_assoc]; exact this
            case measure => simp [intOf]; omega
        · obtain rfl : t = na := by omega
          have hnil : a.drop t = [] := List.drop_eq_nil_of_le (by omega)
          rw [hnil, mrg_none, ← hnil] at he
          have HK := Lib.hid (And.intro hA (And.intro hI (And.intro he (And.intro hAn hc'))))
          clear hA hI he hAn hnil hqm hc'
          rw [Nat.sub_self]
          go_wp2_with (first
            | (at_builtin
               refine wpList_append_nums rfl (.tmp 41) (.tmp 43) rfl w.heap.size _ _ _ rfl (HK.out.2.1.alloc _).1 (some ⟨_, 0, none⟩) 1 1 [q] rfl rfl ?c1 (by simp) ?c2 ?c3 ?_))
          case c1 => exact nums_one _ _
          case c2 => omega
          case c3 => first | omega | (simp; omega)
          intro v' w5 hown hgrow _
          have hI5 := (HK.out.2.1.alloc _).app (l' := done ++ [q]) (by simpa using hown) hgrow
          have HX5 := Lib.hid hI5
          clear hown hgrow hI5
          go_wp2
          go_roundw
          case rel =>
            refine ⟨k + 1, t, done ++ [q], A', c', by omega, Nat.le_refl _, by go_num, by rw [Nat.sub_self], HK.out.2.2.2.2, HK.out.1, HK.out.2.2.2.1, HX5.out, ?_⟩
            have := HK.out.2.2.1
            rw [List.append_assoc]; exact this
          case measure => simp [intOf]; omega
    · obtain rfl : k = nb := by omega
      have hnil : b.drop k = [] := List.drop_eq_nil_of_le (by rw [HX.out.2.1]; exact Nat.le_refl _)
      rw [hnil, show mrg lt (a.drop t) [] = a.drop t from rfl] at he
      have hdr : (a.drop t).length = na - t := by rw [List.length_drop, HX.out.2.2.2.2.2]
      have HK := Lib.hid (And.intro (hA.kept hI.2) (And.intro hI (And.intro he (And.intro hAn hdr))))
      clear hA hI he hAn hnil hdr HO
      have q1 : ¬ (k : Int) < (k : Int) := by omega
      go_wp2_with (first
        | (at_builtin
           refine wpList_append_nums rfl (.tmp 46) (.tmp 47) rfl w.heap.size _ _ _ rfl HK.out.2.1.1 A' (na - t) c' (a.drop t) rfl HK.out.2.2.2.2 HK.out.1 HK.out.2.2.2.1 ?c2 ?c3 ?_))
      case c2 => omega
      intro v' w5 hown hgrow _
      have hI5 := HK.out.2.1.app (l' := M) (by rw [← HK.out.2.2.1, List.length_append, HK.out.2.2.2.2]; simpa using hown) hgrow
      have HX5 := Lib.hid hI5
      clear hown hgrow hI5
      go_wp2
      go_ret
      exact ⟨v', rfl, HX5.out⟩

end Go.Proofs.Ytdepncdknofocaa
