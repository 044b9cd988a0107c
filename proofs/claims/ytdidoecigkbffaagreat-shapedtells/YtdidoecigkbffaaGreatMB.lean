/- The contract of Cost. -/
import Derived.Test.YtdidoecigkbffaaGreatMA
import Derived.Test.YtdidoecigkbffaaGreatBc
set_option maxRecDepth 100000
namespace Go.Proofs.YtdidoecigkbffaaGreat
open Go.RowKit
open S J

/-- The value of a rank. -/
def rv (R : RP) : Value := .agg #[.int .i64 (R.n : Int), .slice R.a R.m R.c, .int .i64 (R.cn : Int), .int .i64 (R.cW : Int), .int .i64 (R.cL : Int), .slice R.a2 R.m2 R.c2]

/-- The parts: of each text of ks the rank of its bits. -/
structure PM (w : World) (b N : Nat) (ks : List (List Bool)) (P : List Bool → List Bool) (Rf : List Bool → RP) : Prop where
  map : MapAt w b N (fun l => if l ∈ ks then some (rv (Rf l)) else none)
  rk : ∀ l, l ∈ ks → RK w (Rf l) (P l)
  nd : ks.Nodup

theorem PM.kept {w w' : World} {b N : Nat} {ks : List (List Bool)} {P : List Bool → List Bool} {Rf : List Bool → RP} (h : PM w b N ks P Rf) (hb : Below w.heap.size w w') : PM w' b N ks P Rf := ⟨h.map.kept hb, fun l hl => (h.rk l hl).kept hb, h.nd⟩

theorem RK.kp {X : Nat → Prop} {w u u' : World} {R : RP} {l : List Bool} (h : RK w R l) (hu : RK u R l) (hk : Kp X u u') (hx : ∀ k, k < w.heap.size → ¬ X k) : RK u' R l :=
  { hu with
    row := row_kp hu.row hk (fun k e => hx k (row_lt h.row k e))
    cnts := by
      rcases h.cnts with c | c
      · exact .inl c
      · rcases hu.cnts with c' | c'
        · exact .inl c'
        · exact .inr (irow_kp c' hk (fun k e => hx k (row_lt c.row k e))) }

theorem row_cells {u : World} {s : Value} {l : List Bool} (h : RowAt u s l) : ∀ k, s.ownBlock = some k → ∃ cs f, u.heap[k]? = some (.cells cs 98 f) := by
  intro k hk
  rcases h.2 with ⟨rfl, -⟩ | ⟨g, cap, cur, rfl, -, hg, -⟩
  · simp [Value.ownBlock] at hk
  · simp [Value.ownBlock] at hk
    subst hk
    exact ⟨_, _, hg⟩

/-- Blocks that hold no cells may turn. -/
theorem RK.kpT {X : Nat → Prop} {u u' : World} {R : RP} {l : List Bool} (hu : RK u R l) (hk : Kp X u u') (hx : ∀ k, X k → ∀ cs f, u.heap[k]? ≠ some (.cells cs 98 f)) : RK u' R l :=
  { hu with
    row := row_kp hu.row hk (fun k e h => by obtain ⟨cs, f, e2⟩ := row_cells hu.row k e; exact hx k h cs f e2)
    cnts := by
      rcases hu.cnts with c | c
      · exact .inl c
      · exact .inr (irow_kp c hk (fun k e h => by obtain ⟨cs, f, e2⟩ := row_cells c.row k e; exact hx k h cs f e2)) }

/-- What is still to come, added up. -/
def rest (ks : List (List Bool)) (F : List Bool → Nat) (left : List Bool → Bool) : Nat := ((ks.filter left).map F).sum

theorem rest_step (F : List Bool → Nat) (left : List Bool → Bool) (l : List Bool) (hll : left l = true) : ∀ (ks : List (List Bool)), ks.Nodup → l ∈ ks → rest ks F left = F l + rest ks F (fun x => left x && !decide (x = l)) := by
  intro ks
  induction ks with
  | nil => intro _ h; simp at h
  | cons k ks ih =>
    intro hnd hl
    rw [List.nodup_cons] at hnd
    unfold rest
    by_cases e : k = l
    · subst e
      have h2 : ks.filter (fun x => left x && !decide (x = k)) = ks.filter left := by
        apply List.filter_congr
        intro x hx
        have : x ≠ k := fun e => hnd.1 (e ▸ hx)
        simp [this]
      rw [List.filter_cons, if_pos hll, List.filter_cons, if_neg (by simp), h2]
      simp
    · have hl' : l ∈ ks := by
        rcases List.mem_cons.1 hl with h | h
        · exact absurd h.symm e
        · exact h
      have := ih hnd.2 hl'
      unfold rest at this
      rw [List.filter_cons, List.filter_cons]
      by_cases hk : left k = true
      · rw [if_pos hk, if_pos (by simp [hk, e])]
        simp only [List.map_cons, List.sum_cons]
        omega
      · rw [if_neg hk, if_neg (by simp [hk])]
        exact this

theorem rest_none (ks : List (List Bool)) (F : List Bool → Nat) (left : List Bool → Bool) (h : ∀ l, left l = false) : rest ks F left = 0 := by
  unfold rest
  have : ks.filter left = [] := by rw [List.filter_eq_nil_iff]; intro l _; rw [h l]; simp
  rw [this]; rfl

set_option maxHeartbeats 2000000 in
theorem cost_any (n b N : Nat) (cv sv : Value) (ks : List (List Bool)) (P : List Bool → List Bool) (Rf : List Bool → RP) (w : World) (h : PM w b N ks P Rf) (hsm : rest ks (fun l => (P l).length) (fun _ => true) ≤ 1000000) :
    Calls Tryz.prog 15 #[.agg #[.int .i64 (n : Int), cv, sv, .map (some b)]] w fun e w' => e = .returned (.int .i64 (rest ks (fun l => (P l).length) (fun _ => true) : Nat)) ∧ Below w.heap.size w w' := by
  obtain ⟨T, hT⟩ : ∃ T, T = rest ks (fun l => (P l).length) (fun _ => true) := ⟨_, rfl⟩
  rw [← hT] at hsm
  rw [← hT]
  have hal : Below w.heap.size w (w.alloc (.cells #[.int .i64 (n : Int), cv, sv, .map (some b)] 31)) := (Below.refl _ _).alloc (Nat.le_refl _) _
  have H := Lib.hid (And.intro (h.kept hal) (And.intro hal hT))
  clear h hal hT
  go_enter Tryz.func15, Tryz.ntmps15
  go_wp2_with (first | (at_range; refine wpList_range_map _ rfl (.tmp 7) 29 56 rfl Tryz.underlying29 b N _ rfl H.out.1.map ?_; intro w0 cnt hR _ hb0))
  go_frame
  have hb00 : Below w.heap.size w w0 := H.out.2.1.trans (hb0.mono H.out.2.1.size)
  obtain ⟨r, hr⟩ : ∃ r, r = (w.alloc (.cells #[.int .i64 (n : Int), cv, sv, .map (some b)] 31)).heap.size := ⟨_, rfl⟩
  rw [← hr] at hR
  rw [← hr]
  have hpm : ∀ u, Kp (fun k => k = r) w0 u → ∀ l, l ∈ ks → RK u (Rf l) (P l) := fun u hu l hl =>
    (H.out.1.rk l hl).kp ((H.out.1.kept hb0).rk l hl) hu (fun k hk e => by rw [e, hr] at hk; omega)
  have hrw : w.heap.size ≤ r := by rw [hr]; simp
  have hmem : ∀ l, (if l ∈ ks then some (rv (Rf l)) else none).isSome = decide (l ∈ ks) := fun l => by by_cases e : l ∈ ks <;> simp [e]
  have h0 : rest ks (fun l => (P l).length) (fun l => (if l ∈ ks then some (rv (Rf l)) else none).isSome) = T := by
    rw [H.out.2.2]
    unfold rest
    congr 2
    apply List.filter_congr
    intro l hl
    rw [hmem]; simp [hl]
  have HP := Lib.hid (And.intro hpm (And.intro hb00 (And.intro h0 hrw)))
  have HR := Lib.hid hR
  have hrs : r < w0.heap.size := hR.ne.2.1
  clear hR hpm hb00 h0 hrw hmem hb0 hr
  have hnd := H.out.1.nd
  clear H
  go_loopw [3, 5] (fun v3 _ wr => ∃ (left : List Bool → Bool) (cnt c : Nat), v3 = .int .i64 (c : Int) ∧ RangeAt wr b r N (fun l => if l ∈ ks then some (rv (Rf l)) else none) left cnt ∧ c + rest ks (fun l => (P l).length) left = T ∧ Kp (fun k => k = r) w0 wr) (fun _ _ wr => wr.rangeLeft b r)
  case atStart => exact ⟨_, cnt, 0, rfl, HR.out, by rw [HP.out.2.2.1]; omega, Kp.refl _ _⟩
  case round =>
    obtain ⟨left, cnt1, c, rfl, hR, hsum, hK⟩ := hrel
    have HRR := Lib.hid hR
    have HS := Lib.hid (And.intro hsum hK)
    clear hR hsum hK HR
    go_wp2_with (first | (at_next; refine wpList_next_map _ rfl (.tmp 8) rfl b r N _ left cnt1 rfl HRR.out ?done ?more))
    case done =>
      intro hl
      have hc : c = T := by have := HS.out.1; rw [rest_none _ _ _ hl] at this; omega
      subst hc
      have HB := Lib.hid (HP.out.2.1.trans (HS.out.2.toBelow (B := w.heap.size) HP.out.2.1.size (fun k hk e => by have := HP.out.2.2.2; omega)))
      clear hl
      go_wp2
      go_ret
      exact ⟨rfl, HB.out⟩
    case more =>
      intro l v w' cnt' hll hlk hv hl1 hR' hlt hk' hen
      subst hv
      have hst := rest_step (fun l => (P l).length) left l hll ks hnd hlk
      have hs0 := HS.out.1
      have hKw : Kp (fun k => k = r) w0 w' := HS.out.2.trans hk'
      have hlen := (HP.out.1 w0 (Kp.refl _ _) l hlk).len
      have hrk : ∀ u, Kp (fun k => k = r) w0 u → RK u (Rf l) (P l) := fun u hu => HP.out.1 u hu l hlk
      have hal : Below w'.heap.size w' (w'.alloc (.cells #[.int .i64 ((Rf l).n : Int), .slice (Rf l).a (Rf l).m (Rf l).c, .int .i64 ((Rf l).cn : Int), .int .i64 ((Rf l).cW : Int), .int .i64 ((Rf l).cL : Int), .slice (Rf l).a2 (Rf l).m2 (Rf l).c2] 56)) := (Below.refl _ _).alloc (Nat.le_refl _) _
      have hcl := rlen_any (Rf l) (P l) _ ((hrk w' hKw).kept hal)
      have HCL := Lib.hid hcl
      have HRN := Lib.hid (And.intro hR' (And.intro hKw hal))
      have hbd : c + (Rf l).n + rest ks (fun l => (P l).length) (fun x => left x && !decide (x = l)) = T := by
        have e1 : (P l).length = (Rf l).n := hlen
        omega
      have HBD := Lib.hid hbd
      have hcn : (c : Int) + ((Rf l).n : Int) ≤ 1000000 := by omega
      unfold rv at hen
      clear hcl hR' hKw hal hbd hst hs0 hlen hrk hk'
      generalize hRl : Rf l = R at *
      clear hRl
      go_wp2_with fail
      (with_reducible refine HCL.out.mono ?_)
      rintro e u5 ⟨rfl, hb5⟩
      have HB5 := Lib.hid hb5
      clear hb5 hen
      go_wp2
      go_roundw
      case rel => exact ⟨_, cnt', c + R.n, by go_num, (HRN.out.1.kept HRN.out.2.2).kept HB5.out, HBD.out, (HRN.out.2.1.below HRN.out.2.2).below HB5.out⟩
      case measure => rw [((HRN.out.1.kept HRN.out.2.2).kept HB5.out).left, HRR.out.left]; exact hlt

end Go.Proofs.YtdidoecigkbffaaGreat
