/- The contracts of ahead, few, alike, below; Turn and the document's Turn. -/
import Derived.Test.YtdepncdknofocaaXM
import Derived.Test.YtdepncdknofocaaYB
import Derived.Test.YtdepncdknofocaaOM
set_option maxRecDepth 100000
namespace Go.Proofs.Ytdepncdknofocaa
open Go.RowKit
open M
attribute [local go_sem ↓] Go.wp_at_zero Go.wp_at_succ

theorem ahead_any (A : Option Addr) (n c p : Nat) (l : List Int) (w : World) (hA : NumsAt .i64 w A l) (hl : l.length = n) (hp : p ≤ n) (hn : n ≤ 1000000) :
    Calls Try.prog 21 #[.slice A n c, .int .i64 (p : Int)] w fun e w' => e = .returned (.int .i64 (ahdI l (p : Int))) ∧ w' = w := by
  by_cases h0 : p = 0
  · have q1 : ((p : Int) == 0) = true := by simp; omega
    have he : ahdI l (p : Int) = -1 := by unfold ahdI; rw [if_pos (by omega)]
    rw [he]
    clear hA hl he
    go_enter Try.func21, Try.ntmps21
    go_wp2
    go_ret
    exact ⟨rfl, rfl⟩
  · obtain ⟨q, rfl⟩ : ∃ q, p = q + 1 := ⟨p - 1, by omega⟩
    have he : ahdI l ((q + 1 : Nat) : Int) = l.getD q 0 := by unfold ahdI; rw [if_neg (by omega), Int.toNat_natCast, Nat.add_sub_cancel]
    rw [he]
    obtain ⟨bb, off, hAe, -, c1⟩ := num_at hA (i := q) (by omega)
    generalize l.getD q 0 = x at *
    subst hAe
    clear hA hl he
    have q1 : (((q + 1 : Nat) : Int) == 0) = false := by simp; omega
    have q2 : IntKind.i64.wrap (((q + 1 : Nat) : Int) - 1) = (q : Int) := by
      rw [show (((q + 1 : Nat) : Int) - 1) = (q : Int) by omega]
      exact IntWalk.i64_in _ (by omega)
    have q3 : (0 : Int) ≤ (q : Int) := by omega
    have q4 : (q : Int) < (n : Int) := by omega
    obtain ⟨s, hs⟩ : ∃ s : Int, ((q + 1 : Nat) : Int) = s := ⟨_, rfl⟩
    rw [hs] at q1 q2 ⊢
    clear hs
    go_enter Try.func21, Try.ntmps21
    go_wp2
    go_ret
    exact ⟨rfl, rfl⟩

theorem few_any (A : Option Addr) (n c : Nat) (w : World) (hc : n ≤ c) : Calls Try.prog 10 #[.slice A n c] w fun e w' => e = .returned (.slice A (min n 30) c) ∧ w' = w := by
  by_cases h : 30 < n
  · have q1 : (30 : Int) < (n : Int) := by omega
    have q2 : (30 : Int) ≤ (c : Int) := by omega
    have q3 : (30 : Int) ≤ (n : Int) := by omega
    rw [Nat.min_eq_right (by omega)]
    go_enter Try.func10, Try.ntmps10
    go_wp2
    go_ret
    exact ⟨rfl, rfl⟩
  · have q1 : ¬ (30 : Int) < (n : Int) := by omega
    rw [Nat.min_eq_left (by omega)]
    go_enter Try.func10, Try.ntmps10
    go_wp2
    go_ret
    exact ⟨rfl, rfl⟩

/-- Numbers made alike by their rests. -/
def cutI (s x : Int) : Int := (x.tmod s + s).tmod s
theorem cutI_in (s x : Int) (hs : 1 ≤ s) : 0 ≤ cutI s x ∧ cutI s x < s := by
  unfold cutI
  have t2 := Int.lt_tmod_of_pos x (b := s) (by omega)
  rw [Int.tmod_eq_emod_of_nonneg (by omega)]
  exact ⟨Int.emod_nonneg _ (by omega), Int.emod_lt_of_pos _ (by omega)⟩
def cutL (s : Int) (xs : List Int) (k : Nat) : List Int := (xs.take k).map (cutI s)
theorem cutL_succ (s : Int) (xs : List Int) (k : Nat) (h : k < xs.length) : cutL s xs (k + 1) = cutL s xs k ++ [cutI s (xs.getD k 0)] := by
  unfold cutL
  rw [takeI_snoc xs k h, List.map_append]; rfl
theorem cutL_len (s : Int) (xs : List Int) (k : Nat) (h : k ≤ xs.length) : (cutL s xs k).length = k := by simp [cutL]; omega
theorem cutL_in (s : Int) (xs : List Int) (k : Nat) (hs : 1 ≤ s) : ∀ x ∈ cutL s xs k, 0 ≤ x ∧ x < s := by
  intro x hx
  unfold cutL at hx
  obtain ⟨y, -, rfl⟩ := List.mem_map.1 hx
  exact cutI_in s y hs
theorem and3 (x : Int) : bits .and .i64 x 3 = x % 4 := and_mask x 2 (by omega)
theorem and7 (x : Int) : bits .and .i64 x 7 = x % 8 := and_mask x 3 (by omega)
/-- Of how many kinds numbers are. -/
def kindN (x : Int) : Nat := (1 + x % 4).toNat
theorem kindN_in (x : Int) : 1 ≤ kindN x ∧ kindN x ≤ 4 ∧ (kindN x : Int) = 1 + x % 4 := by unfold kindN; omega
def kind8 (x : Int) : Nat := (1 + x % 8).toNat
theorem kind8_in (x : Int) : 1 ≤ kind8 x ∧ kind8 x ≤ 8 ∧ (kind8 x : Int) = 1 + x % 8 := by unfold kind8; omega

set_option maxHeartbeats 2000000 in
theorem alike_any (A : Option Addr) (n c : Nat) (l : List Int) (q : Int) (w : World) (hA : NumsAt .i64 w A l) (hl : l.length = n) :
    Calls Try.prog 15 #[.slice A n c, .int .i64 q] w fun e u => ∃ v, e = .returned v ∧ OwnI w v (cutL (kindN q) l (min n 30)) u := by
  obtain ⟨h1, h2, h3⟩ := kindN_in q
  have hand := and3 q
  obtain ⟨s, hs⟩ : ∃ s, kindN q = s := ⟨_, rfl⟩
  rw [hs] at h1 h2 h3 ⊢
  obtain ⟨t, ht⟩ : ∃ t, q % 4 = t := ⟨_, rfl⟩
  rw [ht] at hand h3
  have hw : IntKind.i64.wrap (1 + t) = (s : Int) := by rw [← h3]; exact IntWalk.i64_in _ (by omega)
  have HX := Lib.hid (And.intro hA hl)
  obtain ⟨m, hm⟩ : ∃ m, min n 30 = m := ⟨_, rfl⟩
  rw [hm]
  have hm1 : m ≤ n := by omega
  have hm2 : m ≤ 30 := by omega
  have hm3 : m < n → m = 30 := by omega
  have h0 : ((s : Int) == 0) = false := by simp; omega
  have h0' : (s : Int) ≠ 0 := by omega
  clear hA hl hs ht hm h3
  go_enter Try.func15, Try.ntmps15
  go_wp2
  clear hw hand
  go_loopw [6, 7] (fun v6 v7 wr => ∃ i : Nat, i ≤ m ∧ v7 = .int .i64 (i : Int) ∧ OwnI w v6 (cutL s l i) wr) (fun _ v7 _ => m - (intOf v7).toNat)
  case atStart => exact ⟨0, Nat.zero_le _, rfl, World.ownsRow_nil _ _ _ _, Below.refl _ _⟩
  case round =>
    obtain ⟨i, hin, rfl, hI⟩ := hrel
    by_cases hlt : i < m
    · obtain ⟨bb, off, hAe, hbl, hcb⟩ := num_at (HX.out.1.kept hI.2) (i := i) (by rw [HX.out.2]; omega)
      have hsu := cutL_succ s l i (by rw [HX.out.2]; omega)
      have hml := cutL_len s l i (by rw [HX.out.2]; omega)
      generalize l.getD i 0 = x at *
      have hsz := hI.2.size
      have HM := Lib.hid (And.intro hI (And.intro hsu hml))
      subst hAe
      clear hI hsu hml
      obtain ⟨y, hy⟩ : ∃ y, x.tmod s = y := ⟨_, rfl⟩
      have t1 := Int.tmod_lt_of_pos x (b := (s : Int)) (by omega)
      have t2 := Int.lt_tmod_of_pos x (b := (s : Int)) (by omega)
      rw [hy] at t1 t2
      obtain ⟨z, hz⟩ : ∃ z, z = cutI s x := ⟨_, rfl⟩
      rw [← hz] at HM
      have hyz : (y + (s : Int)).tmod s = z := by rw [hz]; unfold cutI; rw [hy]
      clear hz
      have qw : IntKind.i64.wrap (y + (s : Int)) = y + (s : Int) := IntWalk.i64_in _ (by omega)
      have q1 : (i : Int) < (n : Int) := by omega
      have q2 : (0 : Int) ≤ (i : Int) := by omega
      have q3 : (i : Int) < 30 := by omega
      go_wp2_with (first
        | (at_builtin
           refine wpList_append_nums rfl (.tmp 21) (.tmp 32) rfl w.heap.size _ _ _ rfl (HM.out.1.alloc _).1 (some ⟨_, 0, none⟩) 1 1 [z] rfl rfl ?c1 (by simp) ?c2 ?c3 ?_))
      case c1 => exact nums_one _ _
      case c2 => rw [HM.out.2.2]; omega
      case c3 => first | omega | (simp; omega)
      intro v' w5 hown hgrow _
      have hI5 := (HM.out.1.alloc _).app (l' := cutL s l i ++ [z]) (by simpa using hown) hgrow
      have HX5 := Lib.hid hI5
      clear hown hgrow hI5
      go_wp2
      go_roundw
      case rel => exact ⟨i + 1, by omega, by go_num, by rw [HM.out.2.1]; exact HX5.out⟩
      case measure => simp [intOf]; omega
    · obtain rfl : i = m := by omega
      have HF := Lib.hid hI
      clear hI
      by_cases hn : i < n
      · have q1 : (i : Int) < (n : Int) := by omega
        have q3 : ¬ (i : Int) < 30 := by have := hm3 hn; omega
        go_wp2
        go_ret
        exact ⟨_, rfl, HF.out⟩
      · have q1 : ¬ (i : Int) < (n : Int) := by omega
        go_wp2
        go_ret
        exact ⟨_, rfl, HF.out⟩

/-- Is one below 0? -/
def negB (l : List Int) : Bool := l.any fun x => decide (x < 0)
theorem negB_iff (l : List Int) : negB l = false ↔ Nn l := by
  unfold negB Nn
  rw [List.any_eq_false]
  constructor
  · intro h x hx; have := h x hx; simpa using this
  · intro h x hx; have := h x hx; simpa using this
theorem negB_of {l : List Int} {i : Nat} (hi : i < l.length) (h : l.getD i 0 < 0) : negB l = true := by
  unfold negB
  rw [List.any_eq_true]
  exact ⟨_, getD_mem hi, by simpa using h⟩
theorem negB_no {l : List Int} (h : ∀ j, j < l.length → 0 ≤ l.getD j 0) : negB l = false := by
  rw [negB_iff]
  intro x hx
  obtain ⟨i, hi, e⟩ := List.getElem_of_mem hx
  have := h i hi
  rw [List.getD_eq_getElem?_getD, List.getElem?_eq_getElem hi, Option.getD_some, e] at this
  exact this

theorem below_neg (A : Option Addr) (n c : Nat) (l : List Int) (w : World) (hA : NumsAt .i64 w A l) (hl : l.length = n) (hn : n ≤ 1000000) :
    Calls Try.prog 12 #[.slice A n c] w fun e w' => e = .returned (.bool (negB l)) ∧ w' = w := by
  obtain ⟨r, hr⟩ : ∃ r, negB l = r := ⟨_, rfl⟩
  rw [hr]
  have HX := Lib.hid (And.intro hA hl)
  have HR := Lib.hid hr
  clear hA hl hr
  go_enter Try.func12, Try.ntmps12
  go_wp2
  go_loopw [3] (fun v3 wr => ∃ i : Nat, i ≤ n ∧ v3 = .int .i64 (i : Int) ∧ wr = w ∧ ∀ j, j < i → 0 ≤ l.getD j 0) (fun v3 _ => n - (intOf v3).toNat)
  case atStart => exact ⟨0, Nat.zero_le _, rfl, rfl, fun j hj => by omega⟩
  case round =>
    obtain ⟨i, hin, rfl, rfl, hge⟩ := hrel
    by_cases hlt : i < n
    · obtain ⟨bb, off, hAe, -, ck⟩ := num_at HX.out.1 (i := i) (by rw [HX.out.2]; exact hlt)
      obtain ⟨x, hx⟩ : ∃ x, l.getD i 0 = x := ⟨_, rfl⟩
      rw [hx] at ck
      have HG := Lib.hid (And.intro hge hx)
      subst hAe
      clear hge hx
      have q1 : (i : Int) < (n : Int) := by omega
      have q2 : (0 : Int) ≤ (i : Int) := by omega
      by_cases hneg : x < 0
      · have hr := negB_of (l := l) (i := i) (by rw [HX.out.2]; exact hlt) (by rw [HG.out.2]; exact hneg)
        rw [HR.out] at hr
        subst hr
        go_wp2
        go_ret
        first | exact ⟨rfl, rfl⟩ | exact ⟨rfl, trivial⟩
      · go_wp2
        go_roundw
        case rel =>
          refine ⟨i + 1, by omega, by go_num, by first | rfl | trivial, fun j hj => ?_⟩
          by_cases e : j = i
          · rw [e, HG.out.2]; omega
          · exact HG.out.1 j (by omega)
        case measure => simp [intOf]; omega
    · obtain rfl : i = n := by omega
      have hr := negB_no (l := l) (fun j hj => hge j (by rw [HX.out.2] at hj; exact hj))
      rw [HR.out] at hr
      subst hr
      clear hge
      have q1 : ¬ (i : Int) < (i : Int) := by omega
      go_wp2
      go_ret
      first | exact ⟨rfl, rfl⟩ | exact ⟨rfl, trivial⟩

/-! ## A row that grows beside another one -/
/-- A row of the call's own beside a source in another block. -/
structure OS (w : World) (v : Value) (l : List Int) (A : Option Addr) (src : List Int) (u : World) : Prop where
  own : OwnI w v l u
  nums : NumsAt .i64 u A src
  dj : src = [] ∨ ∀ b o, A = some ⟨b, o, none⟩ → v.ownBlock ≠ some b
theorem OS.kept {w u u' : World} {v : Value} {l : List Int} {A : Option Addr} {src : List Int} (h : OS w v l A src u) (hb : Below u.heap.size u u') : OS w v l A src u' :=
  ⟨h.own.kept hb, h.nums.kept hb, h.dj⟩
theorem OS.alloc {w u : World} {v : Value} {l : List Int} {A : Option Addr} {src : List Int} (h : OS w v l A src u) (o : Obj) : OS w v l A src (u.alloc o) := h.kept (al _ _)
theorem OS.app {w u u' : World} {v v' : Value} {l l' : List Int} {A : Option Addr} {src : List Int} (h : OS w v l A src u) (hown : u'.ownsRow w.heap.size 3 1 v' l'.length (l'.map (Value.int .i64))) (hg : u.grownBy u' v.ownBlock) (hat : v'.ownBlock = v.ownBlock ∨ v'.ownBlock = some u.heap.size) : OS w v' l' A src u' := by
  have hk : Kp (fun k => v.ownBlock = some k) u u' := (Kp.refl _ u).grown hg (fun k hk _ => hk)
  refine ⟨h.own.app hown hg, ?_, ?_⟩
  · rcases h.dj with e | hd
    · rw [e]; exact .inl rfl
    · exact h.nums.kp hk (fun b o e ev => hd b o e ev)
  · rcases h.dj with e | hd
    · exact .inl e
    · by_cases e : src = []
      · exact .inl e
      · refine .inr fun b o hA ev => ?_
        rcases hat with e1 | e1
        · rw [e1] at ev; exact hd b o hA ev
        · rw [e1] at ev
          rcases h.nums with h0 | ⟨b', o', e2, hlt, -⟩
          · exact e h0
          · rw [hA] at e2
            simp only [Option.some.injEq, Addr.mk.injEq, and_true] at e2 ev
            obtain ⟨rfl, rfl⟩ := e2
            omega
/-- A source that is newer than the row. -/
theorem OS.newer {w u u' : World} {v : Value} {l : List Int} {A : Option Addr} {src : List Int} (h : OwnI w v l u) (hb : Below u.heap.size u u') (hs : NumsAt .i64 u' A src) (hf : Frs u.heap.size A) : OS w v l A src u' :=
  ⟨h.kept hb, hs, .inr fun b o e ev => by have h1 := hf _ e; have h2 := (h.1.lt b ev).2; simp only at h1; omega⟩
/-- A row that is newer than the source. -/
theorem OS.elder {w u : World} {v : Value} {l : List Int} {A : Option Addr} {src : List Int} (h : OwnI w v l u) (hs : NumsAt .i64 w A src) : OS w v l A src u := by
  refine ⟨h, hs.kept h.2, ?_⟩
  rcases hs with e | ⟨b', o', e2, hlt, -⟩
  · exact .inl e
  · refine .inr fun b o e ev => ?_
    rw [e] at e2
    simp only [Option.some.injEq, Addr.mk.injEq, and_true] at e2
    obtain ⟨rfl, rfl⟩ := e2
    have := (h.1.lt b ev).1
    omega
theorem OwnI.frs {w u : World} {A : Option Addr} {n c : Nat} {l : List Int} (h : OwnI w (.slice A n c) l u) : Frs w.heap.size A := fun a ha => (h.1.lt a.block (by rw [ha]; rfl)).1

/-! ## Turn -/
def tkT (l : List Int) (i : Nat) : List Int := (turnL l).take (i + 1)
theorem tkT_zero (l : List Int) : tkT l 0 = [ahdI l (l.length : Int)] := by simp [tkT, turnL, allA]
theorem tkT_succ (l : List Int) (i : Nat) (h : i < l.length) : tkT l (i + 1) = tkT l i ++ [ahdI l ((sufA l).getD i 0)] := by
  unfold tkT
  rw [takeI_snoc (turnL l) (i + 1) (by rw [turnL_len]; omega)]
  congr 2
  unfold turnL allA
  rw [List.map_cons, List.getD_cons_succ]
  have hi : i < (sufA l).length := by rw [sufA_len]; exact h
  simp [List.getD_eq_getElem?_getD, hi]
theorem tkT_len (l : List Int) (i : Nat) (h : i ≤ l.length) : (tkT l i).length = i + 1 := by simp [tkT, turnL_len]; omega
theorem tkT_all (l : List Int) : tkT l l.length = turnL l := by
  unfold tkT
  exact List.take_of_length_le (by rw [turnL_len]; exact Nat.le_refl _)

set_option maxHeartbeats 4000000 in
theorem turn_any (A : Option Addr) (n c : Nat) (l : List Int) (w : World) (hA : NumsAt .i64 w A l) (hl : l.length = n) (hn : n ≤ 100000) (h64 : I64s l) (hnn : Nn l) :
    Calls Try.prog 11 #[.slice A n c] w fun e u => ∃ v, e = .returned (.tuple #[v, .int .i64 0]) ∧ OwnI w v (turnL l) u := by
  have har := fun u (hb : Below w.heap.size w u) => array_any A n c l u (hA.kept hb) hl (by omega) h64
  have hah := fun u (hb : Below w.heap.size w u) p (hp : p ≤ n) => ahead_any A n c p l u (hA.kept hb) hl hp (by omega)
  have hpl := fun i (hi : i < n) => (sufA_ok h64).pl (i := i) (by omega)
  have hcell : ∀ i, i < n → ∃ bb off, A = some ⟨bb, off, none⟩ ∧ w.cell? ⟨bb, off + i, none⟩ = some (.int .i64 (l.getD i 0)) := fun i hi => by
    obtain ⟨bb, off, e, -, c1⟩ := num_at hA (i := i) (by omega)
    exact ⟨bb, off, e, c1⟩
  have hge : ∀ i, i < n → ¬ l.getD i 0 < 0 := fun i hi => by have := hnn _ (getD_mem (b := 0) (show i < l.length by omega)); omega
  have HX := Lib.hid (And.intro har (And.intro hah (And.intro hpl (And.intro hl (And.intro hcell hge)))))
  clear har hah hpl hl hcell hge hA h64 hnn
  go_enter Try.func11, Try.ntmps11
  go_wp2
  go_loopw [5, 11] (fun _ v11 wr => ∃ i : Nat, i ≤ n ∧ v11 = .int .i64 (i : Int) ∧ wr = w) (fun _ v11 _ => n - (intOf v11).toNat)
  case atStart => exact ⟨0, Nat.zero_le _, rfl, rfl⟩
  case round =>
    obtain ⟨i, hin, rfl, rfl⟩ := hrel
    by_cases hlt : i < n
    · obtain ⟨bb, off, hAe, ck⟩ := HX.out.2.2.2.2.1 i hlt
      have hge := HX.out.2.2.2.2.2 i hlt
      subst hAe
      generalize l.getD i 0 = x at *
      have q1 : (i : Int) < (n : Int) := by omega
      have q2 : (0 : Int) ≤ (i : Int) := by omega
      go_wp2
      go_roundw
      case rel => exact ⟨i + 1, by omega, by go_num, by first | rfl | trivial⟩
      case measure => simp [intOf]; omega
    · obtain rfl : i = n := by omega
      obtain ⟨n, rfl⟩ : ∃ n, n = i := ⟨_, rfl⟩
      obtain ⟨i0, hi, hz0, hz1, hz2⟩ := info_parts info3
      have q1 : ¬ (n : Int) < (n : Int) := by omega
      have q2 : IntKind.i64.wrap ((n : Int) + 1) = (n : Int) + 1 := IntWalk.i64_in _ (by omega)
      obtain ⟨w, rfl⟩ : ∃ w, w = wr := ⟨_, rfl⟩
      go_wp2_with (first | (at_make; refine wpList_make_own _ rfl _ _ 22 rfl w.heap.size 3 i0 (.int .i64 0) 1 Try.underlying22 hi hz0 hz1 _ _ _ (n + 1) rfl rfl (by omega) ?b2 ?b3 (Nat.le_refl _) ?_))
      case b2 => first | omega | (rw [hz2]; omega)
      case b3 => unfold maxLen; omega
      intro w1 hown hgrow
      have hO : OwnI w (.slice (some ⟨w.heap.size, 0, none⟩) 0 (n + 1)) [] w1 := ⟨hown, below_grown hgrow⟩
      have HO := Lib.hid hO
      have hsz := hO.2.size
      clear hown hgrow hO hi hz0 hz1 hz2 q1 q2
      obtain ⟨D, hDe⟩ : ∃ D, D = w.heap.size := ⟨_, rfl⟩
      rw [← hDe] at HO
      rw [← hDe]
      clear hDe
      have hca := HX.out.2.1 _ HO.out.2 n (Nat.le_refl _)
      have HCA := Lib.hid hca
      clear hca
      go_wp2_with fail
      (with_reducible refine HCA.out.mono ?_)
      rintro e u2 ⟨rfl, rfl⟩
      have h0 := tkT_zero l
      rw [HX.out.2.2.2.1] at h0
      obtain ⟨z, hz⟩ : ∃ z, ahdI l (n : Int) = z := ⟨_, rfl⟩
      rw [hz] at h0
      rw [hz]
      have H0 := Lib.hid h0
      clear h0 hz
      go_wp2_with (first
        | (at_builtin
           refine wpList_append_nums rfl (.tmp 22) (.tmp 27) rfl w.heap.size _ _ _ rfl (HO.out.alloc _).1 (some ⟨_, 0, none⟩) 1 1 [z] rfl rfl ?c1 (by simp) ?c2 ?c3 ?_))
      case c1 => exact nums_one _ _
      case c2 => simp
      case c3 => first | omega | (simp; omega)
      intro v6 w5 hown hgrow _
      have hI5 := (HO.out.alloc _).app (l' := [z]) (by simpa using hown) hgrow
      have HI := Lib.hid hI5
      clear hown hgrow hI5 HO hsz
      have hca := HX.out.1 _ HI.out.2
      have HCA := Lib.hid hca
      clear hca
      go_wp2_with fail
      (with_reducible refine HCA.out.mono ?_)
      rintro e u6 ⟨A', ca, rfl, h1, h2, h3, h4⟩
      have hOS := OS.newer HI.out h3 h1 h4
      rw [← H0.out] at hOS
      have HOS := Lib.hid hOS
      clear h1 h2 h3 h4 hOS HI
      go_wp2
      go_loopw [6, 8, 32] (fun v6 _ v32 wr => ∃ i : Nat, i ≤ n ∧ v32 = .int .i64 (i : Int) ∧ OS w v6 (tkT l i) A' (sufA l) wr) (fun _ _ v32 _ => n - (intOf v32).toNat)
      case atStart => exact ⟨0, Nat.zero_le _, rfl, HOS.out⟩
      case round =>
        obtain ⟨i, hin, rfl, hI⟩ := hrel
        by_cases hlt : i < n
        · obtain ⟨bb, off, hAe, -, ck⟩ := num_at hI.nums (i := i) (by rw [sufA_len, HX.out.2.2.2.1]; exact hlt)
          obtain ⟨p, hp, hpn⟩ := HX.out.2.2.1 i hlt
          rw [hp] at ck
          have hsu := tkT_succ l i (by rw [HX.out.2.2.2.1]; exact hlt)
          have hml := tkT_len l i (by rw [HX.out.2.2.2.1]; omega)
          rw [hp] at hsu
          have hca := HX.out.2.1 wr hI.own.2 p (by rw [HX.out.2.2.2.1] at hpn; omega)
          obtain ⟨z, hz⟩ : ∃ z, ahdI l (p : Int) = z := ⟨_, rfl⟩
          rw [hz] at hsu hca
          have hsz := hI.own.2.size
          have HM := Lib.hid (And.intro hI (And.intro hsu (And.intro hml hca)))
          subst hAe
          clear hI hsu hml hp hpn hz hca
          have q1 : (i : Int) < (n : Int) := by omega
          have q2 : (0 : Int) ≤ (i : Int) := by omega
          go_wp2_with fail
          (with_reducible refine HM.out.2.2.2.mono ?_)
          rintro e u7 ⟨rfl, rfl⟩
          go_wp2_with (first
            | (at_builtin
               refine wpList_append_nums rfl (.tmp 36) (.tmp 40) rfl w.heap.size _ _ _ rfl (HM.out.1.alloc _).own.1 (some ⟨_, 0, none⟩) 1 1 [z] rfl rfl ?c1 (by simp) ?c2 ?c3 ?_))
          case c1 => exact nums_one _ _
          case c2 => rw [HM.out.2.2.1]; omega
          case c3 => first | omega | (simp; omega)
          intro v' w8 hown hgrow hat
          have hI8 := (HM.out.1.alloc _).app (l' := tkT l i ++ [z]) (by simpa using hown) hgrow (by simpa using hat)
          have HX8 := Lib.hid hI8
          clear hown hgrow hI8 hat
          go_wp2
          go_roundw
          case rel => exact ⟨i + 1, by omega, by go_num, by rw [HM.out.2.1]; exact HX8.out⟩
          case measure => simp [intOf]; omega
        · obtain rfl : i = n := by omega
          have HF := Lib.hid hI
          clear hI
          have q1 : ¬ (i : Int) < (i : Int) := by omega
          go_wp2
          go_ret2
          refine ⟨_, rfl, ?_⟩
          have := HF.out.own
          rw [← HX.out.2.2.2.1, tkT_all] at this
          exact this

theorem turn_no (A : Option Addr) (n c : Nat) (l : List Int) (w : World) (hA : NumsAt .i64 w A l) (hl : l.length = n) (hn : n ≤ 100000) (hnn : negB l = true) :
    Calls Try.prog 11 #[.slice A n c] w fun e u => e = .returned (.tuple #[.slice none 0 0, .int .i64 1]) ∧ u = w := by
  have HX := Lib.hid (And.intro hA (And.intro hl hnn))
  clear hA hl hnn
  go_enter Try.func11, Try.ntmps11
  go_wp2
  go_loopw [5, 11] (fun _ v11 wr => ∃ i : Nat, i ≤ n ∧ v11 = .int .i64 (i : Int) ∧ wr = w ∧ ∀ j, j < i → 0 ≤ l.getD j 0) (fun _ v11 _ => n - (intOf v11).toNat)
  case atStart => exact ⟨0, Nat.zero_le _, rfl, rfl, fun j hj => by omega⟩
  case round =>
    obtain ⟨i, hin, rfl, rfl, hge⟩ := hrel
    by_cases hlt : i < n
    · obtain ⟨bb, off, hAe, -, ck⟩ := num_at HX.out.1 (i := i) (by rw [HX.out.2.1]; exact hlt)
      obtain ⟨x, hx⟩ : ∃ x, l.getD i 0 = x := ⟨_, rfl⟩
      rw [hx] at ck
      have HG := Lib.hid (And.intro hge hx)
      subst hAe
      clear hge hx
      have q1 : (i : Int) < (n : Int) := by omega
      have q2 : (0 : Int) ≤ (i : Int) := by omega
      by_cases hneg : x < 0
      · go_wp2
        go_ret2
        exact ⟨rfl, rfl⟩
      · go_wp2
        go_roundw
        case rel =>
          refine ⟨i + 1, by omega, by go_num, by first | rfl | trivial, fun j hj => ?_⟩
          by_cases e : j = i
          · rw [e, HG.out.2]; omega
          · exact HG.out.1 j (by omega)
        case measure => simp [intOf]; omega
    · obtain rfl : i = n := by omega
      have hr := negB_no (l := l) (fun j hj => hge j (by rw [HX.out.2.1] at hj; exact hj))
      rw [HX.out.2.2] at hr
      cases hr

end Go.Proofs.Ytdepncdknofocaa
