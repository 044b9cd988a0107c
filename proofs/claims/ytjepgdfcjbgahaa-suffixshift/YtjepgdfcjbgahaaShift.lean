/- The walk of SuffixShift. -/
import Derived.Test.YtjepgdfcjbgahaaOrders
set_option maxRecDepth 100000
namespace Go.Proofs.Ytjepgdfcjbgahaa
open Go.RowKit
open M
attribute [local go_sem ↓] Go.wp_at_zero Go.wp_at_succ

/-- Two rows of numbers of the call's own. -/
structure I2 (w : World) (v8 v10 : Value) (p q : List Int) (u : World) : Prop where
  r8 : u.ownsRow w.heap.size 3 1 v8 p.length (p.map (Value.int .i64))
  r10 : u.ownsRow w.heap.size 3 1 v10 q.length (q.map (Value.int .i64))
  dj : Dj v8 v10
  bel : Below w.heap.size w u
theorem I2.kept {w u u' : World} {v8 v10 : Value} {p q : List Int} (h : I2 w v8 v10 p q u) (hb : Below u.heap.size u u') : I2 w v8 v10 p q u' :=
  ⟨own_kept h.r8 hb, own_kept h.r10 hb, h.dj, h.bel.trans (hb.mono h.bel.size)⟩
theorem I2.alloc {w u : World} {v8 v10 : Value} {p q : List Int} (h : I2 w v8 v10 p q u) (o : Obj) : I2 w v8 v10 p q (u.alloc o) := h.kept (al _ _)
theorem I2.app8 {w u u' : World} {v8 v10 v' : Value} {p q p' : List Int} (h : I2 w v8 v10 p q u) (hown : u'.ownsRow w.heap.size 3 1 v' p'.length (p'.map (Value.int .i64))) (hg : u.grownBy u' v8.ownBlock) (hat : v'.ownBlock = v8.ownBlock ∨ v'.ownBlock = some u.heap.size) : I2 w v' v10 p' q u' := by
  have hk : Kp (fun k => v8.ownBlock = some k) u u' := (Kp.refl _ u).grown hg (fun k hk _ => hk)
  have hn : ∀ k, v8.ownBlock = some k → w.heap.size ≤ k := fun k e => (h.r8.lt k e).1
  have hf : ∀ k, v'.ownBlock = some k → v8.ownBlock = some k ∨ u.heap.size ≤ k := by
    intro k hk
    rcases hat with e | e
    · exact .inl (e ▸ hk)
    · rw [e] at hk; simp at hk; exact .inr (by omega)
  exact ⟨hown, own_kp h.r10 hk (fun k e e8 => h.dj k e8 e), h.dj.fresh hf (fun k e => (h.r10.lt k e).2), h.bel.trans (hk.toBelow h.bel.size (fun k hk e => by have := hn k e; omega))⟩
theorem I2.flip {w u : World} {v8 v10 : Value} {p q : List Int} (h : I2 w v8 v10 p q u) : I2 w v10 v8 q p u := ⟨h.r10, h.r8, h.dj.symm, h.bel⟩
theorem I2.app10 {w u u' : World} {v8 v10 v' : Value} {p q q' : List Int} (h : I2 w v8 v10 p q u) (hown : u'.ownsRow w.heap.size 3 1 v' q'.length (q'.map (Value.int .i64))) (hg : u.grownBy u' v10.ownBlock) (hat : v'.ownBlock = v10.ownBlock ∨ v'.ownBlock = some u.heap.size) : I2 w v8 v' p q' u' :=
  (h.flip.app8 hown hg hat).flip
theorem I2.nil {w u : World} (hb : Below w.heap.size w u) : I2 w (.slice none 0 0) (.slice none 0 0) [] [] u := ⟨World.ownsRow_nil _ _ _ _, World.ownsRow_nil _ _ _ _, fun k h => by simp [Value.ownBlock] at h, hb⟩

/-- All are greater by so much. -/
def addL (d : Int) (l : List Int) : List Int := l.map fun x => x + d
theorem addL_len (d : Int) (l : List Int) : (addL d l).length = l.length := by simp [addL]
theorem addL_at (d : Int) (l : List Int) (i : Nat) (h : i < l.length) : (addL d l).getD i 0 = l.getD i 0 + d := by simp [addL, List.getD_eq_getElem?_getD, h]
theorem sufA_add {d : Int} {l : List Int} (h : I64s l) (h' : I64s (addL d l)) : sufA (addL d l) = sufA l := by
  have h1 : SA b0 (addL d l) (sufA l) := (sufA_ok h).map (addL_len d l).symm (fun p q _ _ hs => (sl_map (addL_len d l).symm (i64_abv h) (i64_abv h') (fun i j hi hj => by rw [addL_at d l i hi, addL_at d l j hj]; omega) p q).1 hs)
  exact (sufA_ok h').uniq h1
theorem and1023 (x : Int) : bits .and .i64 x 1023 = x % 1024 := and_mask x 10 (by omega)

theorem rank_uniq {M L L' : List Int} {n : Nat} (hM : M.length = n) (hS : SA b0 M (sufA M)) (h1 : L.length = n) (h2 : L'.length = n) (h3 : ∀ i, i < n → ∃ q : Nat, (sufA M).getD i 0 = (q : Int) ∧ q < n ∧ L.getD q 0 = (i : Int)) (h4 : ∀ i, i < n → ∃ q : Nat, (sufA M).getD i 0 = (q : Int) ∧ q < n ∧ L'.getD q 0 = (i : Int)) : L = L' := by
  apply List.ext_getElem (by omega)
  intro q hq hq'
  obtain ⟨i, hi, e⟩ := hS.has q (by omega)
  obtain ⟨a, a1, -, a3⟩ := h3 i (by omega)
  obtain ⟨b, b1, -, b3⟩ := h4 i (by omega)
  have : a = q := by omega
  subst this
  have : b = a := by omega
  subst this
  simp only [List.getD_eq_getElem?_getD, List.getElem?_eq_getElem hq, List.getElem?_eq_getElem hq', Option.getD_some] at a3 b3
  rw [a3, b3]

set_option maxHeartbeats 8000000 in
theorem shift_walk (A : Option Addr) (n0 c0 : Nat) (xs : List Int) (q0 more : Int) (w : World) (hA : NumsAt .i64 w A xs) (hx : xs.length = n0) :
    Calls Try.prog 8 #[.slice A n0 c0, .int .i64 q0, .int .i64 more] w fun e w' => e = .returned (.bool true) ∧ Below w.heap.size w w' := by
  obtain ⟨h1, h2, h3⟩ := kindN_in q0
  have hand := and3 q0
  have hand2 := and1023 more
  obtain ⟨s, hs⟩ : ∃ s, kindN q0 = s := ⟨_, rfl⟩
  rw [hs] at h1 h2 h3
  obtain ⟨t, ht⟩ : ∃ t, q0 % 4 = t := ⟨_, rfl⟩
  rw [ht] at hand h3
  obtain ⟨d, hd⟩ : ∃ d, more % 1024 = d := ⟨_, rfl⟩
  have hd1 : 0 ≤ d ∧ d < 1024 := by omega
  rw [hd] at hand2
  obtain ⟨hd1, hd2⟩ := hd1
  have hw : IntKind.i64.wrap (1 + t) = (s : Int) := by rw [← h3]; exact IntWalk.i64_in _ (by omega)
  have HX := Lib.hid (And.intro hA hx)
  obtain ⟨m, hm⟩ : ∃ m, min n0 100 = m := ⟨_, rfl⟩
  have hm1 : m ≤ n0 := by omega
  have hm2 : m ≤ 100 := by omega
  have hm3 : m < n0 → m = 100 := by omega
  have h0 : ((s : Int) == 0) = false := by simp; omega
  have h0' : (s : Int) ≠ 0 := by omega
  clear hA hx hs ht hm h3 hd
  go_enter Try.func8, Try.ntmps8
  go_wp2_with fail
  (with_reducible refine (awake_any _).mono ?_)
  rintro e w1 ⟨rfl, hb1⟩
  have HB := Lib.hid hb1
  clear hb1
  go_wp2
  clear hw hand hand2
  go_loopw [10, 11, 12, 13] (fun v10 v11 v12 _ wr => ∃ i : Nat, i ≤ m ∧ v12 = .int .i64 (i : Int) ∧ I2 w1 v10 v11 (cutL s xs i) (addL d (cutL s xs i)) wr) (fun _ _ v12 _ _ => m - (intOf v12).toNat)
  case atStart => exact ⟨0, Nat.zero_le _, rfl, I2.nil (Below.refl _ _)⟩
  case round =>
    obtain ⟨i, hin, rfl, hI⟩ := hrel
    have hwb := HB.out.trans (hI.bel.mono HB.out.size)
    by_cases hlt : i < m
    · obtain ⟨bb, off, hAe, hbl, hcb⟩ := num_at (HX.out.1.kept hwb) (i := i) (by rw [HX.out.2]; omega)
      have hsu := cutL_succ s xs i (by rw [HX.out.2]; omega)
      have hml := cutL_len s xs i (by rw [HX.out.2]; omega)
      have hal := addL_len d (cutL s xs i)
      rw [hml] at hal
      have hci := cutI_in s (xs.getD i 0) (by omega)
      generalize xs.getD i 0 = x at *
      have hsz := hI.bel.size
      subst hAe
      obtain ⟨y, hy⟩ : ∃ y, x.tmod s = y := ⟨_, rfl⟩
      have t1 := Int.tmod_lt_of_pos x (b := (s : Int)) (by omega)
      have t2 := Int.lt_tmod_of_pos x (b := (s : Int)) (by omega)
      rw [hy] at t1 t2
      obtain ⟨z, hz⟩ : ∃ z, z = cutI s x := ⟨_, rfl⟩
      rw [← hz] at hsu hci
      have hsu2 : addL d (cutL s xs (i + 1)) = addL d (cutL s xs i) ++ [z + d] := by rw [hsu]; simp [addL]
      have HM := Lib.hid (And.intro hI (And.intro hsu (And.intro hml (And.intro hal hsu2))))
      have hyz : (y + (s : Int)).tmod s = z := by rw [hz]; unfold cutI; rw [hy]
      clear hz hI hsu hml hwb hal hsu2
      obtain ⟨z1, z2⟩ := hci
      have qw : IntKind.i64.wrap (y + (s : Int)) = y + (s : Int) := IntWalk.i64_in _ (by omega)
      have qd : IntKind.i64.wrap (z + d) = z + d := IntWalk.i64_in _ (by omega)
      have q1 : (i : Int) < (n0 : Int) := by omega
      have q2 : (0 : Int) ≤ (i : Int) := by omega
      have q3 : (i : Int) < 100 := by omega
      go_wp2_with (first
        | (at_builtin
           refine wpList_append_nums rfl (.tmp 42) (.tmp 44) rfl w1.heap.size _ _ _ rfl (HM.out.1.alloc _).r8 (some ⟨_, 0, none⟩) 1 1 [z] rfl rfl ?c1 (by simp) ?c2 ?c3 ?_))
      case c1 => exact nums_one _ _
      case c2 => rw [HM.out.2.2.1]; omega
      case c3 => first | omega | (simp; omega)
      intro v' w5 hown hgrow hat
      have hI5 := (HM.out.1.alloc _).app8 (p' := cutL s xs i ++ [z]) (by simpa using hown) hgrow (by simpa using hat)
      have HX5 := Lib.hid hI5
      have hsz5 := hI5.bel.size
      clear hown hgrow hI5 hat
      go_wp2_with (first
        | (at_builtin
           refine wpList_append_nums rfl (.tmp 46) (.tmp 50) rfl w1.heap.size _ _ _ rfl (HX5.out.alloc _).r10 (some ⟨_, 0, none⟩) 1 1 [z + d] rfl rfl ?c1 (by simp) ?c2 ?c3 ?_))
      case c1 => exact nums_one _ _
      case c2 => rw [HM.out.2.2.2.1]; omega
      case c3 => first | omega | (simp; omega)
      intro v'' w6 hown hgrow hat
      have hI6 := (HX5.out.alloc _).app10 (q' := addL d (cutL s xs i) ++ [z + d]) (by simpa using hown) hgrow (by simpa using hat)
      have HX6 := Lib.hid hI6
      clear hown hgrow hI6 hat
      go_wp2
      go_roundw
      case rel => exact ⟨i + 1, by omega, by go_num, by rw [HM.out.2.2.2.2, HM.out.2.1]; exact HX6.out⟩
      case measure => simp [intOf]; omega
    · obtain rfl : i = m := by omega
      obtain ⟨P, pc, rfl, hPn, -, hpc, -, -⟩ := nums_of_own hI.r8
      obtain ⟨R, rc, rfl, hRn, -, hrc, -, -⟩ := nums_of_own hI.r10
      have hMl := cutL_len s xs i (by rw [HX.out.2]; omega)
      have hMi := cutL_in s xs i (by omega)
      obtain ⟨M, hM⟩ : ∃ M, M = cutL s xs i := ⟨_, rfl⟩
      rw [← hM] at hMl hMi hPn hpc hRn hrc ⊢
      have hRl := addL_len d M
      rw [hMl] at hpc hRl ⊢
      rw [hRl] at hrc ⊢
      have h64 : I64s M := fun x hx => by have := hMi x hx; omega
      have h64' : I64s (addL d M) := fun x hx => by
        unfold addL at hx
        obtain ⟨y, hy, rfl⟩ := List.mem_map.1 hx
        have := hMi y hy; omega
      have hse := sufA_add h64 h64'
      have har := fun u (hu : NumsAt .i64 u P M) => array_any P i pc M u hu hMl (by omega) h64
      have har' := fun u (hu : NumsAt .i64 u R (addL d M)) => array_any R i rc (addL d M) u hu hRl (by omega) h64'
      have hrk := fun u (hu : NumsAt .i64 u P M) => sranks_any P i pc M u hu hMl (by omega) h64
      have hrk' := fun u (hu : NumsAt .i64 u R (addL d M)) => sranks_any R i rc (addL d M) u hu hRl (by omega) h64'
      simp only [hse] at har' hrk'
      have hsl : (sufA M).length = i := by rw [sufA_len, hMl]
      have HP := Lib.hid (And.intro hPn (And.intro hRn (And.intro hsl (And.intro hwb (And.intro har (And.intro har' (And.intro hrk (And.intro hrk' (sufA_ok h64)))))))))
      have HML := Lib.hid hMl
      obtain ⟨n, rfl⟩ : ∃ n, n = i := ⟨_, rfl⟩
      have hcase : ((n : Int) < (n0 : Int) ∧ n = 100) ∨ ¬ (n : Int) < (n0 : Int) := by omega
      obtain ⟨w3, rfl⟩ : ∃ w3, w3 = wr := ⟨_, rfl⟩
      clear hI hPn hMl hMi h64 hwb har hM hlt hm3 hRn hRl h64' hse har' hrk hrk' hsl
      rcases hcase with ⟨z1, z2⟩ | z1
      · have z3 : ¬ (n : Int) < 100 := by omega
        clear z2
        go_wp2_with fail
        (with_reducible refine (HP.out.2.2.2.2.1 _ HP.out.1).mono ?_)
        rintro e u1 ⟨A1, c1, rfl, g1, -, gb⟩
        have H1 := Lib.hid (And.intro g1 (And.intro (HP.out.1.kept gb) (And.intro (HP.out.2.1.kept gb) (HP.out.2.2.2.1.trans (gb.mono HP.out.2.2.2.1.size)))))
        clear g1 gb
        go_wp2_with fail
        (with_reducible refine (HP.out.2.2.2.2.2.1 _ H1.out.2.2.1).mono ?_)
        rintro e u2 ⟨A2, c2, rfl, g1, -, gb⟩
        have hsa := rsame_any A1 A2 n n c1 c2 (sufA M) (sufA M) u2 (H1.out.1.kept gb) g1 HP.out.2.2.1 HP.out.2.2.1 (by omega)
        rw [decide_eq_true rfl] at hsa
        have H2 := Lib.hid (And.intro hsa (And.intro (H1.out.2.1.kept gb) (And.intro (H1.out.2.2.1.kept gb) (H1.out.2.2.2.trans (gb.mono H1.out.2.2.2.size)))))
        clear g1 gb hsa
        go_wp2_with fail
        (with_reducible refine H2.out.1.mono ?_)
        rintro e u3 ⟨rfl, gb⟩
        have H3 := Lib.hid (And.intro (H2.out.2.1.kept gb) (And.intro (H2.out.2.2.1.kept gb) (H2.out.2.2.2.trans (gb.mono H2.out.2.2.2.size))))
        clear gb
        go_wp2_with fail
        (with_reducible refine (HP.out.2.2.2.2.2.2.1 _ H3.out.1).mono ?_)
        rintro e u4 ⟨D1, L1, l1, rfl, l2, l3, gb⟩
        have H4 := Lib.hid (And.intro l1 (And.intro l2 (And.intro l3 (And.intro (H3.out.1.kept gb) (And.intro (H3.out.2.1.kept gb) (H3.out.2.2.trans (gb.mono H3.out.2.2.size)))))))
        clear l1 l2 l3 gb
        go_wp2_with fail
        (with_reducible refine (HP.out.2.2.2.2.2.2.2.1 _ H4.out.2.2.2.2.1).mono ?_)
        rintro e u5 ⟨D2, L2, l1, rfl, l2, l3, gb⟩
        have hLL := rank_uniq HML.out HP.out.2.2.2.2.2.2.2.2 H4.out.1 l1 H4.out.2.2.1 l3
        have hsa := rsame_any (some ⟨D1, 0, none⟩) (some ⟨D2, 0, none⟩) n n n n L1 L2 u5 (H4.out.2.1.kept gb) l2 H4.out.1 l1 (by omega)
        rw [decide_eq_true hLL] at hsa
        have H5 := Lib.hid (And.intro hsa (And.intro (H4.out.2.2.2.1.kept gb) (H4.out.2.2.2.2.2.trans (gb.mono H4.out.2.2.2.2.2.size))))
        clear l1 l2 l3 gb hsa hLL
        go_wp2_with fail
        (with_reducible refine H5.out.1.mono ?_)
        rintro e u6 ⟨rfl, gb⟩
        have H6 := Lib.hid (And.intro (H5.out.2.1.kept gb) (H5.out.2.2.trans (gb.mono H5.out.2.2.size)))
        clear gb
        go_wp2_with fail
        (with_reducible refine (HP.out.2.2.2.2.1 _ H6.out.1).mono ?_)
        rintro e u7 ⟨A3, c3, rfl, -, -, gb⟩
        have H7 := Lib.hid (H6.out.2.trans (gb.mono H6.out.2.size))
        clear gb
        have qe : ((n : Int) == (n : Int)) = true := by simp
        go_wp2
        go_ret
        exact ⟨rfl, H7.out⟩
      · clear hpc
        go_wp2_with fail
        (with_reducible refine (HP.out.2.2.2.2.1 _ HP.out.1).mono ?_)
        rintro e u1 ⟨A1, c1, rfl, g1, -, gb⟩
        have H1 := Lib.hid (And.intro g1 (And.intro (HP.out.1.kept gb) (And.intro (HP.out.2.1.kept gb) (HP.out.2.2.2.1.trans (gb.mono HP.out.2.2.2.1.size)))))
        clear g1 gb
        go_wp2_with fail
        (with_reducible refine (HP.out.2.2.2.2.2.1 _ H1.out.2.2.1).mono ?_)
        rintro e u2 ⟨A2, c2, rfl, g1, -, gb⟩
        have hsa := rsame_any A1 A2 n n c1 c2 (sufA M) (sufA M) u2 (H1.out.1.kept gb) g1 HP.out.2.2.1 HP.out.2.2.1 (by omega)
        rw [decide_eq_true rfl] at hsa
        have H2 := Lib.hid (And.intro hsa (And.intro (H1.out.2.1.kept gb) (And.intro (H1.out.2.2.1.kept gb) (H1.out.2.2.2.trans (gb.mono H1.out.2.2.2.size)))))
        clear g1 gb hsa
        go_wp2_with fail
        (with_reducible refine H2.out.1.mono ?_)
        rintro e u3 ⟨rfl, gb⟩
        have H3 := Lib.hid (And.intro (H2.out.2.1.kept gb) (And.intro (H2.out.2.2.1.kept gb) (H2.out.2.2.2.trans (gb.mono H2.out.2.2.2.size))))
        clear gb
        go_wp2_with fail
        (with_reducible refine (HP.out.2.2.2.2.2.2.1 _ H3.out.1).mono ?_)
        rintro e u4 ⟨D1, L1, l1, rfl, l2, l3, gb⟩
        have H4 := Lib.hid (And.intro l1 (And.intro l2 (And.intro l3 (And.intro (H3.out.1.kept gb) (And.intro (H3.out.2.1.kept gb) (H3.out.2.2.trans (gb.mono H3.out.2.2.size)))))))
        clear l1 l2 l3 gb
        go_wp2_with fail
        (with_reducible refine (HP.out.2.2.2.2.2.2.2.1 _ H4.out.2.2.2.2.1).mono ?_)
        rintro e u5 ⟨D2, L2, l1, rfl, l2, l3, gb⟩
        have hLL := rank_uniq HML.out HP.out.2.2.2.2.2.2.2.2 H4.out.1 l1 H4.out.2.2.1 l3
        have hsa := rsame_any (some ⟨D1, 0, none⟩) (some ⟨D2, 0, none⟩) n n n n L1 L2 u5 (H4.out.2.1.kept gb) l2 H4.out.1 l1 (by omega)
        rw [decide_eq_true hLL] at hsa
        have H5 := Lib.hid (And.intro hsa (And.intro (H4.out.2.2.2.1.kept gb) (H4.out.2.2.2.2.2.trans (gb.mono H4.out.2.2.2.2.2.size))))
        clear l1 l2 l3 gb hsa hLL
        go_wp2_with fail
        (with_reducible refine H5.out.1.mono ?_)
        rintro e u6 ⟨rfl, gb⟩
        have H6 := Lib.hid (And.intro (H5.out.2.1.kept gb) (H5.out.2.2.trans (gb.mono H5.out.2.2.size)))
        clear gb
        go_wp2_with fail
        (with_reducible refine (HP.out.2.2.2.2.1 _ H6.out.1).mono ?_)
        rintro e u7 ⟨A3, c3, rfl, -, -, gb⟩
        have H7 := Lib.hid (H6.out.2.trans (gb.mono H6.out.2.size))
        clear gb
        have qe : ((n : Int) == (n : Int)) = true := by simp
        go_wp2
        go_ret
        exact ⟨rfl, H7.out⟩

end Go.Proofs.Ytjepgdfcjbgahaa
