/-
 Moves that come: how many stand behind one, the same in whatever order, the same on a base that holds the first ones: plain.
 May, Tree, Same of replicas.
-/
import Derived.Test.YthhckdjagnlgpaaGreatKz
import Derived.Test.YthhckdjagnlgpaaGreatGb
import Derived.Test.YthhckdjagnlgpaaGreatUm
import Derived.Test.YthhckdjagnlgpaaGreatWc
import Derived.Test.YthhckdjagnlgpaaGreatHf
section
namespace Go.Proofs.YthhckdjagnlgpaaGreat
open Gr
theorem one_row {m : Mv} (h : oneM m = true) : oneP (mw m) = true := by
 unfold oneM at h
 simp only [Bool.and_eq_true] at h
 exact h.2.2.2.2
theorem do_tree {L : List Rw} {m : Mv} (h : Tree L) (hm : oneM m = true) (hl : L.length < 2000) : Tree (doP L m) := by
 unfold doP
 cases hb : barP L m with
 | true => exact h
 | false =>
  unfold barP at hb
  simp only [Bool.or_eq_false_iff, decide_eq_false_iff_not] at hb
  rw [if_neg Bool.false_ne_true]
  refine set_tree h (one_row hm) hl (fun e => hb.1.1 e.symm) fun hab => ?_
  rw [← abv_ab, hb.2] at hab
  cases hab
theorem ins_met (l : List Mv) (x : Mv) : (insM l x).2.2 = !(l.any fun y => timeEq y x) := by
 rcases insM_cases l x with ⟨k, y, hy, ht, _, e, _⟩ | ⟨h0, k, hk, hlo, hhi, e⟩
 ·rw [e, show (l.any fun y => timeEq y x) = true from List.any_eq_true.2 ⟨y, mem_at hy, ht⟩]; rfl
 ·rw [e, show (l.any fun y => timeEq y x) = false from List.any_eq_false.2 fun y hy => by rw [h0 y hy]; exact Bool.false_ne_true]; rfl
theorem ins_old {l : List Mv} {x : Mv} (hf : (insM l x).2.2 = false) : (insM l x).1 = l := by
 rcases insM_cases l x with ⟨k, y, _, _, _, e, _⟩ | ⟨h0, k, hk, hlo, hhi, e⟩
 ·rw [e]
 ·rw [e] at hf; cases hf
theorem insM_one {l : List Mv} {m : Mv} (h : ∀ x ∈ l, oneM x = true) (hm : oneM m = true) : ∀ x ∈ (insM l m).1, oneM x = true := fun x hx => by
 rcases insM_mem hx with h1 | h1
 ·exact h x h1
 ·rw [h1]; exact hm
theorem all_tree : ∀ {l : List Rw} {ms : List Mv}, Tree l → (∀ m ∈ ms, oneM m = true) → l.length + ms.length ≤ 2000 → Tree (allP l ms)
 | _, [], h, _, _ => h
 | l, m :: t, h, hm, hl => by
  rw [List.length_cons] at hl
  rw [allP_cons]
  have := doP_len l m
  exact all_tree (do_tree h (hm m List.mem_cons_self) (by omega)) (fun x hx => hm x (List.mem_cons_of_mem _ hx)) (by omega)
/-- two of one time are alike, at two places -/
def PairOk (l : List Mv) (i k : Nat) : Prop := ∀ x y, l[i]? = some x → l[k]? = some y → timeEq x y = true → alikeM x y = true
theorem pairs_all {l : List Mv} (h : ∀ i, i < l.length → ∀ k, k < i → PairOk l i k) : ∀ x ∈ l, ∀ y ∈ l, timeEq x y = true → alikeM x y = true := by
 intro x hx y hy ht
 obtain ⟨i, hi, ei⟩ := List.mem_iff_getElem.1 hx
 obtain ⟨k, hk, ek⟩ := List.mem_iff_getElem.1 hy
 have hxi : l[i]? = some x := by rw [List.getElem?_eq_getElem hi, ei]
 have hyk : l[k]? = some y := by rw [List.getElem?_eq_getElem hk, ek]
 rcases Nat.lt_trichotomy i k with hik | rfl | hik
 ·have ht2 : timeEq y x = true := by rw [timeEq_iff] at ht ⊢; exact ⟨ht.1.symm, ht.2.symm⟩
  exact alikeM_symm (h k hk i hik y x hyk hxi ht2)
 ·rw [hxi] at hyk
  cases hyk
  exact alikeM_refl x
 ·exact h i hi k hik x y hxi hyk ht
theorem pair_no {l : List Mv} {i k : Nat} {x y : Mv} (hx : l[i]? = some x) (hy : l[k]? = some y) (h : timeEq x y = false) : PairOk l i k := fun x' y' hx' hy' ht => by
 rw [hx] at hx'; rw [hy] at hy'; cases hx'; cases hy'
 rw [h] at ht; cases ht
theorem pair_yes {l : List Mv} {i k : Nat} {x y : Mv} (hx : l[i]? = some x) (hy : l[k]? = some y) (h : alikeM x y = true) : PairOk l i k := fun x' y' hx' hy' _ => by
 rw [hx] at hx'; rw [hy] at hy'; cases hx'; cases hy'
 exact h
end Go.Proofs.YthhckdjagnlgpaaGreat
end
section
namespace Go.Proofs.YthhckdjagnlgpaaGreat
open Go.RowKit Go.IntWalk Go.Maps
open Gr
set_option maxRecDepth 100000
attribute [local go_sem] Oper.semAt_some
theorem at_offG {w w' : World} {A : Option Addr} {xs : List Value} {G : Nat} (h : At w w.heap.size A xs) (hA : xs = [] ∨ ∀ a, A = some a → a.block ≠ G) (hk : ∀ k, k ≠ G → w'.heap[k]? = w.heap[k]?) (hs : w'.heap.size = w.heap.size) : At w' w'.heap.size A xs := by
 rcases hA with rfl | hA
 ·exact At.nil _ _ _
 ·intro i v hv
  obtain ⟨b, off, hA', hlt, hc⟩ := h i v hv
  exact ⟨b, off, hA', by rw [hs]; exact hlt, (cell_same (hk b (hA _ hA')) _).trans hc⟩
theorem moves_off {w : World} {G : Nat} {t : TypeId} {vs : List Value} {A : Option Addr} {L : List Mv} (hI : Is w G t vs) (hn : vs.length = 5) (h : At w w.heap.size A (mvs L)) : mvs L = [] ∨ ∀ a, A = some a → a.block ≠ G := by
 cases L with
 | nil => exact .inl rfl
 | cons x t2 =>
  right
  intro a ha hg
  obtain ⟨b, off, hA, _, hc⟩ := h 5 (.float .f64 (rk (mw x))) rfl
  rw [ha] at hA
  cases hA
  simp only at hg
  subst hg
  rw [is_cell hI, List.getElem?_eq_none (by omega)] at hc
  cases hc
theorem all7 (a b c d e f : Bool) : [a, b, c, d, e, f, true].all id = (a && (b && (c && (d && (e && f))))) := by cases a <;> cases b <;> cases c <;> cases d <;> cases e <;> cases f <;> rfl
set_option maxHeartbeats 8000000 in
theorem fmay_c {p : Pl} {r : Rp} (ok : RpOk r) {w : World} (ha : RpAt p r w) :
  Calls Tryz.prog 48 #[.agg #[.slice p.A1 r.B.length p.c1, .int .i64 r.fc, .int .i64 r.fr, .slice p.A2 r.L.length p.c2, .slice p.A3 r.V.length p.c3]] w fun e w' => e = .returned (.bool (mayF r)) ∧ Below w.heap.size w w' := by
 obtain ⟨w0, hw0⟩ : ∃ w0, w0 = w.alloc (.cells #[.slice p.A1 r.B.length p.c1, .int .i64 r.fc, .int .i64 r.fr, .slice p.A2 r.L.length p.c2, .slice p.A3 r.V.length p.c3] 55) := ⟨_, rfl⟩
 obtain ⟨w1, hw1⟩ : ∃ w1, w1 = w0.alloc (.cells #[.func (.func 102) #[] #[.pointer (some ⟨w.heap.size, 0, none⟩)], .func (.func 103) #[] #[.pointer (some ⟨w.heap.size, 0, none⟩)], .func (.func 105) #[] #[.pointer (some ⟨w.heap.size, 0, none⟩)], .func (.func 107) #[] #[.pointer (some ⟨w.heap.size, 0, none⟩)], .func (.func 108) #[] #[.pointer (some ⟨w.heap.size, 0, none⟩)], .func (.func 109) #[] #[.pointer (some ⟨w.heap.size, 0, none⟩)], .func (.func 110) #[] #[.pointer (some ⟨w.heap.size, 0, none⟩)]] 24) := ⟨_, rfl⟩
 have hb0 : Below w.heap.size w w0 := by rw [hw0]; exact (Below.refl w.heap.size w).alloc (Nat.le_refl _) _
 have hs0 : w0.heap.size = w.heap.size + 1 := by rw [hw0]; exact World.size_alloc _ _
 have hb1 : Below w0.heap.size w0 w1 := by rw [hw1]; exact (Below.refl w0.heap.size w0).alloc (Nat.le_refl _) _
 have hI : Is w0 w.heap.size 55 (rpcs p r) := by rw [hw0]; exact is_new w 55 _
 have hI1 : Is w1 w.heap.size 55 (rpcs p r) := is_below hI hb1 (is_lt hI)
 have ha1 : RpAt p r w1 := (ha.keep hb0).keep hb1
 have hat : At w1 w1.heap.size (some ⟨w.heap.size + 1, 0, none⟩) (fvs #[.pointer (some ⟨w.heap.size, 0, none⟩)] [102, 103, 105, 107, 108, 109, 110]) := by
  have := at_new w0 (fvs #[.pointer (some ⟨w.heap.size, 0, none⟩)] [102, 103, 105, 107, 108, 109, 110]) 24
  rw [show (w0.alloc (.cells (fvs #[.pointer (some ⟨w.heap.size, 0, none⟩)] [102, 103, 105, 107, 108, 109, 110]).toArray 24)) = w1 from hw1.symm] at this
  rw [show w1.heap.size = w0.heap.size + 1 by rw [hw1]; exact World.size_alloc _ _, ← hs0]
  exact this
 have hH := holds_c (w.heap.size + 1) 7 #[.pointer (some ⟨w.heap.size, 0, none⟩)] [102, 103, 105, 107, 108, 109, 110] [mayB r.B, mayM r.L, mayK r.V, decide ((sinM r.L r.fc r.fr).length = r.L.length), belowK (ofK r.L) r.V, zeroT r.fc r.fr || knownK r.V r.fc r.fr, true] (by decide) rfl
  (fun g hg => by
   simp only [List.mem_cons, List.not_mem_nil, or_false] at hg
   rcases hg with rfl | rfl | rfl | rfl | rfl | rfl | rfl
   ·exact enters_of Tryz.func102 (by kernel_rfl) rfl
   ·exact enters_of Tryz.func103 (by kernel_rfl) rfl
   ·exact enters_of Tryz.func105 (by kernel_rfl) rfl
   ·exact enters_of Tryz.func107 (by kernel_rfl) rfl
   ·exact enters_of Tryz.func108 (by kernel_rfl) rfl
   ·exact enters_of Tryz.func109 (by kernel_rfl) rfl
   ·exact enters_of Tryz.func110 (by kernel_rfl) rfl) w1 hat (fun k g b hg hb hall W hbW => by
   have hIW := is_below hI1 hbW (is_lt hI1)
   have haW := ha1.keep hbW
   match k, hg, hb, hall with
   | 0, hg, hb, _ => cases hg; cases hb; exact lk1_c ok hIW haW
   | 1, hg, hb, _ => cases hg; cases hb; exact lk2_c ok hIW haW
   | 2, hg, hb, _ => cases hg; cases hb; exact lk3_c ok hIW haW
   | 3, hg, hb, _ => cases hg; cases hb; exact lk4_c ok hIW haW
   | 4, hg, hb, _ => cases hg; cases hb; exact lk5_c ok hIW haW
   | 5, hg, hb, _ => cases hg; cases hb; exact lk6_c ok hIW haW
   | 6, hg, hb, hall =>
    cases hg; cases hb
    have h0 : mayB r.B = true := Option.some.inj (hall 0 (by omega))
    have h1 : mayM r.L = true := Option.some.inj (hall 1 (by omega))
    exact lk7_c ok (fun x hx => one64 (((mayB_tree r.B).1 h0).one x hx)) (fun m hm => one64 (one_row ((mayM_iff.1 h1).2.1 m hm))) hIW haW
   | k + 7, hg, _, _ => simp at hg)
 rw [all7] at hH
 have HH := Lib.hid hH
 have HW0 := Lib.hid hw0
 have HW1 := Lib.hid hw1
 have HB := Lib.hid (hb0.trans (hb1.mono hb0.size))
 have HS := Lib.hid hs0
 clear hH hw0 hw1 hb0 hb1 hI hI1 ha1 hat ha hs0
 go_enter Tryz.func48, Tryz.ntmps48
 go_wp2_with fail
 rw [← HW0.out]
 rw [← HW1.out]
 refine HH.out.mono ?_
 rintro e w2 ⟨rfl, hb⟩
 go_wp2_with fail
 go_ret
 exact ⟨rfl, HB.out.trans (hb.mono HB.out.size)⟩
set_option maxHeartbeats 4000000 in
theorem ftree_c {p : Pl} {r : Rp} (ok : RpOk r) (pl : RpPl p r) {w : World} (ha : RpAt p r w) :
  Calls Tryz.prog 50 #[.agg #[.slice p.A1 r.B.length p.c1, .int .i64 r.fc, .int .i64 r.fr, .slice p.A2 r.L.length p.c2, .slice p.A3 r.V.length p.c3]] w fun e w' => ∃ A c, e = .returned (.slice A (treeF r).length c) ∧ At w' w'.heap.size A (tvs (treeF r)) ∧ Below w.heap.size w w' := by
 obtain ⟨w0, hw0⟩ : ∃ w0, w0 = w.alloc (.cells #[.slice p.A1 r.B.length p.c1, .int .i64 r.fc, .int .i64 r.fr, .slice p.A2 r.L.length p.c2, .slice p.A3 r.V.length p.c3] 55) := ⟨_, rfl⟩
 have hb0 : Below w.heap.size w w0 := by rw [hw0]; exact (Below.refl w.heap.size w).alloc (Nat.le_refl _) _
 have hI : Is w0 w.heap.size 55 (rpcs p r) := by rw [hw0]; exact is_new w 55 _
 obtain ⟨G, hG⟩ : ∃ G, G = w.heap.size := ⟨_, rfl⟩
 rw [← hG] at hI
 obtain ⟨q0, q1, q2, q3, q4⟩ := box5 hI
 have hlb := ok.lb
 have hll := ok.ll
 have HC := Lib.hid (mall_c p.A1 p.A2 p.c1 p.c2 r.B r.L (by omega) pl.n1 pl.k1 (allP_above (by omega)) w0 (ha.keep hb0).b (ha.keep hb0).l)
 have HB := Lib.hid hb0
 have HW := Lib.hid hw0
 have HG := Lib.hid hG
 clear hb0 hI hw0 hG ha
 go_enter Tryz.func50, Tryz.ntmps50
 go_wp2_with fail
 rw [← HW.out]
 refine HC.out.mono ?_
 rintro e w2 ⟨A, c, rfl, hat, -, -, hb⟩
 go_wp2_with fail
 go_ret
 exact ⟨A, c, rfl, hat, HB.out.trans (hb.mono HB.out.size)⟩
set_option maxHeartbeats 8000000 in
theorem equalK_c (A1 A2 : Option Addr) (c1 c2 : Nat) (xs ys : List Mk) (hx : xs.length ≤ maxLen) (hy : ys.length ≤ maxLen) (w : World) (h1 : At w w.heap.size A1 (kvs xs)) (h2 : At w w.heap.size A2 (kvs ys)) :
  Calls Tryz.prog 116 #[.slice A1 xs.length c1, .slice A2 ys.length c2] w fun e w' => e = .returned (.bool (decide (xs = ys))) ∧ Below w.heap.size w w' := by
 have H1 := Lib.hid h1
 have H2 := Lib.hid h2
 unfold maxLen at hx hy
 clear h1 h2
 obtain ⟨n, hn⟩ : ∃ n, xs.length = n := ⟨_, rfl⟩
 obtain ⟨m, hm⟩ : ∃ m, ys.length = m := ⟨_, rfl⟩
 have HN := Lib.hid hn
 have HM := Lib.hid hm
 rw [hn, hm]
 rw [hn] at hx
 rw [hm] at hy
 clear hn hm
 by_cases hnm : n = m
 case neg =>
  have hres : decide (xs = ys) = false := decide_eq_false fun e => hnm (by rw [← HN.out, ← HM.out, e])
  rw [hres]
  have hi : ¬ ((n : Int) = (m : Int)) := by omega
  have hd : decide ((n : Int) = (m : Int)) = false := decide_eq_false hi
  clear hres
  go_enter Tryz.func116, Tryz.ntmps116
  go_wp2_with fail
  go_ret
  exact ⟨rfl, Below.refl _ _⟩
 subst hnm
 obtain ⟨q, hq⟩ : ∃ q, decide (xs = ys) = q := ⟨_, rfl⟩
 rw [hq]
 have HQ := Lib.hid hq
 clear hq
 go_enter Tryz.func116, Tryz.ntmps116
 go_wp2_with fail
 go_loopw [13] (fun i wr => ∃ k : Nat, i = .int .i64 (k : Int) ∧ k ≤ n ∧ xs.take k = ys.take k ∧ Below w.heap.size w wr) (fun i _ => n - (Go.RowKit.intOf i).toNat)
 case atStart => exact ⟨0, rfl, Nat.zero_le _, rfl, Below.refl _ _⟩
 case round =>
  obtain ⟨k, rfl, hk, htk, hbw⟩ := hrel
  have HTK := Lib.hid htk
  clear htk
  by_cases hlt : k < n
  ·obtain ⟨a, hxa⟩ := some_at (show k < xs.length by rw [HN.out]; exact hlt)
   obtain ⟨b, hyb⟩ := some_at (show k < ys.length by rw [HM.out]; exact hlt)
   obtain ⟨b1, o1, rfl, -, x0, x1⟩ := mark_cells (H1.out.keep hbw) hxa
   obtain ⟨b2, o2, rfl, -, y0, y1⟩ := mark_cells (H2.out.keep hbw) hyb
   have hki : (0 : Int) ≤ (k : Int) := by omega
   have hkl : (k : Int) < (n : Int) := by omega
   have HXA := Lib.hid hxa
   have HYB := Lib.hid hyb
   clear hxa hyb
   by_cases e1 : kr a = kr b
   case neg =>
    have HNE : Hid (kr a ≠ kr b) := Lib.hid e1
    have HE := HNE
    clear e1
    go_wp2_with fail
    refine quiet_held (fun w' => Below wr.heap.size wr w') (by kernel_rfl) (by kernel_rfl) (Below.refl _ _).drew ?_
    repeat (first
     | go_big_quiet_skip
     | (go_big_quiet_want; go_big_quiet_op; go_big_quiet_on)
     | (go_big_quiet_want; apply Exists.intro; refine ⟨fun wq hq => ?_, ?_⟩; (focus (have r0 := keep_cell hq x0; have r1 := keep_cell hq x1; have r2 := keep_cell hq y0; have r3 := keep_cell hq y1; unfold Oper.quietAt; go_simp; all_goals (first | rfl | (rw [if_neg HE.out]; exact ⟨rfl, rfl⟩)))); simp only [Act.put, List.setIfInBounds_toArray, List.set_cons_zero, List.set_cons_succ]; go_big_quiet_on))
    refine wpQuiet_nil ?_
    intro wx hbx
    have hbz := hbw.trans (hbx.mono hbw.size)
    go_wp2_with fail
    go_ret
    have hqf : q = false := by
     rw [← HQ.out]
     refine decide_eq_false fun e => ?_
     have h := HXA.out
     rw [e, HYB.out] at h
     injection h with h
     exact HNE.out (by rw [h])
    rw [hqf]
    exact ⟨rfl, hbz⟩
   by_cases e2 : kc a = kc b
   case neg =>
    have HNE : Hid (kc a ≠ kc b) := Lib.hid e2
    have HE := HNE
    have HE1 := Lib.hid e1
    clear e1 e2
    go_wp2_with fail
    refine quiet_held (fun w' => Below wr.heap.size wr w') (by kernel_rfl) (by kernel_rfl) (Below.refl _ _).drew ?_
    repeat (first
     | go_big_quiet_skip
     | (go_big_quiet_want; go_big_quiet_op; go_big_quiet_on)
     | (go_big_quiet_want; apply Exists.intro; refine ⟨fun wq hq => ?_, ?_⟩; (focus (have r0 := keep_cell hq x0; have r1 := keep_cell hq x1; have r2 := keep_cell hq y0; have r3 := keep_cell hq y1; unfold Oper.quietAt; go_simp; all_goals (first | rfl | (rw [if_pos HE1.out, if_neg HE.out]; exact ⟨rfl, rfl⟩)))); simp only [Act.put, List.setIfInBounds_toArray, List.set_cons_zero, List.set_cons_succ]; go_big_quiet_on))
    refine wpQuiet_nil ?_
    intro wx hbx
    have hbz := hbw.trans (hbx.mono hbw.size)
    go_wp2_with fail
    go_ret
    have hqf : q = false := by
     rw [← HQ.out]
     refine decide_eq_false fun e => ?_
     have h := HXA.out
     rw [e, HYB.out] at h
     injection h with h
     exact HNE.out (by rw [h])
    rw [hqf]
    exact ⟨rfl, hbz⟩
   have HE1 := Lib.hid e1
   have HE := Lib.hid e2
   have HAB : Hid (a = b) := Lib.hid (Prod.ext e1 e2)
   clear e1 e2
   go_wp2_with fail
   refine quiet_held (fun w' => Below wr.heap.size wr w') (by kernel_rfl) (by kernel_rfl) (Below.refl _ _).drew ?_
   repeat (first
    | go_big_quiet_skip
    | (go_big_quiet_want; go_big_quiet_op; go_big_quiet_on)
    | (go_big_quiet_want; apply Exists.intro; refine ⟨fun wq hq => ?_, ?_⟩; (focus (have r0 := keep_cell hq x0; have r1 := keep_cell hq x1; have r2 := keep_cell hq y0; have r3 := keep_cell hq y1; unfold Oper.quietAt; go_simp; all_goals (first | rfl | (rw [if_pos HE1.out, if_pos HE.out]; exact ⟨rfl, rfl⟩)))); simp only [Act.put, List.setIfInBounds_toArray, List.set_cons_zero, List.set_cons_succ]; go_big_quiet_on))
   refine wpQuiet_nil ?_
   intro wx hbx
   have hbz := hbw.trans (hbx.mono hbw.size)
   go_wp2_with fail
   go_roundw
   case rel => exact ⟨k + 1, by go_num, by omega, by rw [List.take_add_one, List.take_add_one, HXA.out, HYB.out, HTK.out, HAB.out], hbz⟩
   case measure => simp only [Go.RowKit.intOf]; omega
  ·obtain rfl : k = n := by omega
   go_wp2_with fail
   go_ret
   have hqt : q = true := by
    rw [← HQ.out]
    refine decide_eq_true ?_
    have h := HTK.out
    rwa [List.take_of_length_le (by rw [HN.out]; exact Nat.le_refl _), List.take_of_length_le (by rw [HM.out]; exact Nat.le_refl _)] at h
   rw [hqt]
   exact ⟨rfl, hbw⟩
end Go.Proofs.YthhckdjagnlgpaaGreat
end
