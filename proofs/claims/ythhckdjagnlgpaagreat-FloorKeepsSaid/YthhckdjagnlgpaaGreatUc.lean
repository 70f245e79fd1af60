/-
 Contracts of package rank's Before and of the document's: times by their counters, and replicas.
 Moves by their times, plain: inserted, since a time, united; the order does not matter.
-/
import Derived.Test.YthhckdjagnlgpaaGreatAb
section
namespace Go.Proofs.YthhckdjagnlgpaaGreat
open Go.RowKit
open Fl
set_option maxRecDepth 100000
theorem bef1_c (Ba Bb : Nat) (x y : Int) (w : World) (h1 : w.cell? ⟨Ba, 0, none⟩ = some (.int .i64 x)) (h2 : w.cell? ⟨Bb, 0, none⟩ = some (.int .i64 y)) :
  Calls Tryz.prog 151 #[.pointer (some ⟨Ba, 0, none⟩), .pointer (some ⟨Bb, 0, none⟩)] w fun e w' => e = .returned (.int .i64 (ci x y)) ∧ w = w' := by
 go_enter Tryz.func151, Tryz.ntmps151
 go_wp2_with fail
 refine (cmpInt_c x y _).mono ?_
 rintro e w1 ⟨rfl, rfl⟩
 go_wp2
 go_ret
 exact ⟨rfl, rfl⟩
theorem bef2_c (Ba Bb : Nat) (x y : Int) (w : World) (h1 : w.cell? ⟨Ba, 1, none⟩ = some (.int .i64 x)) (h2 : w.cell? ⟨Bb, 1, none⟩ = some (.int .i64 y)) :
  Calls Tryz.prog 152 #[.pointer (some ⟨Ba, 0, none⟩), .pointer (some ⟨Bb, 0, none⟩)] w fun e w' => e = .returned (.int .i64 (ci x y)) ∧ w = w' := by
 go_enter Tryz.func152, Tryz.ntmps152
 go_wp2_with fail
 refine (cmpInt_c x y _).mono ?_
 rintro e w1 ⟨rfl, rfl⟩
 go_wp2
 go_ret
 exact ⟨rfl, rfl⟩
set_option maxHeartbeats 1000000 in
theorem firstB_c (p q : Value) (B : Nat) (v1 v2 : Int) (w : World)
  (hc1 : w.cell? ⟨B, 0, none⟩ = some (.func (.func 151) #[] #[p, q])) (hc2 : w.cell? ⟨B, 1, none⟩ = some (.func (.func 152) #[] #[p, q])) (hB : B < w.heap.size)
  (H1 : Hid (∀ wx, Below w.heap.size w wx → Calls Tryz.prog 151 #[p, q] wx fun e w' => e = .returned (.int .i64 v1) ∧ Below w.heap.size w w'))
  (H2 : Hid (∀ wx, Below w.heap.size w wx → Calls Tryz.prog 152 #[p, q] wx fun e w' => e = .returned (.int .i64 v2) ∧ Below w.heap.size w w')) :
  Calls Tryz.prog 141 #[.slice (some ⟨B, 0, none⟩) 2 2] w fun e w' => e = .returned (.int .i64 (fr v1 v2)) ∧ Below w.heap.size w w' := by
 by_cases h0 : v1 = 0
 ·subst h0
  have hfr : fr 0 v2 = v2 := by simp [fr]
  rw [hfr]
  clear hfr
  by_cases h2 : v2 = 0
  ·subst h2
   go_enter Tryz.func141, Tryz.ntmps141
   go_wp2_with fail
   refine wp_loop_rounds 3 ?_
   rw [rounds_succ]
   go_wp2_with fail
   refine (H1.out _ (Below.refl _ _)).mono ?_
   rintro e w1 ⟨rfl, hb1⟩
   have hc2' := (hb1.cell (p := ⟨B, 1, none⟩) hB).trans hc2
   go_wp2_with fail
   rw [rounds_succ]
   go_wp2_with fail
   refine (H2.out _ hb1).mono ?_
   rintro e w2 ⟨rfl, hb2⟩
   clear hc2'
   go_wp2
   rw [rounds_succ]
   go_wp2
   go_ret
   exact ⟨rfl, hb2⟩
  ·have h3 : (v2 != 0) = true := by rw [bne_iff_ne]; exact h2
   go_enter Tryz.func141, Tryz.ntmps141
   go_wp2_with fail
   refine wp_loop_rounds 2 ?_
   rw [rounds_succ]
   go_wp2_with fail
   refine (H1.out _ (Below.refl _ _)).mono ?_
   rintro e w1 ⟨rfl, hb1⟩
   have hc2' := (hb1.cell (p := ⟨B, 1, none⟩) hB).trans hc2
   go_wp2_with fail
   rw [rounds_succ]
   go_wp2_with fail
   refine (H2.out _ hb1).mono ?_
   rintro e w2 ⟨rfl, hb2⟩
   clear hc2'
   go_wp2
   go_ret
   exact ⟨rfl, hb2⟩
 ·have hfr : fr v1 v2 = v1 := by simp [fr, h0]
  rw [hfr]
  clear hfr
  have h3 : (v1 != 0) = true := by rw [bne_iff_ne]; exact h0
  go_enter Tryz.func141, Tryz.ntmps141
  go_wp2_with fail
  refine wp_loop_rounds 1 ?_
  rw [rounds_succ]
  go_wp2_with fail
  refine (H1.out _ (Below.refl _ _)).mono ?_
  rintro e w1 ⟨rfl, hb1⟩
  go_wp2
  go_ret
  exact ⟨rfl, hb1⟩
theorem before_c (c1 r1 c2 r2 : Int) (w : World) :
  Calls Tryz.prog 94 #[.agg #[.int .i64 c1, .int .i64 r1], .agg #[.int .i64 c2, .int .i64 r2]] w fun e w' => e = .returned (.bool (decide (fr (ci c1 c2) (ci r1 r2) < 0))) ∧ Below w.heap.size w w' := by
 have hF := three_facts w #[.int .i64 c1, .int .i64 r1] #[.int .i64 c2, .int .i64 r2]
  #[.func (.func 151) #[] #[.pointer (some ⟨w.heap.size, 0, none⟩), .pointer (some ⟨w.heap.size + 1, 0, none⟩)], .func (.func 152) #[] #[.pointer (some ⟨w.heap.size, 0, none⟩), .pointer (some ⟨w.heap.size + 1, 0, none⟩)]] 51 145
 have HF := Lib.hid hF
 clear hF
 go_enter Tryz.func94, Tryz.ntmps94
 go_wp2_with fail
 obtain ⟨f1, f2, f3, f4, f5⟩ := HF.out
 refine (firstB_c (.pointer (some ⟨w.heap.size, 0, none⟩)) (.pointer (some ⟨w.heap.size + 1, 0, none⟩)) (w.heap.size + 1 + 1) (ci c1 c2) (ci r1 r2)
  (three w #[.int .i64 c1, .int .i64 r1] #[.int .i64 c2, .int .i64 r2]
   #[.func (.func 151) #[] #[.pointer (some ⟨w.heap.size, 0, none⟩), .pointer (some ⟨w.heap.size + 1, 0, none⟩)], .func (.func 152) #[] #[.pointer (some ⟨w.heap.size, 0, none⟩), .pointer (some ⟨w.heap.size + 1, 0, none⟩)]] 51 145)
  (f3 0) (f3 1) f4 ?_ ?_).mono ?_
 ·intro wx hb
  refine (bef1_c w.heap.size (w.heap.size + 1) c1 c2 wx ((hb.cell (p := ⟨w.heap.size, 0, none⟩) (Nat.lt_of_succ_lt (Nat.lt_of_succ_lt f4))).trans (f1 0)) ((hb.cell (p := ⟨w.heap.size + 1, 0, none⟩) (Nat.lt_of_succ_lt f4)).trans (f2 0))).mono ?_
  rintro e w' ⟨rfl, rfl⟩
  exact ⟨rfl, hb⟩
 ·intro wx hb
  refine (bef2_c w.heap.size (w.heap.size + 1) r1 r2 wx ((hb.cell (p := ⟨w.heap.size, 1, none⟩) (Nat.lt_of_succ_lt (Nat.lt_of_succ_lt f4))).trans (f1 1)) ((hb.cell (p := ⟨w.heap.size + 1, 1, none⟩) (Nat.lt_of_succ_lt f4)).trans (f2 1))).mono ?_
  rintro e w' ⟨rfl, rfl⟩
  exact ⟨rfl, hb⟩
 ·rintro e w' ⟨rfl, hb⟩
  clear f1 f2 f3
  go_wp2
  go_ret
  exact ⟨rfl, f5.trans (hb.mono f5.size)⟩
theorem rBefore_c (c1 r1 c2 r2 : Int) (w : World) :
  Calls Tryz.prog 58 #[.agg #[.int .i64 c1, .int .i64 r1], .agg #[.int .i64 c2, .int .i64 r2]] w fun e w' => e = .returned (.bool (decide (fr (ci c1 c2) (ci r1 r2) < 0))) ∧ Below w.heap.size w w' := by
 rcases Int.lt_trichotomy c1 c2 with h | h | h
 ·have hv : decide (fr (ci c1 c2) (ci r1 r2) < 0) = true := by rw [ci_lt h]; rfl
  rw [hv]
  clear hv
  go_enter Tryz.func58, Tryz.ntmps58
  go_wp2
  go_ret
  exact ⟨rfl, by go_grown⟩
 ·subst h
  have hv : decide (fr (ci c1 c1) (ci r1 r2) < 0) = decide (r1 < r2) := by rw [ci_eq, fr_zero, ci_neg]
  rw [hv]
  clear hv
  go_enter Tryz.func58, Tryz.ntmps58
  go_wp2
  go_ret
  exact ⟨rfl, by go_grown⟩
 ·have hv : decide (fr (ci c1 c2) (ci r1 r2) < 0) = false := by rw [ci_gt h]; rfl
  rw [hv]
  clear hv
  have h1 : ¬ c1 < c2 := by omega
  have h2 : (c1 == c2) = false := by rw [beq_eq_false_iff_ne]; omega
  go_enter Tryz.func58, Tryz.ntmps58
  go_wp2
  go_ret
  exact ⟨rfl, by go_grown⟩
/-- is the one time ahead of the other -/
def befT (c1 r1 c2 r2 : Int) : Bool := decide (c1 < c2) || (decide (c1 = c2) && decide (r1 < r2))
theorem bef_eq (c1 r1 c2 r2 : Int) : decide (fr (ci c1 c2) (ci r1 r2) < 0) = befT c1 r1 c2 r2 := by
 unfold befT
 rcases Int.lt_trichotomy c1 c2 with h | h | h
 ·rw [ci_lt h, decide_eq_true (show c1 < c2 from h)]; rfl
 ·subst h; rw [ci_eq, fr_zero, ci_neg]; simp
 ·rw [ci_gt h, decide_eq_false (show ¬ c1 < c2 by omega), decide_eq_false (show ¬ c1 = c2 by omega)]; rfl
theorem bef_c (c1 r1 c2 r2 : Int) (w : World) :
  Calls Tryz.prog 94 #[.agg #[.int .i64 c1, .int .i64 r1], .agg #[.int .i64 c2, .int .i64 r2]] w fun e w' => e = .returned (.bool (befT c1 r1 c2 r2)) ∧ Below w.heap.size w w' := by
 rw [← bef_eq]; exact before_c c1 r1 c2 r2 w
theorem rbef_c (c1 r1 c2 r2 : Int) (w : World) :
  Calls Tryz.prog 58 #[.agg #[.int .i64 c1, .int .i64 r1], .agg #[.int .i64 c2, .int .i64 r2]] w fun e w' => e = .returned (.bool (befT c1 r1 c2 r2)) ∧ Below w.heap.size w w' := by
 rw [← bef_eq]; exact rBefore_c c1 r1 c2 r2 w
end Go.Proofs.YthhckdjagnlgpaaGreat
end
section
namespace Go.Proofs.YthhckdjagnlgpaaGreat
open Go.RowKit
open Fl
set_option maxRecDepth 100000
def timeEq (a b : Mv) : Bool := decide (mc a = mc b) && decide (mr a = mr b)
def bm (a b : Mv) : Bool := befT (mc a) (mr a) (mc b) (mr b)
def alikeM (a b : Mv) : Bool := timeEq a b && alikeP (mw a) (mw b)
def MLt (a b : Mv) : Prop := mc a < mc b ∨ (mc a = mc b ∧ mr a < mr b)
theorem timeEq_iff {a b : Mv} : timeEq a b = true ↔ mc a = mc b ∧ mr a = mr b := by simp [timeEq]
theorem bm_iff {a b : Mv} : bm a b = true ↔ MLt a b := by simp [bm, befT, MLt]
theorem MLt.trans {a b c : Mv} (h : MLt a b) (h2 : MLt b c) : MLt a c := by unfold MLt at *; omega
theorem alikeP_refl (r : Rw) : alikeP r r = true := by simp [alikeP]
theorem alikeP_symm {a b : Rw} (h : alikeP a b = true) : alikeP b a = true := by
 simp only [alikeP, Bool.and_eq_true, decide_eq_true_eq, beq_iff_eq] at h ⊢
 exact ⟨h.1.symm, h.2.1.symm, h.2.2.1.symm, h.2.2.2.symm⟩
theorem alikeM_refl (m : Mv) : alikeM m m = true := by
 unfold alikeM; rw [alikeP_refl, Bool.and_true, timeEq_iff]; exact ⟨rfl, rfl⟩
theorem alikeM_symm {a b : Mv} (h : alikeM a b = true) : alikeM b a = true := by
 unfold alikeM at *
 rw [Bool.and_eq_true, timeEq_iff] at *
 exact ⟨⟨h.1.1.symm, h.1.2.symm⟩, alikeP_symm h.2⟩
theorem alikeM_time {a b : Mv} (h : alikeM a b = true) : timeEq a b = true := by
 unfold alikeM at h; rw [Bool.and_eq_true] at h; exact h.1
/-- moves, one behind the other, of which no two are of one time, by their times -/
abbrev Asc (l : List Mv) : Prop := l.Pairwise MLt
def insM (l : List Mv) (m : Mv) : List Mv × Nat × Bool := match l.findIdx? (fun x => timeEq x m) with
 | some k => (l, k, false)
 | none => match l.findIdx? (fun x => bm m x) with
  | some k => (l.take k ++ m :: l.drop k, k, true)
  | none => (l ++ [m], l.length, true)
theorem insM_cases (l : List Mv) (m : Mv) :
  (∃ (k : Nat) (x : Mv), l[k]? = some x ∧ timeEq x m = true ∧ (∀ y ∈ l.take k, timeEq y m = false) ∧ insM l m = (l, k, false) ∧ k < l.length) ∨
  ((∀ y ∈ l, timeEq y m = false) ∧ ∃ k : Nat, k ≤ l.length ∧ (∀ y ∈ l.take k, bm m y = false) ∧ (∀ y, l[k]? = some y → bm m y = true) ∧ insM l m = (l.take k ++ m :: l.drop k, k, true)) := by
 unfold insM
 cases h : l.findIdx? (fun x => timeEq x m) with
 | some k =>
  obtain ⟨h1, h2, h3⟩ := List.findIdx?_eq_some_iff_getElem.1 h
  refine .inl ⟨k, l[k], by simp [h1], h2, fun y hy => ?_, rfl, h1⟩
  obtain ⟨j, hj, e⟩ := List.mem_iff_getElem.1 hy
  rw [List.length_take] at hj
  rw [List.getElem_take] at e
  have := h3 j (by omega)
  rw [← e]
  simpa using this
 | none =>
  have h0 : ∀ y ∈ l, timeEq y m = false := fun y hy => by simpa using (List.findIdx?_eq_none_iff.1 h) y hy
  refine .inr ⟨h0, ?_⟩
  cases h2 : l.findIdx? (fun x => bm m x) with
  | some k =>
   obtain ⟨h1, h4, h3⟩ := List.findIdx?_eq_some_iff_getElem.1 h2
   refine ⟨k, by omega, fun y hy => ?_, fun y hy => ?_, rfl⟩
   ·obtain ⟨j, hj, e⟩ := List.mem_iff_getElem.1 hy
    rw [List.length_take] at hj
    rw [List.getElem_take] at e
    have := h3 j (by omega)
    rw [← e]
    simpa using this
   ·rw [List.getElem?_eq_getElem h1] at hy
    cases hy
    exact h4
  | none =>
   refine ⟨l.length, Nat.le_refl _, fun y hy => ?_, fun y hy => ?_, by rw [List.take_length, List.drop_length]⟩
   ·rw [List.take_length] at hy
    simpa using (List.findIdx?_eq_none_iff.1 h2) y hy
   ·rw [List.getElem?_eq_none (Nat.le_refl _)] at hy; cases hy
theorem insM_asc {l : List Mv} (m : Mv) (h : Asc l) : Asc (insM l m).1 := by
 rcases insM_cases l m with ⟨k, x, _, _, _, e, _⟩ | ⟨h0, k, hk, hlo, hhi, e⟩
 ·rw [e]; exact h
 ·rw [e]
  show Asc (l.take k ++ m :: l.drop k)
  have hsplit : l = l.take k ++ l.drop k := (List.take_append_drop k l).symm
  have h' := h
  rw [hsplit] at h'
  obtain ⟨ha, hb, hab⟩ := List.pairwise_append.1 h'
  have h1 : ∀ y ∈ l.take k, MLt y m := fun y hy => by
   have e1 := hlo y hy
   have e2 := h0 y (List.mem_of_mem_take hy)
   have n1 : ¬ MLt m y := fun hx => by rw [bm_iff.2 hx] at e1; cases e1
   have n2 : ¬ (mc y = mc m ∧ mr y = mr m) := fun hx => by rw [timeEq_iff.2 hx] at e2; cases e2
   unfold MLt at *
   omega
  have h2 : ∀ y ∈ l.drop k, MLt m y := fun y hy => by
   cases hd : l.drop k with
   | nil => rw [hd] at hy; cases hy
   | cons z t =>
    have hz : l[k]? = some z := by
     have : (l.drop k)[0]? = some z := by rw [hd]; rfl
     rwa [List.getElem?_drop, Nat.add_zero] at this
    have hmz := bm_iff.1 (hhi z hz)
    rw [hd] at hy hb
    rcases List.mem_cons.1 hy with rfl | hy
    ·exact hmz
    ·exact hmz.trans ((List.pairwise_cons.1 hb).1 y hy)
  refine List.pairwise_append.2 ⟨ha, List.pairwise_cons.2 ⟨h2, hb⟩, fun x hx y hy => ?_⟩
  rcases List.mem_cons.1 hy with rfl | hy
  ·exact h1 x hx
  ·exact (h1 x hx).trans (h2 y hy)
theorem insM_mem {l : List Mv} {m x : Mv} (h : x ∈ (insM l m).1) : x ∈ l ∨ x = m := by
 rcases insM_cases l m with ⟨k, y, _, _, _, e, _⟩ | ⟨h0, k, hk, hlo, hhi, e⟩
 ·rw [e] at h; exact .inl h
 ·rw [e] at h
  rcases List.mem_append.1 h with h | h
  ·exact .inl (List.mem_of_mem_take h)
  ·rcases List.mem_cons.1 h with h | h
   ·exact .inr h
   ·exact .inl (List.mem_of_mem_drop h)
theorem insM_keep {l : List Mv} {m x : Mv} (h : x ∈ l) : x ∈ (insM l m).1 := by
 rcases insM_cases l m with ⟨k, y, _, _, _, e, _⟩ | ⟨h0, k, hk, hlo, hhi, e⟩
 ·rw [e]; exact h
 ·rw [e]
  show x ∈ l.take k ++ m :: l.drop k
  rw [← List.take_append_drop k l] at h
  rcases List.mem_append.1 h with h | h
  ·exact List.mem_append.2 (.inl h)
  ·exact List.mem_append.2 (.inr (List.mem_cons_of_mem _ h))
theorem insM_time (l : List Mv) (m : Mv) : ∃ x ∈ (insM l m).1, timeEq x m = true := by
 rcases insM_cases l m with ⟨k, y, hy, ht, _, e, _⟩ | ⟨h0, k, hk, hlo, hhi, e⟩
 ·rw [e]; exact ⟨y, List.mem_of_getElem? hy, ht⟩
 ·rw [e]; exact ⟨m, List.mem_append.2 (.inr List.mem_cons_self), timeEq_iff.2 ⟨rfl, rfl⟩⟩
theorem insM_len (l : List Mv) (m : Mv) : (insM l m).1.length ≤ l.length + 1 := by
 rcases insM_cases l m with ⟨k, y, _, _, _, e, _⟩ | ⟨h0, k, hk, hlo, hhi, e⟩
 ·rw [e]; show l.length ≤ _; omega
 ·rw [e]
  show (l.take k ++ m :: l.drop k).length ≤ _
  rw [List.length_append, List.length_take, List.length_cons, List.length_drop]
  omega
theorem insM_old {l : List Mv} {m : Mv} (h : ∃ x ∈ l, timeEq x m = true) : (insM l m).1 = l := by
 rcases insM_cases l m with ⟨k, y, _, _, _, e, _⟩ | ⟨h0, _⟩
 ·rw [e]
 ·obtain ⟨x, hx, ht⟩ := h
  rw [h0 x hx] at ht; cases ht
def uniM (a b : List Mv) : List Mv := b.foldl (fun a m => (insM a m).1) a
theorem uniM_cons (a : List Mv) (m : Mv) (b : List Mv) : uniM a (m :: b) = uniM (insM a m).1 b := rfl
theorem uniM_asc : ∀ {b a : List Mv}, Asc a → Asc (uniM a b)
 | [], _, h => h
 | m :: b, _, h => uniM_asc (b := b) (insM_asc m h)
theorem uniM_mem : ∀ {b a : List Mv} {x : Mv}, x ∈ uniM a b → x ∈ a ∨ x ∈ b
 | [], _, _, h => .inl h
 | m :: b, a, x, h => by
  rcases uniM_mem (b := b) h with h | h
  ·rcases insM_mem h with h | h
   ·exact .inl h
   ·exact .inr (by rw [h]; exact List.mem_cons_self)
  ·exact .inr (List.mem_cons_of_mem _ h)
theorem uniM_keep : ∀ {b a : List Mv} {x : Mv}, x ∈ a → x ∈ uniM a b
 | [], _, _, h => h
 | _ :: b, _, _, h => uniM_keep (b := b) (insM_keep h)
theorem uniM_time : ∀ {b a : List Mv} {x : Mv}, x ∈ b → ∃ y ∈ uniM a b, timeEq y x = true
 | m :: b, a, x, h => by
  rcases List.mem_cons.1 h with rfl | h
  ·obtain ⟨y, hy, ht⟩ := insM_time a x
   exact ⟨y, uniM_keep (b := b) hy, ht⟩
  ·exact uniM_time (b := b) h
theorem uniM_len : ∀ (b a : List Mv), (uniM a b).length ≤ a.length + b.length
 | [], a => Nat.le_refl _
 | m :: b, a => by
  have h1 := uniM_len b (insM a m).1
  have h2 := insM_len a m
  rw [uniM_cons, List.length_cons]
  omega
theorem uniM_old : ∀ {b a : List Mv}, (∀ x ∈ b, ∃ y ∈ a, timeEq y x = true) → uniM a b = a
 | [], _, _ => rfl
 | m :: b, a, h => by
  rw [uniM_cons, insM_old (h m List.mem_cons_self)]
  exact uniM_old fun x hx => h x (List.mem_cons_of_mem _ hx)
def sameM : List Mv → List Mv → Bool
 | [], [] => true
 | a :: l, b :: m => alikeM a b && sameM l m
 | _, _ => false
theorem sameM_refl : ∀ l : List Mv, sameM l l = true
 | [] => rfl
 | a :: l => by rw [sameM, alikeM_refl, sameM_refl l]; rfl
theorem sameM_len : ∀ {l m : List Mv}, l.length ≠ m.length → sameM l m = false
 | [], [], h => by simp at h
 | [], _ :: _, _ => rfl
 | _ :: _, [], _ => rfl
 | a :: l, b :: m, h => by rw [sameM, sameM_len (l := l) (m := m) (by simpa using h), Bool.and_false]
theorem sameM_step {l m : List Mv} {k : Nat} {a b : Mv} (ha : l[k]? = some a) (hb : m[k]? = some b) : sameM (l.drop k) (m.drop k) = (alikeM a b && sameM (l.drop (k + 1)) (m.drop (k + 1))) := by
 have h1 := (List.getElem?_eq_some_iff.1 ha).1
 have h2 := (List.getElem?_eq_some_iff.1 ha).2
 have h3 := (List.getElem?_eq_some_iff.1 hb).1
 have h4 := (List.getElem?_eq_some_iff.1 hb).2
 rw [List.drop_eq_getElem_cons h1, List.drop_eq_getElem_cons h3, h2, h4, sameM]
/-- two by their times, of the same times, alike each: the same -/
theorem sameM_of : ∀ {a b : List Mv}, Asc a → Asc b → (∀ x ∈ a, ∃ y ∈ b, alikeM x y = true) → (∀ y ∈ b, ∃ x ∈ a, timeEq x y = true) → sameM a b = true
 | [], [], _, _, _, _ => rfl
 | [], y :: b, _, _, _, h => by obtain ⟨x, hx, _⟩ := h y List.mem_cons_self; cases hx
 | x :: a, [], _, _, h, _ => by obtain ⟨y, hy, _⟩ := h x List.mem_cons_self; cases hy
 | x :: a, y :: b, ha, hb, h1, h2 => by
  obtain ⟨ha1, ha2⟩ := List.pairwise_cons.1 ha
  obtain ⟨hb1, hb2⟩ := List.pairwise_cons.1 hb
  have hxy : alikeM x y = true := by
   obtain ⟨y', hy', hal⟩ := h1 x List.mem_cons_self
   rcases List.mem_cons.1 hy' with rfl | hy'
   ·exact hal
   ·exfalso
    have e1 := timeEq_iff.1 (alikeM_time hal)
    have l1 := hb1 y' hy'
    obtain ⟨x', hx', ht⟩ := h2 y List.mem_cons_self
    have e2 := timeEq_iff.1 ht
    rcases List.mem_cons.1 hx' with rfl | hx'
    ·unfold MLt at l1; omega
    ·have l2 := ha1 x' hx'
     unfold MLt at l1 l2; omega
  have hxt := timeEq_iff.1 (alikeM_time hxy)
  rw [sameM, hxy, Bool.true_and]
  refine sameM_of ha2 hb2 (fun u hu => ?_) (fun v hv => ?_)
  ·obtain ⟨v, hv, hal⟩ := h1 u (List.mem_cons_of_mem _ hu)
   rcases List.mem_cons.1 hv with rfl | hv
   ·exfalso
    have e1 := timeEq_iff.1 (alikeM_time hal)
    have l1 := ha1 u hu
    unfold MLt at l1; omega
   ·exact ⟨v, hv, hal⟩
  ·obtain ⟨u, hu, ht⟩ := h2 v (List.mem_cons_of_mem _ hv)
   rcases List.mem_cons.1 hu with rfl | hu
   ·exfalso
    have e1 := timeEq_iff.1 ht
    have l1 := hb1 v hv
    unfold MLt at l1; omega
   ·exact ⟨u, hu, ht⟩
def oneM (m : Mv) : Bool := decide (1 ≤ mc m) && (decide (mc m ≤ 4611686018427387903) && (decide (1 ≤ mr m) && (decide (mr m ≤ 255) && oneP (mw m))))
/-- whether all may be, and rise, behind the one ahead of them -/
def resM : Option Mv → List Mv → Bool
 | _, [] => true
 | p, x :: t => oneM x && ((match p with | none => true | some q => bm q x) && resM (some x) t)
def mayL (l : List Mv) : Bool := resM none l
def mayM (l : List Mv) : Bool := decide (l.length ≤ 2000) && mayL l
theorem resM_iff : ∀ {t : List Mv} {q : Mv}, resM (some q) t = true ↔ (∀ m ∈ t, oneM m = true) ∧ Asc (q :: t)
 | [], q => by simp [resM]
 | x :: t, q => by
  have ih := resM_iff (t := t) (q := x)
  unfold resM
  simp only [Bool.and_eq_true]
  rw [ih, bm_iff]
  constructor
  ·rintro ⟨h1, h2, h3, h4⟩
   refine ⟨fun m hm => ?_, List.pairwise_cons.2 ⟨fun y hy => ?_, h4⟩⟩
   ·rcases List.mem_cons.1 hm with rfl | hm
    ·exact h1
    ·exact h3 m hm
   ·rcases List.mem_cons.1 hy with rfl | hy
    ·exact h2
    ·exact h2.trans ((List.pairwise_cons.1 h4).1 y hy)
  ·rintro ⟨h1, h2⟩
   obtain ⟨h3, h4⟩ := List.pairwise_cons.1 h2
   exact ⟨h1 x List.mem_cons_self, h3 x List.mem_cons_self, fun m hm => h1 m (List.mem_cons_of_mem _ hm), h4⟩
theorem mayL_iff : ∀ {l : List Mv}, mayL l = true ↔ (∀ m ∈ l, oneM m = true) ∧ Asc l
 | [] => by simp [mayL, resM]
 | x :: t => by
  have ih := resM_iff (t := t) (q := x)
  unfold mayL resM
  simp only [Bool.and_eq_true, Bool.true_and]
  rw [ih]
  constructor
  ·rintro ⟨h1, h3, h4⟩
   refine ⟨fun m hm => ?_, h4⟩
   rcases List.mem_cons.1 hm with rfl | hm
   ·exact h1
   ·exact h3 m hm
  ·rintro ⟨h1, h4⟩
   exact ⟨h1 x List.mem_cons_self, fun m hm => h1 m (List.mem_cons_of_mem _ hm), h4⟩
/-- the one ahead of a place -/
def prvM (l : List Mv) : Nat → Option Mv
 | 0 => none
 | k + 1 => l[k]?
theorem resM_step {l : List Mv} {k : Nat} {x : Mv} (h : l[k]? = some x) : resM (prvM l k) (l.drop k) = (oneM x && ((match prvM l k with | none => true | some q => bm q x) && resM (prvM l (k + 1)) (l.drop (k + 1)))) := by
 have h1 := (List.getElem?_eq_some_iff.1 h).1
 have h2 := (List.getElem?_eq_some_iff.1 h).2
 show _ = (oneM x && (_ && resM l[k]? (l.drop (k + 1))))
 rw [List.drop_eq_getElem_cons h1, h2, h]
 rfl
theorem mayM_long {l : List Mv} (h : 2000 < l.length) : mayM l = false := by
 unfold mayM; rw [decide_eq_false (by omega), Bool.false_and]
theorem mayM_short {l : List Mv} (h : l.length ≤ 2000) : mayM l = resM (prvM l 0) (l.drop 0) := by
 unfold mayM; rw [decide_eq_true h, Bool.true_and]; rfl
theorem mayM_iff {l : List Mv} : mayM l = true ↔ l.length ≤ 2000 ∧ (∀ m ∈ l, oneM m = true) ∧ Asc l := by
 unfold mayM
 rw [Bool.and_eq_true, mayL_iff, decide_eq_true_eq]
def befM (c r : Int) (m : Mv) : Bool := befT c r (mc m) (mr m)
def sinM (l : List Mv) (c r : Int) : List Mv := l.filter (befM c r)
theorem befM_up {c r : Int} {x y : Mv} (h : befM c r x = true) (h2 : MLt x y) : befM c r y = true := by
 simp [befM, befT] at h ⊢
 unfold MLt at h2
 omega
/-- those since a time are the last ones -/
theorem sinM_cut : ∀ {l : List Mv} (c r : Int), Asc l → ∃ k, k ≤ l.length ∧ sinM l c r = l.drop k ∧ (∀ y ∈ l.take k, befM c r y = false) ∧ (∀ y ∈ l.drop k, befM c r y = true)
 | [], c, r, _ => ⟨0, Nat.le_refl _, rfl, fun y hy => (by cases hy), fun y hy => (by cases hy)⟩
 | x :: t, c, r, h => by
  obtain ⟨h1, h2⟩ := List.pairwise_cons.1 h
  by_cases hx : befM c r x = true
  ·have hall : ∀ y ∈ x :: t, befM c r y = true := fun y hy => by
    rcases List.mem_cons.1 hy with rfl | hy
    ·exact hx
    ·exact befM_up hx (h1 y hy)
   refine ⟨0, Nat.zero_le _, ?_, fun y hy => (by simp at hy), fun y hy => hall y (by simpa using hy)⟩
   rw [List.drop_zero]
   exact List.filter_eq_self.2 hall
  ·obtain ⟨k, hk, e, hlo, hhi⟩ := sinM_cut c r h2
   have hxf : befM c r x = false := by simpa using hx
   refine ⟨k + 1, by rw [List.length_cons]; omega, ?_, fun y hy => ?_, fun y hy => ?_⟩
   ·show (x :: t).filter _ = _
    rw [List.filter_cons_of_neg hx]
    exact e
   ·rw [List.take_succ_cons] at hy
    rcases List.mem_cons.1 hy with rfl | hy
    ·exact hxf
    ·exact hlo y hy
   ·rw [List.drop_succ_cons] at hy
    exact hhi y hy
end Go.Proofs.YthhckdjagnlgpaaGreat
end
