/-
 Moves as cells; the place of the first move that fits (slices.IndexFunc).
 Contracts of package rank's Before and of the document's: times by their counters, and replicas.
 Moves by their times, plain: inserted, since a time, united; the order does not matter.
 Plain mathematics of layer 21: a move's bytes, a file of the first version. No Go.
 Plain mathematics of layer 21: the moves of any bytes. No Go.
 slices.Grow, slices.Concat and append at moves.
 A move's row, whether it may be, and its place by its time: the program's, and the document's.
 Whether a move may be, whether moves may be: the program's, and the document's.
-/
import Derived.Test.YtojhenpaeedimaaGreatTl
import Derived.Test.YtojhenpaeedimaaGreatBe
import Derived.Test.YtojhenpaeedimaaGreatNb
import Derived.Test.YtojhenpaeedimaaGreatEe
import Derived.Test.YtojhenpaeedimaaGreatMg
import Derived.Laws.StructEq
section
namespace Go.Proofs.YtojhenpaeedimaaGreat
open Go.RowKit Go.IntWalk
set_option maxRecDepth 100000
attribute [local go_sem] Oper.semAt_some
/-- a move: its time's counter, and replica, and where it lays its node -/
abbrev Mv := Int × Int × Rw
abbrev mc (m : Mv) : Int := m.1
abbrev mr (m : Mv) : Int := m.2.1
abbrev mw (m : Mv) : Rw := m.2.2
def mcs (m : Mv) : List Value := [.int .i64 (mc m), .int .i64 (mr m), .int .i64 (pa (mw m)), .int .i64 (ch (mw m)), .string (ba (nm (mw m))), .float .f64 (rk (mw m))]
def mv (m : Mv) : Value := .agg #[.int .i64 (mc m), .int .i64 (mr m), .int .i64 (pa (mw m)), .int .i64 (ch (mw m)), .string (ba (nm (mw m))), .float .f64 (rk (mw m))]
/-- the cells of a list of moves -/
def mvs (l : List Mv) : List Value := l.flatMap mcs
/-- such moves as a program may have -/
def Moves_ (l : List Mv) : Prop := ∀ m ∈ l, rk (mw m) < 18446744073709551616 ∧ (nm (mw m)).length ≤ maxLen
theorem mvs_len (l : List Mv) : (mvs l).length = l.length * 6 := by
 induction l with
 | nil => rfl
 | cons x l ih =>
  have h : mvs (x :: l) = mcs x ++ mvs l := rfl
  rw [h, List.length_append, List.length_cons, ih, show (mcs x).length = 6 from rfl]
  omega
theorem mvs_append (a b : List Mv) : mvs (a ++ b) = mvs a ++ mvs b := by simp [mvs]
theorem mvs_one (l : List Mv) : ∀ u ∈ mvs l, u.oneCell' = true := by
 intro u hu
 simp only [mvs, List.mem_flatMap, mcs] at hu
 obtain ⟨x, _, hx⟩ := hu
 simp only [List.mem_cons, List.not_mem_nil, or_false] at hx
 rcases hx with rfl | rfl | rfl | rfl | rfl | rfl <;> rfl
theorem mvs_drop (l : List Mv) : ∀ j, mvs (l.drop j) = (mvs l).drop (j * 6) := by
 induction l with
 | nil => intro j; simp [mvs]
 | cons c l ih =>
  intro j
  cases j with
  | zero => simp [mvs]
  | succ j =>
   rw [List.drop_succ_cons, ih, show mvs (c :: l) = mcs c ++ mvs l from rfl, List.drop_append, List.drop_of_length_le (l := mcs c) (by show 6 ≤ (j + 1) * 6; omega), show (j + 1) * 6 - (mcs c).length = j * 6 from by show (j + 1) * 6 - 6 = _; omega, List.nil_append]
theorem mvs_at {l : List Mv} {k : Nat} {x : Mv} (h : l[k]? = some x) : (mvs l)[k * 6]? = some (.int .i64 (mc x)) ∧ (mvs l)[k * 6 + 1]? = some (.int .i64 (mr x)) ∧ (mvs l)[k * 6 + 2]? = some (.int .i64 (pa (mw x))) ∧ (mvs l)[k * 6 + 3]? = some (.int .i64 (ch (mw x))) ∧ (mvs l)[k * 6 + 4]? = some (.string (ba (nm (mw x)))) ∧ (mvs l)[k * 6 + 5]? = some (.float .f64 (rk (mw x))) := by
 have hd : mvs (l.drop k) = mcs x ++ mvs (l.drop (k + 1)) := by
  have hk := (List.getElem?_eq_some_iff.1 h).1
  have hc := (List.getElem?_eq_some_iff.1 h).2
  rw [List.drop_eq_getElem_cons hk, hc]; rfl
 rw [mvs_drop] at hd
 have g : ∀ i, (mvs l)[k * 6 + i]? = (mcs x ++ mvs (l.drop (k + 1)))[i]? := fun i => by rw [← hd, List.getElem?_drop]
 exact ⟨by have := g 0; simpa [mcs] using this, by have := g 1; simpa [mcs] using this, by have := g 2; simpa [mcs] using this, by have := g 3; simpa [mcs] using this, by have := g 4; simpa [mcs] using this, by have := g 5; simpa [mcs] using this⟩
theorem move_cells {w : World} {B k : Nat} {A : Option Addr} {l : List Mv} {x : Mv} (h : At w B A (mvs l)) (hk : l[k]? = some x) :
  ∃ b off, A = some ⟨b, off, none⟩ ∧ b < B ∧ w.cell? ⟨b, off + k * 6, none⟩ = some (.int .i64 (mc x)) ∧ w.cell? ⟨b, off + k * 6 + 1, none⟩ = some (.int .i64 (mr x)) ∧ w.cell? ⟨b, off + k * 6 + 2, none⟩ = some (.int .i64 (pa (mw x))) ∧ w.cell? ⟨b, off + k * 6 + 3, none⟩ = some (.int .i64 (ch (mw x))) ∧ w.cell? ⟨b, off + k * 6 + 4, none⟩ = some (.string (ba (nm (mw x)))) ∧ w.cell? ⟨b, off + k * 6 + 5, none⟩ = some (.float .f64 (rk (mw x))) := by
 obtain ⟨h1, h2, h3, h4, h5, h6⟩ := mvs_at hk
 obtain ⟨b, off, hA, hlt, hc⟩ := h _ _ h1
 obtain ⟨b', off', hA', _, hc1⟩ := h _ _ h2
 rw [hA] at hA'
 cases hA'
 obtain ⟨b', off', hA', _, hc2⟩ := h _ _ h3
 rw [hA] at hA'
 cases hA'
 obtain ⟨b', off', hA', _, hc3⟩ := h _ _ h4
 rw [hA] at hA'
 cases hA'
 obtain ⟨b', off', hA', _, hc4⟩ := h _ _ h5
 rw [hA] at hA'
 cases hA'
 obtain ⟨b', off', hA', _, hc5⟩ := h _ _ h6
 rw [hA] at hA'
 cases hA'
 exact ⟨b, off, hA, hlt, hc, hc1, hc2, hc3, hc4, hc5⟩
theorem Tryz.info51 : (Tryz.prog.info? 51).map (fun i => (i.zero, i.size, i.bytes)) = some (some (.agg #[.int .i64 0, .int .i64 0, .int .i64 0, .int .i64 0, .string ByteArray.empty, .float .f64 0]), 6, 56) := by kernel_rfl
end Go.Proofs.YtojhenpaeedimaaGreat
end
section
namespace Go.Proofs.YtojhenpaeedimaaGreat
open Go.RowKit
open Fl
set_option maxRecDepth 100000
theorem bef1_c (Ba Bb : Nat) (x y : Int) (w : World) (h1 : w.cell? ⟨Ba, 0, none⟩ = some (.int .i64 x)) (h2 : w.cell? ⟨Bb, 0, none⟩ = some (.int .i64 y)) :
  Calls Tryz.prog 158 #[.pointer (some ⟨Ba, 0, none⟩), .pointer (some ⟨Bb, 0, none⟩)] w fun e w' => e = .returned (.int .i64 (ci x y)) ∧ w = w' := by
 go_enter Tryz.func158, Tryz.ntmps158
 go_wp2_with fail
 refine (cmpInt_c x y _).mono ?_
 rintro e w1 ⟨rfl, rfl⟩
 go_wp2
 go_ret
 exact ⟨rfl, rfl⟩
theorem bef2_c (Ba Bb : Nat) (x y : Int) (w : World) (h1 : w.cell? ⟨Ba, 1, none⟩ = some (.int .i64 x)) (h2 : w.cell? ⟨Bb, 1, none⟩ = some (.int .i64 y)) :
  Calls Tryz.prog 160 #[.pointer (some ⟨Ba, 0, none⟩), .pointer (some ⟨Bb, 0, none⟩)] w fun e w' => e = .returned (.int .i64 (ci x y)) ∧ w = w' := by
 go_enter Tryz.func160, Tryz.ntmps160
 go_wp2_with fail
 refine (cmpInt_c x y _).mono ?_
 rintro e w1 ⟨rfl, rfl⟩
 go_wp2
 go_ret
 exact ⟨rfl, rfl⟩
set_option maxHeartbeats 1000000 in
theorem firstB_c (p q : Value) (B : Nat) (v1 v2 : Int) (w : World)
  (hc1 : w.cell? ⟨B, 0, none⟩ = some (.func (.func 158) #[] #[p, q])) (hc2 : w.cell? ⟨B, 1, none⟩ = some (.func (.func 160) #[] #[p, q])) (hB : B < w.heap.size)
  (H1 : Hid (∀ wx, Below w.heap.size w wx → Calls Tryz.prog 158 #[p, q] wx fun e w' => e = .returned (.int .i64 v1) ∧ Below w.heap.size w w'))
  (H2 : Hid (∀ wx, Below w.heap.size w wx → Calls Tryz.prog 160 #[p, q] wx fun e w' => e = .returned (.int .i64 v2) ∧ Below w.heap.size w w')) :
  Calls Tryz.prog 157 #[.slice (some ⟨B, 0, none⟩) 2 2] w fun e w' => e = .returned (.int .i64 (fr v1 v2)) ∧ Below w.heap.size w w' := by
 by_cases h0 : v1 = 0
 ·subst h0
  have hfr : fr 0 v2 = v2 := by simp [fr]
  rw [hfr]
  clear hfr
  by_cases h2 : v2 = 0
  ·subst h2
   go_enter Tryz.func157, Tryz.ntmps157
   go_wp2_with fail
   refine wp_loop_rounds 3 ?_
   rw [rounds_succ]
   go_wp2_with fail
   refine (H1.out _ (Below.refl _ _)).mono ?_
   rintro e w1 ⟨rfl, hb1⟩
   have hc2' := (hb1.cell (p := ⟨B, 1, none⟩) hB).trans hc2
   go_wp2_with fail
   rw [rounds_succ]
   go_wp2_with fail
   refine (H2.out _ hb1).mono ?_
   rintro e w2 ⟨rfl, hb2⟩
   clear hc2'
   go_wp2
   rw [rounds_succ]
   go_wp2
   go_ret
   exact ⟨rfl, hb2⟩
  ·have h3 : (v2 != 0) = true := by rw [bne_iff_ne]; exact h2
   go_enter Tryz.func157, Tryz.ntmps157
   go_wp2_with fail
   refine wp_loop_rounds 2 ?_
   rw [rounds_succ]
   go_wp2_with fail
   refine (H1.out _ (Below.refl _ _)).mono ?_
   rintro e w1 ⟨rfl, hb1⟩
   have hc2' := (hb1.cell (p := ⟨B, 1, none⟩) hB).trans hc2
   go_wp2_with fail
   rw [rounds_succ]
   go_wp2_with fail
   refine (H2.out _ hb1).mono ?_
   rintro e w2 ⟨rfl, hb2⟩
   clear hc2'
   go_wp2
   go_ret
   exact ⟨rfl, hb2⟩
 ·have hfr : fr v1 v2 = v1 := by simp [fr, h0]
  rw [hfr]
  clear hfr
  have h3 : (v1 != 0) = true := by rw [bne_iff_ne]; exact h0
  go_enter Tryz.func157, Tryz.ntmps157
  go_wp2_with fail
  refine wp_loop_rounds 1 ?_
  rw [rounds_succ]
  go_wp2_with fail
  refine (H1.out _ (Below.refl _ _)).mono ?_
  rintro e w1 ⟨rfl, hb1⟩
  go_wp2
  go_ret
  exact ⟨rfl, hb1⟩
theorem before_c (c1 r1 c2 r2 : Int) (w : World) :
  Calls Tryz.prog 93 #[.agg #[.int .i64 c1, .int .i64 r1], .agg #[.int .i64 c2, .int .i64 r2]] w fun e w' => e = .returned (.bool (decide (fr (ci c1 c2) (ci r1 r2) < 0))) ∧ Below w.heap.size w w' := by
 have hF := three_facts w #[.int .i64 c1, .int .i64 r1] #[.int .i64 c2, .int .i64 r2]
  #[.func (.func 158) #[] #[.pointer (some ⟨w.heap.size, 0, none⟩), .pointer (some ⟨w.heap.size + 1, 0, none⟩)], .func (.func 160) #[] #[.pointer (some ⟨w.heap.size, 0, none⟩), .pointer (some ⟨w.heap.size + 1, 0, none⟩)]] 48 77
 have HF := Lib.hid hF
 clear hF
 go_enter Tryz.func93, Tryz.ntmps93
 go_wp2_with fail
 obtain ⟨f1, f2, f3, f4, f5⟩ := HF.out
 refine (firstB_c (.pointer (some ⟨w.heap.size, 0, none⟩)) (.pointer (some ⟨w.heap.size + 1, 0, none⟩)) (w.heap.size + 1 + 1) (ci c1 c2) (ci r1 r2)
  (three w #[.int .i64 c1, .int .i64 r1] #[.int .i64 c2, .int .i64 r2]
   #[.func (.func 158) #[] #[.pointer (some ⟨w.heap.size, 0, none⟩), .pointer (some ⟨w.heap.size + 1, 0, none⟩)], .func (.func 160) #[] #[.pointer (some ⟨w.heap.size, 0, none⟩), .pointer (some ⟨w.heap.size + 1, 0, none⟩)]] 48 77)
  (f3 0) (f3 1) f4 ?_ ?_).mono ?_
 ·intro wx hb
  refine (bef1_c w.heap.size (w.heap.size + 1) c1 c2 wx ((hb.cell (p := ⟨w.heap.size, 0, none⟩) (Nat.lt_of_succ_lt (Nat.lt_of_succ_lt f4))).trans (f1 0)) ((hb.cell (p := ⟨w.heap.size + 1, 0, none⟩) (Nat.lt_of_succ_lt f4)).trans (f2 0))).mono ?_
  rintro e w' ⟨rfl, rfl⟩
  exact ⟨rfl, hb⟩
 ·intro wx hb
  refine (bef2_c w.heap.size (w.heap.size + 1) r1 r2 wx ((hb.cell (p := ⟨w.heap.size, 1, none⟩) (Nat.lt_of_succ_lt (Nat.lt_of_succ_lt f4))).trans (f1 1)) ((hb.cell (p := ⟨w.heap.size + 1, 1, none⟩) (Nat.lt_of_succ_lt f4)).trans (f2 1))).mono ?_
  rintro e w' ⟨rfl, rfl⟩
  exact ⟨rfl, hb⟩
 ·rintro e w' ⟨rfl, hb⟩
  clear f1 f2 f3
  go_wp2
  go_ret
  exact ⟨rfl, f5.trans (hb.mono f5.size)⟩
theorem rBefore_c (c1 r1 c2 r2 : Int) (w : World) :
  Calls Tryz.prog 84 #[.agg #[.int .i64 c1, .int .i64 r1], .agg #[.int .i64 c2, .int .i64 r2]] w fun e w' => e = .returned (.bool (decide (fr (ci c1 c2) (ci r1 r2) < 0))) ∧ Below w.heap.size w w' := by
 rcases Int.lt_trichotomy c1 c2 with h | h | h
 ·have hv : decide (fr (ci c1 c2) (ci r1 r2) < 0) = true := by rw [ci_lt h]; rfl
  rw [hv]
  clear hv
  go_enter Tryz.func84, Tryz.ntmps84
  go_wp2
  go_ret
  exact ⟨rfl, by go_grown⟩
 ·subst h
  have hv : decide (fr (ci c1 c1) (ci r1 r2) < 0) = decide (r1 < r2) := by rw [ci_eq, fr_zero, ci_neg]
  rw [hv]
  clear hv
  go_enter Tryz.func84, Tryz.ntmps84
  go_wp2
  go_ret
  exact ⟨rfl, by go_grown⟩
 ·have hv : decide (fr (ci c1 c2) (ci r1 r2) < 0) = false := by rw [ci_gt h]; rfl
  rw [hv]
  clear hv
  have h1 : ¬ c1 < c2 := by omega
  have h2 : (c1 == c2) = false := by rw [beq_eq_false_iff_ne]; omega
  go_enter Tryz.func84, Tryz.ntmps84
  go_wp2
  go_ret
  exact ⟨rfl, by go_grown⟩
/-- is the one time ahead of the other -/
def befT (c1 r1 c2 r2 : Int) : Bool := decide (c1 < c2) || (decide (c1 = c2) && decide (r1 < r2))
theorem bef_eq (c1 r1 c2 r2 : Int) : decide (fr (ci c1 c2) (ci r1 r2) < 0) = befT c1 r1 c2 r2 := by
 unfold befT
 rcases Int.lt_trichotomy c1 c2 with h | h | h
 ·rw [ci_lt h, decide_eq_true (show c1 < c2 from h)]; rfl
 ·subst h; rw [ci_eq, fr_zero, ci_neg]; simp
 ·rw [ci_gt h, decide_eq_false (show ¬ c1 < c2 by omega), decide_eq_false (show ¬ c1 = c2 by omega)]; rfl
theorem bef_c (c1 r1 c2 r2 : Int) (w : World) :
  Calls Tryz.prog 93 #[.agg #[.int .i64 c1, .int .i64 r1], .agg #[.int .i64 c2, .int .i64 r2]] w fun e w' => e = .returned (.bool (befT c1 r1 c2 r2)) ∧ Below w.heap.size w w' := by
 rw [← bef_eq]; exact before_c c1 r1 c2 r2 w
theorem rbef_c (c1 r1 c2 r2 : Int) (w : World) :
  Calls Tryz.prog 84 #[.agg #[.int .i64 c1, .int .i64 r1], .agg #[.int .i64 c2, .int .i64 r2]] w fun e w' => e = .returned (.bool (befT c1 r1 c2 r2)) ∧ Below w.heap.size w w' := by
 rw [← bef_eq]; exact rBefore_c c1 r1 c2 r2 w
end Go.Proofs.YtojhenpaeedimaaGreat
end
section
namespace Go.Proofs.YtojhenpaeedimaaGreat
open Go.RowKit
open Fl
set_option maxRecDepth 100000
def timeEq (a b : Mv) : Bool := decide (mc a = mc b) && decide (mr a = mr b)
def bm (a b : Mv) : Bool := befT (mc a) (mr a) (mc b) (mr b)
def alikeM (a b : Mv) : Bool := timeEq a b && alikeP (mw a) (mw b)
def MLt (a b : Mv) : Prop := mc a < mc b ∨ (mc a = mc b ∧ mr a < mr b)
theorem timeEq_iff {a b : Mv} : timeEq a b = true ↔ mc a = mc b ∧ mr a = mr b := by simp [timeEq]
theorem bm_iff {a b : Mv} : bm a b = true ↔ MLt a b := by simp [bm, befT, MLt]
theorem MLt.trans {a b c : Mv} (h : MLt a b) (h2 : MLt b c) : MLt a c := by unfold MLt at *; omega
theorem alikeP_symm {a b : Rw} (h : alikeP a b = true) : alikeP b a = true := by
 simp only [alikeP, Bool.and_eq_true, decide_eq_true_eq, beq_iff_eq] at h ⊢
 exact ⟨h.1.symm, h.2.1.symm, h.2.2.1.symm, h.2.2.2.symm⟩
theorem alikeP_trans {a b c : Rw} (h : alikeP a b = true) (h2 : alikeP b c = true) : alikeP a c = true := by
 simp only [alikeP, Bool.and_eq_true, decide_eq_true_eq, beq_iff_eq] at h h2 ⊢
 exact ⟨h.1.trans h2.1, h.2.1.trans h2.2.1, h.2.2.1.trans h2.2.2.1, h.2.2.2.trans h2.2.2.2⟩
theorem alikeM_symm {a b : Mv} (h : alikeM a b = true) : alikeM b a = true := by
 unfold alikeM at *
 rw [Bool.and_eq_true, timeEq_iff] at *
 exact ⟨⟨h.1.1.symm, h.1.2.symm⟩, alikeP_symm h.2⟩
theorem alikeM_trans {a b c : Mv} (h : alikeM a b = true) (h2 : alikeM b c = true) : alikeM a c = true := by
 unfold alikeM at *
 rw [Bool.and_eq_true, timeEq_iff] at *
 exact ⟨⟨h.1.1.trans h2.1.1, h.1.2.trans h2.1.2⟩, alikeP_trans h.2 h2.2⟩
/-- moves, one behind the other, of which no two are of one time, by their times -/
abbrev Asc (l : List Mv) : Prop := l.Pairwise MLt
def sameM : List Mv → List Mv → Bool
 | [], [] => true
 | a :: l, b :: m => alikeM a b && sameM l m
 | _, _ => false
theorem sameM_len : ∀ {l m : List Mv}, l.length ≠ m.length → sameM l m = false
 | [], [], h => by simp at h
 | [], _ :: _, _ => rfl
 | _ :: _, [], _ => rfl
 | a :: l, b :: m, h => by rw [sameM, sameM_len (l := l) (m := m) (by simpa using h), Bool.and_false]
theorem sameM_step {l m : List Mv} {k : Nat} {a b : Mv} (ha : l[k]? = some a) (hb : m[k]? = some b) : sameM (l.drop k) (m.drop k) = (alikeM a b && sameM (l.drop (k + 1)) (m.drop (k + 1))) := by
 have h1 := (List.getElem?_eq_some_iff.1 ha).1
 have h2 := (List.getElem?_eq_some_iff.1 ha).2
 have h3 := (List.getElem?_eq_some_iff.1 hb).1
 have h4 := (List.getElem?_eq_some_iff.1 hb).2
 rw [List.drop_eq_getElem_cons h1, List.drop_eq_getElem_cons h3, h2, h4, sameM]
def oneM (m : Mv) : Bool := decide (1 ≤ mc m) && (decide (mc m ≤ 4611686018427387903) && (decide (1 ≤ mr m) && (decide (mr m ≤ 255) && oneP (mw m))))
/-- whether all may be, and rise, behind the one ahead of them -/
def resM : Option Mv → List Mv → Bool
 | _, [] => true
 | p, x :: t => oneM x && ((match p with | none => true | some q => bm q x) && resM (some x) t)
def mayL (l : List Mv) : Bool := resM none l
def mayM (l : List Mv) : Bool := decide (l.length ≤ 2000) && mayL l
theorem resM_iff : ∀ {t : List Mv} {q : Mv}, resM (some q) t = true ↔ (∀ m ∈ t, oneM m = true) ∧ Asc (q :: t)
 | [], q => by simp [resM]
 | x :: t, q => by
  have ih := resM_iff (t := t) (q := x)
  unfold resM
  simp only [Bool.and_eq_true]
  rw [ih, bm_iff]
  constructor
  ·rintro ⟨h1, h2, h3, h4⟩
   refine ⟨fun m hm => ?_, List.pairwise_cons.2 ⟨fun y hy => ?_, h4⟩⟩
   ·rcases List.mem_cons.1 hm with rfl | hm
    ·exact h1
    ·exact h3 m hm
   ·rcases List.mem_cons.1 hy with rfl | hy
    ·exact h2
    ·exact h2.trans ((List.pairwise_cons.1 h4).1 y hy)
  ·rintro ⟨h1, h2⟩
   obtain ⟨h3, h4⟩ := List.pairwise_cons.1 h2
   exact ⟨h1 x List.mem_cons_self, h3 x List.mem_cons_self, fun m hm => h1 m (List.mem_cons_of_mem _ hm), h4⟩
/-- the one ahead of a place -/
def prvM (l : List Mv) : Nat → Option Mv
 | 0 => none
 | k + 1 => l[k]?
theorem resM_step {l : List Mv} {k : Nat} {x : Mv} (h : l[k]? = some x) : resM (prvM l k) (l.drop k) = (oneM x && ((match prvM l k with | none => true | some q => bm q x) && resM (prvM l (k + 1)) (l.drop (k + 1)))) := by
 have h1 := (List.getElem?_eq_some_iff.1 h).1
 have h2 := (List.getElem?_eq_some_iff.1 h).2
 show _ = (oneM x && (_ && resM l[k]? (l.drop (k + 1))))
 rw [List.drop_eq_getElem_cons h1, h2, h]
 rfl
theorem mayM_long {l : List Mv} (h : 2000 < l.length) : mayM l = false := by
 unfold mayM; rw [decide_eq_false (by omega), Bool.false_and]
theorem mayM_short {l : List Mv} (h : l.length ≤ 2000) : mayM l = resM (prvM l 0) (l.drop 0) := by
 unfold mayM; rw [decide_eq_true h, Bool.true_and]; rfl
end Go.Proofs.YtojhenpaeedimaaGreat
end
section
namespace Go.Proofs.YtojhenpaeedimaaGreat.Rf
open Pk Fl
set_option maxRecDepth 100000
/-- a whole number's 64 bits, and back -/
def u64 (n : Int) : Nat := (n % 18446744073709551616).toNat
def i64 (n : Nat) : Int := if n < 9223372036854775808 then (n : Int) else (n : Int) - 18446744073709551616
theorem u64_lt (n : Int) : u64 n < 18446744073709551616 := by unfold u64; omega
theorem u64_pos {n : Int} (h : 0 ≤ n) (h2 : n < 18446744073709551616) : (u64 n : Int) = n := by unfold u64; omega
theorem i64_u64 {n : Int} (h : 0 ≤ n) (h2 : n < 9223372036854775808) : i64 (u64 n) = n := by
 unfold i64
 have := u64_pos h (by omega)
 rw [if_pos (by omega)]; omega
theorem u64_i64 {n : Nat} (h : n < 18446744073709551616) : u64 (i64 n) = n := by
 unfold u64 i64
 split <;> omega
/-- a move's bytes -/
def oneB (m : Mv) : List UInt8 := put (u64 (mc m)) ++ (put (u64 (mr m)) ++ (put (u64 (pa (mw m))) ++ (put (u64 (ch (mw m))) ++ (put (nm (mw m)).length ++ nm (mw m) ++ fixed 8 (cb (rk (mw m)))))))
def startB : List UInt8 := [66, 78, 83, 73, 1]
/-- a file's bytes -/
def encB (l : List Mv) : List UInt8 := startB ++ (put l.length ++ l.flatMap oneB)
def encT (l : List Mv) : List UInt8 := if mayM l then encB l else []
def encE (l : List Mv) : Int := if mayM l then 0 else 1
theorem oneB_eq (m : Mv) : oneB m = put (u64 (mc m)) ++ put (u64 (mr m)) ++ put (u64 (pa (mw m))) ++ put (u64 (ch (mw m))) ++ (put (nm (mw m)).length ++ nm (mw m)) ++ fixed 8 (cb (rk (mw m))) := by
 unfold oneB; simp
end Go.Proofs.YtojhenpaeedimaaGreat.Rf
end
section
namespace Go.Proofs.YtojhenpaeedimaaGreat.Rf
open Pk Ck Fl
set_option maxRecDepth 100000
def zM : Mv := (0, 0, 0, 0, [], 0)
/-- a move is read: f is the file -/
def rdM (f : List UInt8) (s : St) : Mv × Int × St :=
 let s1 := numS s
 let s2 := numS s1
 let s3 := numS s2
 let s4 := numS s3
 if s4.e ≠ 0 then (zM, s4.e, s4) else
 let t := tk f ((f.length : Int) - (s4.l.length : Int)) 64
 if t.2.2 ≠ 0 then (zM, t.2.2, s4) else
 let s5 := takeS (t.2.1 - ((f.length : Int) - (s4.l.length : Int))) s4
 let s6 := fixS s5
 if s6.e ≠ 0 then (zM, s6.e, s6) else
 let m : Mv := (i64 (numV s), i64 (numV s1), i64 (numV s3), i64 (numV s2), t.1, fl (fixV s5))
 if cn (fixV s5) && oneM m then (m, 0, s6) else (zM, 5, s6)
/-- n moves are read, each behind the one ahead (c, r) -/
def rdL (f : List UInt8) : Nat → Int → Int → St → List Mv × Int × St
 | 0, _, _, s => ([], 0, s)
 | n + 1, c, r, s =>
  if (rdM f s).2.1 ≠ 0 then ([], (rdM f s).2.1, s)
  else if c < mc (rdM f s).1 ∨ c = mc (rdM f s).1 ∧ r < mr (rdM f s).1 then
   if (rdL f n (mc (rdM f s).1) (mr (rdM f s).1) (rdM f s).2.2).2.1 ≠ 0 then ([], (rdL f n (mc (rdM f s).1) (mr (rdM f s).1) (rdM f s).2.2).2.1, s)
   else ((rdM f s).1 :: (rdL f n (mc (rdM f s).1) (mr (rdM f s).1) (rdM f s).2.2).1, 0, (rdL f n (mc (rdM f s).1) (mr (rdM f s).1) (rdM f s).2.2).2.2)
  else ([], 12, s)
/-- the moves of a file's bytes, and its error -/
def decR (f : List UInt8) : List Mv × Int :=
 if verE f ≠ 0 then ([], verE f)
 else if verV f ≠ 1 then ([], 8)
 else
  let s : St := ⟨f.drop 5, 0⟩
  if (numS s).e ≠ 0 then ([], (numS s).e)
  else if 2000 < numV s then ([], 10)
  else
   let r := rdL f (numV s) 0 0 (numS s)
   if r.2.1 ≠ 0 then ([], r.2.1)
   else if doneV r.2.2 ≠ 0 then ([], doneV r.2.2)
   else (r.1, 0)
end Go.Proofs.YtojhenpaeedimaaGreat.Rf
end
section
namespace Go.Proofs.YtojhenpaeedimaaGreat
open Go.RowKit Go.IntWalk
set_option maxRecDepth 100000
attribute [local go_sem] Oper.semAt_some
/-- append of rows that came in, or of none -/
theorem append_optM (w : World) {ops : Array Oper} {rest : List Oper} {o : Oper} {a : Act} {Q : Exit → Act → World → Prop}
  (hg : o.guard = none) (s x : Operand) (hop : o.op = Op.call { callee := Callee.builtin Builtin.append, args := #[s, x], argTypes := #[22, 22] })
  (base : Nat) (v : Value) (k : Nat) (us : List Mv) (hs : a.eval s = v) (hown : w.ownsRow base 51 6 v k (mvs us)) (A : Option Addr) (c : Nat) (vs : List Mv) (hx : a.eval x = .slice A vs.length c) (hn : A = none → c = 0) (hvl : vs.length ≤ c)
  (B : Nat) (hc : At w B A (mvs vs)) (hlen : k + vs.length ≤ 200000) (b3 : base ≤ w.heap.size)
  (hK : ∀ v' w', w'.ownsRow base 51 6 v' (k + vs.length) (mvs (us ++ vs)) → w.grownBy w' v.ownBlock → wpList Tryz.prog ops Q rest (a.put o.dst v') w') :
  wpList Tryz.prog ops Q (o :: rest) a w := by
 obtain ⟨i0, hi, hz0, hz1, hz2⟩ := info_parts Tryz.info51
 rcases A with _ | ⟨b, off, spot⟩
 ·obtain rfl : c = 0 := hn rfl
  obtain rfl : vs = [] := List.eq_nil_of_length_eq_zero (by omega)
  exact wpList_append_own_none hg s x _ hop base _ i0 6 Tryz.underlying22 hi v k (mvs us) hs hown hx (hK v w (by simpa using hown) (World.grownBy.refl w _))
 ·by_cases hv : vs = []
  ·subst hv
   refine wpList_append_own w hg s x _ hop base _ i0 _ 6 56 Tryz.underlying22 hi hz0 hz1 hz2 rfl (by decide) v k (mvs us) hs hown ⟨b, off, spot⟩ 0 c [] hx rfl (fun j u hu => by simp at hu) (fun u hu => by simp at hu) (by unfold maxLen; simp at hlen; omega) (by simp at hlen; omega) b3 ?_
   intro v' w' h1 h2 _
   exact hK v' w' (by simpa using h1) h2
  ·obtain ⟨y, ys, rfl⟩ : ∃ y ys, vs = y :: ys := by cases vs with | nil => exact absurd rfl hv | cons y ys => exact ⟨y, ys, rfl⟩
   obtain ⟨b', off', e, _, _⟩ := hc 0 _ rfl
   cases e
   refine wpList_append_own w hg s x _ hop base _ i0 _ 6 56 Tryz.underlying22 hi hz0 hz1 hz2 rfl (by decide) v k (mvs us) hs hown ⟨b, off, none⟩ (y :: ys).length c (mvs (y :: ys)) hx (mvs_len _) (at_news hc) (mvs_one _) (by unfold maxLen; omega) (by omega) b3 ?_
   intro v' w' h1 h2 _
   exact hK v' w' (by rw [mvs_append]; exact h1) h2
end Go.Proofs.YtojhenpaeedimaaGreat
end
section
namespace Go.Proofs.YtojhenpaeedimaaGreat
open Go.RowKit Go.IntWalk
open Wd Fl
set_option maxRecDepth 100000
attribute [local go_sem] Oper.semAt_some
attribute [-go_sem] run_eql_struct
theorem mrow_c (m : Mv) (w : World) :
  Calls Tryz.prog 156 #[mv m] w fun e w' => e = .returned (rv (mw m)) ∧ Below w.heap.size w w' := by
 obtain ⟨c, r, k, p, n, f⟩ := m
 show Calls Tryz.prog 156 #[.agg #[.int .i64 c, .int .i64 r, .int .i64 p, .int .i64 k, .string (ba n), .float .f64 f]] w fun e w' => e = .returned (.agg #[.int .i64 k, .int .i64 p, .string (ba n), .float .f64 f]) ∧ _
 go_enter Tryz.func156, Tryz.ntmps156
 go_wp2
 refine bodyPost_ret (v := .agg #[.int .i64 k, .int .i64 p, .string (ba n), .float .f64 f]) (by simp [results, Tryz.f156, go_sem]) rfl ?_
 exact ⟨rfl, by go_grown⟩
theorem rmrow_c (m : Mv) (w : World) :
  Calls Tryz.prog 138 #[mv m] w fun e w' => e = .returned (rv (mw m)) ∧ Below w.heap.size w w' := by
 obtain ⟨c, r, k, p, n, f⟩ := m
 show Calls Tryz.prog 138 #[.agg #[.int .i64 c, .int .i64 r, .int .i64 p, .int .i64 k, .string (ba n), .float .f64 f]] w fun e w' => e = .returned (.agg #[.int .i64 k, .int .i64 p, .string (ba n), .float .f64 f]) ∧ _
 go_enter Tryz.func138, Tryz.ntmps138
 go_wp2
 refine bodyPost_ret (v := .agg #[.int .i64 k, .int .i64 p, .string (ba n), .float .f64 f]) (by simp [results, Tryz.f138, go_sem]) rfl ?_
 exact ⟨rfl, by go_grown⟩
theorem box6 {w : World} {G : Nat} {m : Mv} (h : Is w G 51 [.int .i64 (mc m), .int .i64 (mr m), .int .i64 (pa (mw m)), .int .i64 (ch (mw m)), .string (ba (nm (mw m))), .float .f64 (rk (mw m))]) :
  w.cell? ⟨G, 0, none⟩ = some (.int .i64 (mc m)) ∧ w.cell? ⟨G, 1, none⟩ = some (.int .i64 (mr m)) ∧ w.cell? ⟨G, 2, none⟩ = some (.int .i64 (pa (mw m))) ∧ w.cell? ⟨G, 3, none⟩ = some (.int .i64 (ch (mw m))) ∧ w.cell? ⟨G, 4, none⟩ = some (.string (ba (nm (mw m)))) ∧ w.cell? ⟨G, 5, none⟩ = some (.float .f64 (rk (mw m))) :=
 ⟨is_cell h 0, is_cell h 1, is_cell h 2, is_cell h 3, is_cell h 4, is_cell h 5⟩
end Go.Proofs.YtojhenpaeedimaaGreat
end
section
namespace Go.Proofs.YtojhenpaeedimaaGreat
open Go.RowKit Go.IntWalk
open Wd Fl
set_option maxRecDepth 100000
attribute [local go_sem] Oper.semAt_some
theorem mone_c (m : Mv) (hn : (nm (mw m)).length ≤ maxLen) (w : World) :
  Calls Tryz.prog 92 #[mv m] w fun e w' => e = .returned (.bool (oneM m)) ∧ Below w.heap.size w w' := by
 obtain ⟨c, r, k, p, n, f⟩ := m
 have hrow : ∀ W, Calls Tryz.prog 156 #[.agg #[.int .i64 c, .int .i64 r, .int .i64 p, .int .i64 k, .string (ba n), .float .f64 f]] W fun e w' => e = .returned (.agg #[.int .i64 k, .int .i64 p, .string (ba n), .float .f64 f]) ∧ Below W.heap.size W w' := fun W => mrow_c (c, r, k, p, n, f) W
 have hone : ∀ W, Calls Tryz.prog 155 #[.agg #[.int .i64 k, .int .i64 p, .string (ba n), .float .f64 f]] W fun e w' => e = .returned (.bool (oneP (k, p, n, f))) ∧ Below W.heap.size W w' := fun W => one_c (k, p, n, f) hn W
 show Calls Tryz.prog 92 #[.agg #[.int .i64 c, .int .i64 r, .int .i64 p, .int .i64 k, .string (ba n), .float .f64 f]] w fun e w' => e = .returned (.bool (decide (1 ≤ c) && (decide (c ≤ 4611686018427387903) && (decide (1 ≤ r) && (decide (r ≤ 255) && oneP (k, p, n, f)))))) ∧ _
 have hb := (Below.refl w.heap.size w).alloc (Nat.le_refl _) (.cells #[.int .i64 c, .int .i64 r, .int .i64 p, .int .i64 k, .string (ba n), .float .f64 f] 51)
 have HROW := Lib.hid hrow
 have HONE := Lib.hid hone
 clear hrow hone hn
 by_cases h1 : 1 ≤ c
 case neg =>
  have g1b : ¬ 0 < c := by omega
  rw [decide_eq_false h1, Bool.false_and]
  go_enter Tryz.func92, Tryz.ntmps92
  go_wp2_with fail
  go_ret
  exact ⟨rfl, hb⟩
 have q1 : 0 < c := by omega
 by_cases h2 : c ≤ 4611686018427387903
 case neg =>
  rw [decide_eq_true h1, Bool.true_and, decide_eq_false h2, Bool.false_and]
  go_enter Tryz.func92, Tryz.ntmps92
  go_wp2_with fail
  go_ret
  exact ⟨rfl, hb⟩
 by_cases h3 : 1 ≤ r
 case neg =>
  have g1b : ¬ 0 < r := by omega
  rw [decide_eq_true h1, Bool.true_and, decide_eq_true h2, Bool.true_and, decide_eq_false h3, Bool.false_and]
  go_enter Tryz.func92, Tryz.ntmps92
  go_wp2_with fail
  go_ret
  exact ⟨rfl, hb⟩
 have q3 : 0 < r := by omega
 by_cases h4 : r ≤ 255
 case neg =>
  rw [decide_eq_true h1, Bool.true_and, decide_eq_true h2, Bool.true_and, decide_eq_true h3, Bool.true_and, decide_eq_false h4, Bool.false_and]
  go_enter Tryz.func92, Tryz.ntmps92
  go_wp2_with fail
  go_ret
  exact ⟨rfl, hb⟩
 rw [decide_eq_true h1, Bool.true_and, decide_eq_true h2, Bool.true_and, decide_eq_true h3, Bool.true_and, decide_eq_true h4, Bool.true_and]
 go_enter Tryz.func92, Tryz.ntmps92
 go_wp2_with fail
 refine (HROW.out _).mono ?_
 rintro e w1 ⟨rfl, hb1⟩
 go_wp2_with fail
 refine (HONE.out _).mono ?_
 rintro e w2 ⟨rfl, hb2⟩
 go_wp2_with fail
 go_ret
 have hb3 := hb.trans (hb1.mono hb.size)
 exact ⟨rfl, hb3.trans (hb2.mono hb3.size)⟩
theorem rtime_c (c r : Int) (w : World) :
  Calls Tryz.prog 136 #[.agg #[.int .i64 c, .int .i64 r]] w fun e w' => e = .returned (.bool (decide (1 ≤ c) && (decide (c ≤ 4611686018427387903) && (decide (1 ≤ r) && decide (r ≤ 255))))) ∧ Below w.heap.size w w' := by
 have hb := (Below.refl w.heap.size w).alloc (Nat.le_refl _) (.cells #[.int .i64 c, .int .i64 r] 48)
 by_cases h1 : 1 ≤ c
 case neg =>
  rw [decide_eq_false h1, Bool.false_and]
  go_enter Tryz.func136, Tryz.ntmps136
  go_wp2_with fail
  go_ret
  exact ⟨rfl, hb⟩
 by_cases h2 : c ≤ 4611686018427387903
 case neg =>
  rw [decide_eq_true h1, Bool.true_and, decide_eq_false h2, Bool.false_and]
  go_enter Tryz.func136, Tryz.ntmps136
  go_wp2_with fail
  go_ret
  exact ⟨rfl, hb⟩
 by_cases h3 : 1 ≤ r
 case neg =>
  rw [decide_eq_true h1, Bool.true_and, decide_eq_true h2, Bool.true_and, decide_eq_false h3, Bool.false_and]
  go_enter Tryz.func136, Tryz.ntmps136
  go_wp2_with fail
  go_ret
  exact ⟨rfl, hb⟩
 by_cases h4 : r ≤ 255
 case neg =>
  rw [decide_eq_true h1, Bool.true_and, decide_eq_true h2, Bool.true_and, decide_eq_true h3, Bool.true_and, decide_eq_false h4]
  go_enter Tryz.func136, Tryz.ntmps136
  go_wp2_with fail
  go_ret
  exact ⟨rfl, hb⟩
 rw [decide_eq_true h1, Bool.true_and, decide_eq_true h2, Bool.true_and, decide_eq_true h3, Bool.true_and, decide_eq_true h4]
 go_enter Tryz.func136, Tryz.ntmps136
 go_wp2_with fail
 go_ret
 exact ⟨rfl, hb⟩
theorem rmone_c (m : Mv) (hn : (nm (mw m)).length ≤ maxLen) (w : World) :
  Calls Tryz.prog 75 #[mv m] w fun e w' => e = .returned (.bool (oneM m)) ∧ Below w.heap.size w w' := by
 obtain ⟨c, r, k, p, n, f⟩ := m
 have hrow : ∀ W, Calls Tryz.prog 138 #[.agg #[.int .i64 c, .int .i64 r, .int .i64 p, .int .i64 k, .string (ba n), .float .f64 f]] W fun e w' => e = .returned (.agg #[.int .i64 k, .int .i64 p, .string (ba n), .float .f64 f]) ∧ Below W.heap.size W w' := fun W => rmrow_c (c, r, k, p, n, f) W
 have hone : ∀ W, Calls Tryz.prog 137 #[.agg #[.int .i64 k, .int .i64 p, .string (ba n), .float .f64 f]] W fun e w' => e = .returned (.bool (oneP (k, p, n, f))) ∧ Below W.heap.size W w' := fun W => rone_c (k, p, n, f) hn W
 have htime := fun W => rtime_c c r W
 have hval : oneM (c, r, k, p, n, f) = ((decide (1 ≤ c) && (decide (c ≤ 4611686018427387903) && (decide (1 ≤ r) && decide (r ≤ 255)))) && oneP (k, p, n, f)) := by
  unfold oneM
  simp only [Bool.and_assoc]
 rw [hval]
 show Calls Tryz.prog 75 #[.agg #[.int .i64 c, .int .i64 r, .int .i64 p, .int .i64 k, .string (ba n), .float .f64 f]] w _
 have hb := (Below.refl w.heap.size w).alloc (Nat.le_refl _) (.cells #[.int .i64 c, .int .i64 r, .int .i64 p, .int .i64 k, .string (ba n), .float .f64 f] 51)
 obtain ⟨q, hq⟩ : ∃ q, (decide (1 ≤ c) && (decide (c ≤ 4611686018427387903) && (decide (1 ≤ r) && decide (r ≤ 255)))) = q := ⟨_, rfl⟩
 rw [hq] at htime ⊢
 have HROW := Lib.hid hrow
 have HONE := Lib.hid hone
 have HTIME := Lib.hid htime
 clear hrow hone hn htime hval hq
 cases q
 ·rw [Bool.false_and]
  go_enter Tryz.func75, Tryz.ntmps75
  go_wp2_with fail
  refine (HTIME.out _).mono ?_
  rintro e w1 ⟨rfl, hb1⟩
  go_wp2_with fail
  go_ret
  exact ⟨rfl, hb.trans (hb1.mono hb.size)⟩
 ·rw [Bool.true_and]
  have b0 := fun v (h : (w.alloc (.cells #[.int .i64 c, .int .i64 r, .int .i64 p, .int .i64 k, .string (ba n), .float .f64 f] 51)).cell? ⟨w.heap.size, 0, none⟩ = some v) => h
  have hI0 : Is (w.alloc (.cells #[.int .i64 c, .int .i64 r, .int .i64 p, .int .i64 k, .string (ba n), .float .f64 f] 51)) w.heap.size 51 [.int .i64 c, .int .i64 r, .int .i64 p, .int .i64 k, .string (ba n), .float .f64 f] := is_new w 51 [.int .i64 c, .int .i64 r, .int .i64 p, .int .i64 k, .string (ba n), .float .f64 f]
  have HI0 := Lib.hid hI0
  clear b0 hI0
  go_enter Tryz.func75, Tryz.ntmps75
  go_wp2_with fail
  refine (HTIME.out _).mono ?_
  rintro e w1 ⟨rfl, hb1⟩
  have hI := is_below HI0.out hb1 (is_lt HI0.out)
  have i0 := is_cell hI 0
  have i1 := is_cell hI 1
  have i2 := is_cell hI 2
  have i3 := is_cell hI 3
  have i4 := is_cell hI 4
  have i5 := is_cell hI 5
  go_wp2_with fail
  refine (HROW.out _).mono ?_
  rintro e w2 ⟨rfl, hb2⟩
  go_wp2_with fail
  refine (HONE.out _).mono ?_
  rintro e w3 ⟨rfl, hb3⟩
  go_wp2_with fail
  go_ret
  have hb4 := hb.trans (hb1.mono hb.size)
  have hb5 := hb4.trans (hb2.mono hb4.size)
  exact ⟨rfl, hb5.trans (hb3.mono hb5.size)⟩
end Go.Proofs.YtojhenpaeedimaaGreat
end
