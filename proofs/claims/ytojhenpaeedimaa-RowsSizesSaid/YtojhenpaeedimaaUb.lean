/-
 Lists of rows held against each other; few rows.
 slices.Grow, slices.Clone, slices.Concat at rows.
 A row that is dropped, and one that is set: the program's.
 A row that is set: the program's.
 A row that is dropped: the document's.
 Moves as cells; the place of the first move that fits (slices.IndexFunc).
 Contracts of package rank's Before and of the document's: times by their counters, and replicas.
-/
import Derived.Test.YtojhenpaeedimaaTc
import Derived.Lib.AppendZeros
import Derived.Lib.SliceRun
import Derived.Laws.AppendOwnNone
section
namespace Go.Proofs.Ytojhenpaeedimaa
open Go.RowKit Go.IntWalk
open Wd Fl
set_option maxRecDepth 100000
attribute [local go_sem] Oper.semAt_some
end Go.Proofs.Ytojhenpaeedimaa
end
section
namespace Go.Proofs.Ytojhenpaeedimaa
open Go.RowKit Go.IntWalk
set_option maxRecDepth 100000
attribute [local go_sem] Oper.semAt_some
theorem at_news {w : World} {B b o : Nat} {xs : List Value} (h : At w B (some ⟨b, o, none⟩) xs) : ∀ j u, xs[j]? = some u → w.cell? ((⟨b, o, none⟩ : Addr).add j) = some u := by
 intro j u hu
 obtain ⟨b', o', e, _, hc⟩ := h j u hu
 cases e
 rw [Go.WideShapes.add_plain]
 exact hc
theorem below_own {B : Nat} {w w1 w2 : World} {v : Value} {e : TypeId} {size n : Nat} {xs : List Value} (hb : Below B w w1) (hB : B ≤ w1.heap.size) (hown : w1.ownsRow B e size v n xs) (hg : w1.grownBy w2 v.ownBlock) : Below B w w2 :=
 hb.grown hg hB (fun k hk => (hown.lt k hk).1)
end Go.Proofs.Ytojhenpaeedimaa
end
section
namespace Go.Proofs.Ytojhenpaeedimaa
open Go.RowKit Go.IntWalk
set_option maxRecDepth 100000
attribute [local go_sem] Oper.semAt_some
theorem ownsRow_low {w : World} {B B2 : Nat} {e : TypeId} {size : Nat} {v : Value} {n : Nat} {xs : List Value} (h : w.ownsRow B e size v n xs) (hB : B2 ≤ B) : w.ownsRow B2 e size v n xs := by
 refine ⟨h.1, ?_⟩
 rcases h.2 with h | ⟨g, cap, cur, hv, hg, r⟩
 ·exact .inl h
 ·exact .inr ⟨g, cap, cur, hv, Nat.le_trans hB hg, r⟩
end Go.Proofs.Ytojhenpaeedimaa
end
section
namespace Go.Proofs.Ytojhenpaeedimaa
open Go.RowKit Go.IntWalk
set_option maxRecDepth 100000
attribute [local go_sem] Oper.semAt_some
end Go.Proofs.Ytojhenpaeedimaa
end
section
namespace Go.Proofs.Ytojhenpaeedimaa
open Go.RowKit Go.IntWalk
set_option maxRecDepth 100000
attribute [local go_sem] Oper.semAt_some
end Go.Proofs.Ytojhenpaeedimaa
end
section
namespace Go.Proofs.Ytojhenpaeedimaa
open Go.RowKit Go.IntWalk
set_option maxRecDepth 100000
attribute [local go_sem] Oper.semAt_some
/-- a move: its time's counter, and replica, and where it lays its node -/
abbrev Mv := Int × Int × Rw
abbrev mc (m : Mv) : Int := m.1
abbrev mr (m : Mv) : Int := m.2.1
abbrev mw (m : Mv) : Rw := m.2.2
def mcs (m : Mv) : List Value := [.int .i64 (mc m), .int .i64 (mr m), .int .i64 (pa (mw m)), .int .i64 (ch (mw m)), .string (ba (nm (mw m))), .float .f64 (rk (mw m))]
def mv (m : Mv) : Value := .agg #[.int .i64 (mc m), .int .i64 (mr m), .int .i64 (pa (mw m)), .int .i64 (ch (mw m)), .string (ba (nm (mw m))), .float .f64 (rk (mw m))]
/-- the cells of a list of moves -/
def mvs (l : List Mv) : List Value := l.flatMap mcs
/-- such moves as a program may have -/
def Moves_ (l : List Mv) : Prop := ∀ m ∈ l, rk (mw m) < 18446744073709551616 ∧ (nm (mw m)).length ≤ maxLen
theorem mvs_len (l : List Mv) : (mvs l).length = l.length * 6 := by
 induction l with
 | nil => rfl
 | cons x l ih =>
  have h : mvs (x :: l) = mcs x ++ mvs l := rfl
  rw [h, List.length_append, List.length_cons, ih, show (mcs x).length = 6 from rfl]
  omega
theorem mvs_append (a b : List Mv) : mvs (a ++ b) = mvs a ++ mvs b := by simp [mvs]
theorem mvs_one (l : List Mv) : ∀ u ∈ mvs l, u.oneCell' = true := by
 intro u hu
 simp only [mvs, List.mem_flatMap, mcs] at hu
 obtain ⟨x, _, hx⟩ := hu
 simp only [List.mem_cons, List.not_mem_nil, or_false] at hx
 rcases hx with rfl | rfl | rfl | rfl | rfl | rfl <;> rfl
theorem mvs_take (l : List Mv) : ∀ j, mvs (l.take j) = (mvs l).take (j * 6) := by
 induction l with
 | nil => intro j; simp [mvs]
 | cons c l ih =>
  intro j
  cases j with
  | zero => simp [mvs]
  | succ j =>
   rw [List.take_succ_cons, show mvs (c :: l.take j) = mcs c ++ mvs (l.take j) from rfl, ih, show mvs (c :: l) = mcs c ++ mvs l from rfl, List.take_append, List.take_of_length_le (l := mcs c) (by show 6 ≤ (j + 1) * 6; omega), show (j + 1) * 6 - (mcs c).length = j * 6 from by show (j + 1) * 6 - 6 = _; omega]
theorem mvs_drop (l : List Mv) : ∀ j, mvs (l.drop j) = (mvs l).drop (j * 6) := by
 induction l with
 | nil => intro j; simp [mvs]
 | cons c l ih =>
  intro j
  cases j with
  | zero => simp [mvs]
  | succ j =>
   rw [List.drop_succ_cons, ih, show mvs (c :: l) = mcs c ++ mvs l from rfl, List.drop_append, List.drop_of_length_le (l := mcs c) (by show 6 ≤ (j + 1) * 6; omega), show (j + 1) * 6 - (mcs c).length = j * 6 from by show (j + 1) * 6 - 6 = _; omega, List.nil_append]
theorem mvs_at {l : List Mv} {k : Nat} {x : Mv} (h : l[k]? = some x) : (mvs l)[k * 6]? = some (.int .i64 (mc x)) ∧ (mvs l)[k * 6 + 1]? = some (.int .i64 (mr x)) ∧ (mvs l)[k * 6 + 2]? = some (.int .i64 (pa (mw x))) ∧ (mvs l)[k * 6 + 3]? = some (.int .i64 (ch (mw x))) ∧ (mvs l)[k * 6 + 4]? = some (.string (ba (nm (mw x)))) ∧ (mvs l)[k * 6 + 5]? = some (.float .f64 (rk (mw x))) := by
 have hd : mvs (l.drop k) = mcs x ++ mvs (l.drop (k + 1)) := by
  have hk := (List.getElem?_eq_some_iff.1 h).1
  have hc := (List.getElem?_eq_some_iff.1 h).2
  rw [List.drop_eq_getElem_cons hk, hc]; rfl
 rw [mvs_drop] at hd
 have g : ∀ i, (mvs l)[k * 6 + i]? = (mcs x ++ mvs (l.drop (k + 1)))[i]? := fun i => by rw [← hd, List.getElem?_drop]
 exact ⟨by have := g 0; simpa [mcs] using this, by have := g 1; simpa [mcs] using this, by have := g 2; simpa [mcs] using this, by have := g 3; simpa [mcs] using this, by have := g 4; simpa [mcs] using this, by have := g 5; simpa [mcs] using this⟩
theorem move_cells {w : World} {B k : Nat} {A : Option Addr} {l : List Mv} {x : Mv} (h : At w B A (mvs l)) (hk : l[k]? = some x) :
  ∃ b off, A = some ⟨b, off, none⟩ ∧ b < B ∧ w.cell? ⟨b, off + k * 6, none⟩ = some (.int .i64 (mc x)) ∧ w.cell? ⟨b, off + k * 6 + 1, none⟩ = some (.int .i64 (mr x)) ∧ w.cell? ⟨b, off + k * 6 + 2, none⟩ = some (.int .i64 (pa (mw x))) ∧ w.cell? ⟨b, off + k * 6 + 3, none⟩ = some (.int .i64 (ch (mw x))) ∧ w.cell? ⟨b, off + k * 6 + 4, none⟩ = some (.string (ba (nm (mw x)))) ∧ w.cell? ⟨b, off + k * 6 + 5, none⟩ = some (.float .f64 (rk (mw x))) := by
 obtain ⟨h1, h2, h3, h4, h5, h6⟩ := mvs_at hk
 obtain ⟨b, off, hA, hlt, hc⟩ := h _ _ h1
 obtain ⟨b', off', hA', _, hc1⟩ := h _ _ h2
 rw [hA] at hA'
 cases hA'
 obtain ⟨b', off', hA', _, hc2⟩ := h _ _ h3
 rw [hA] at hA'
 cases hA'
 obtain ⟨b', off', hA', _, hc3⟩ := h _ _ h4
 rw [hA] at hA'
 cases hA'
 obtain ⟨b', off', hA', _, hc4⟩ := h _ _ h5
 rw [hA] at hA'
 cases hA'
 obtain ⟨b', off', hA', _, hc5⟩ := h _ _ h6
 rw [hA] at hA'
 cases hA'
 exact ⟨b, off, hA, hlt, hc, hc1, hc2, hc3, hc4, hc5⟩
theorem Try.info30 : (Try.prog.info? 30).map (fun i => (i.zero, i.size, i.bytes)) = some (some (.agg #[.int .i64 0, .int .i64 0, .int .i64 0, .int .i64 0, .string ByteArray.empty, .float .f64 0]), 6, 56) := by kernel_rfl
end Go.Proofs.Ytojhenpaeedimaa
end
section
namespace Go.Proofs.Ytojhenpaeedimaa
open Go.RowKit
open Fl
set_option maxRecDepth 100000
theorem bef1_c (Ba Bb : Nat) (x y : Int) (w : World) (h1 : w.cell? ⟨Ba, 0, none⟩ = some (.int .i64 x)) (h2 : w.cell? ⟨Bb, 0, none⟩ = some (.int .i64 y)) :
  Calls Try.prog 77 #[.pointer (some ⟨Ba, 0, none⟩), .pointer (some ⟨Bb, 0, none⟩)] w fun e w' => e = .returned (.int .i64 (ci x y)) ∧ w = w' := by
 go_enter Try.func77, Try.ntmps77
 go_wp2_with fail
 refine (cmpInt_c x y _).mono ?_
 rintro e w1 ⟨rfl, rfl⟩
 go_wp2
 go_ret
 exact ⟨rfl, rfl⟩
theorem bef2_c (Ba Bb : Nat) (x y : Int) (w : World) (h1 : w.cell? ⟨Ba, 1, none⟩ = some (.int .i64 x)) (h2 : w.cell? ⟨Bb, 1, none⟩ = some (.int .i64 y)) :
  Calls Try.prog 79 #[.pointer (some ⟨Ba, 0, none⟩), .pointer (some ⟨Bb, 0, none⟩)] w fun e w' => e = .returned (.int .i64 (ci x y)) ∧ w = w' := by
 go_enter Try.func79, Try.ntmps79
 go_wp2_with fail
 refine (cmpInt_c x y _).mono ?_
 rintro e w1 ⟨rfl, rfl⟩
 go_wp2
 go_ret
 exact ⟨rfl, rfl⟩
set_option maxHeartbeats 1000000 in
theorem firstB_c (p q : Value) (B : Nat) (v1 v2 : Int) (w : World)
  (hc1 : w.cell? ⟨B, 0, none⟩ = some (.func (.func 77) #[] #[p, q])) (hc2 : w.cell? ⟨B, 1, none⟩ = some (.func (.func 79) #[] #[p, q])) (hB : B < w.heap.size)
  (H1 : Hid (∀ wx, Below w.heap.size w wx → Calls Try.prog 77 #[p, q] wx fun e w' => e = .returned (.int .i64 v1) ∧ Below w.heap.size w w'))
  (H2 : Hid (∀ wx, Below w.heap.size w wx → Calls Try.prog 79 #[p, q] wx fun e w' => e = .returned (.int .i64 v2) ∧ Below w.heap.size w w')) :
  Calls Try.prog 76 #[.slice (some ⟨B, 0, none⟩) 2 2] w fun e w' => e = .returned (.int .i64 (fr v1 v2)) ∧ Below w.heap.size w w' := by
 by_cases h0 : v1 = 0
 ·subst h0
  have hfr : fr 0 v2 = v2 := by simp [fr]
  rw [hfr]
  clear hfr
  by_cases h2 : v2 = 0
  ·subst h2
   go_enter Try.func76, Try.ntmps76
   go_wp2_with fail
   refine wp_loop_rounds 3 ?_
   rw [rounds_succ]
   go_wp2_with fail
   refine (H1.out _ (Below.refl _ _)).mono ?_
   rintro e w1 ⟨rfl, hb1⟩
   have hc2' := (hb1.cell (p := ⟨B, 1, none⟩) hB).trans hc2
   go_wp2_with fail
   rw [rounds_succ]
   go_wp2_with fail
   refine (H2.out _ hb1).mono ?_
   rintro e w2 ⟨rfl, hb2⟩
   clear hc2'
   go_wp2
   rw [rounds_succ]
   go_wp2
   go_ret
   exact ⟨rfl, hb2⟩
  ·have h3 : (v2 != 0) = true := by rw [bne_iff_ne]; exact h2
   go_enter Try.func76, Try.ntmps76
   go_wp2_with fail
   refine wp_loop_rounds 2 ?_
   rw [rounds_succ]
   go_wp2_with fail
   refine (H1.out _ (Below.refl _ _)).mono ?_
   rintro e w1 ⟨rfl, hb1⟩
   have hc2' := (hb1.cell (p := ⟨B, 1, none⟩) hB).trans hc2
   go_wp2_with fail
   rw [rounds_succ]
   go_wp2_with fail
   refine (H2.out _ hb1).mono ?_
   rintro e w2 ⟨rfl, hb2⟩
   clear hc2'
   go_wp2
   go_ret
   exact ⟨rfl, hb2⟩
 ·have hfr : fr v1 v2 = v1 := by simp [fr, h0]
  rw [hfr]
  clear hfr
  have h3 : (v1 != 0) = true := by rw [bne_iff_ne]; exact h0
  go_enter Try.func76, Try.ntmps76
  go_wp2_with fail
  refine wp_loop_rounds 1 ?_
  rw [rounds_succ]
  go_wp2_with fail
  refine (H1.out _ (Below.refl _ _)).mono ?_
  rintro e w1 ⟨rfl, hb1⟩
  go_wp2
  go_ret
  exact ⟨rfl, hb1⟩
theorem before_c (c1 r1 c2 r2 : Int) (w : World) :
  Calls Try.prog 54 #[.agg #[.int .i64 c1, .int .i64 r1], .agg #[.int .i64 c2, .int .i64 r2]] w fun e w' => e = .returned (.bool (decide (fr (ci c1 c2) (ci r1 r2) < 0))) ∧ Below w.heap.size w w' := by
 have hF := three_facts w #[.int .i64 c1, .int .i64 r1] #[.int .i64 c2, .int .i64 r2]
  #[.func (.func 77) #[] #[.pointer (some ⟨w.heap.size, 0, none⟩), .pointer (some ⟨w.heap.size + 1, 0, none⟩)], .func (.func 79) #[] #[.pointer (some ⟨w.heap.size, 0, none⟩), .pointer (some ⟨w.heap.size + 1, 0, none⟩)]] 27 72
 have HF := Lib.hid hF
 clear hF
 go_enter Try.func54, Try.ntmps54
 go_wp2_with fail
 obtain ⟨f1, f2, f3, f4, f5⟩ := HF.out
 refine (firstB_c (.pointer (some ⟨w.heap.size, 0, none⟩)) (.pointer (some ⟨w.heap.size + 1, 0, none⟩)) (w.heap.size + 1 + 1) (ci c1 c2) (ci r1 r2)
  (three w #[.int .i64 c1, .int .i64 r1] #[.int .i64 c2, .int .i64 r2]
   #[.func (.func 77) #[] #[.pointer (some ⟨w.heap.size, 0, none⟩), .pointer (some ⟨w.heap.size + 1, 0, none⟩)], .func (.func 79) #[] #[.pointer (some ⟨w.heap.size, 0, none⟩), .pointer (some ⟨w.heap.size + 1, 0, none⟩)]] 27 72)
  (f3 0) (f3 1) f4 ?_ ?_).mono ?_
 ·intro wx hb
  refine (bef1_c w.heap.size (w.heap.size + 1) c1 c2 wx ((hb.cell (p := ⟨w.heap.size, 0, none⟩) (Nat.lt_of_succ_lt (Nat.lt_of_succ_lt f4))).trans (f1 0)) ((hb.cell (p := ⟨w.heap.size + 1, 0, none⟩) (Nat.lt_of_succ_lt f4)).trans (f2 0))).mono ?_
  rintro e w' ⟨rfl, rfl⟩
  exact ⟨rfl, hb⟩
 ·intro wx hb
  refine (bef2_c w.heap.size (w.heap.size + 1) r1 r2 wx ((hb.cell (p := ⟨w.heap.size, 1, none⟩) (Nat.lt_of_succ_lt (Nat.lt_of_succ_lt f4))).trans (f1 1)) ((hb.cell (p := ⟨w.heap.size + 1, 1, none⟩) (Nat.lt_of_succ_lt f4)).trans (f2 1))).mono ?_
  rintro e w' ⟨rfl, rfl⟩
  exact ⟨rfl, hb⟩
 ·rintro e w' ⟨rfl, hb⟩
  clear f1 f2 f3
  go_wp2
  go_ret
  exact ⟨rfl, f5.trans (hb.mono f5.size)⟩
theorem rBefore_c (c1 r1 c2 r2 : Int) (w : World) :
  Calls Try.prog 40 #[.agg #[.int .i64 c1, .int .i64 r1], .agg #[.int .i64 c2, .int .i64 r2]] w fun e w' => e = .returned (.bool (decide (fr (ci c1 c2) (ci r1 r2) < 0))) ∧ Below w.heap.size w w' := by
 rcases Int.lt_trichotomy c1 c2 with h | h | h
 ·have hv : decide (fr (ci c1 c2) (ci r1 r2) < 0) = true := by rw [ci_lt h]; rfl
  rw [hv]
  clear hv
  go_enter Try.func40, Try.ntmps40
  go_wp2
  go_ret
  exact ⟨rfl, by go_grown⟩
 ·subst h
  have hv : decide (fr (ci c1 c1) (ci r1 r2) < 0) = decide (r1 < r2) := by rw [ci_eq, fr_zero, ci_neg]
  rw [hv]
  clear hv
  go_enter Try.func40, Try.ntmps40
  go_wp2
  go_ret
  exact ⟨rfl, by go_grown⟩
 ·have hv : decide (fr (ci c1 c2) (ci r1 r2) < 0) = false := by rw [ci_gt h]; rfl
  rw [hv]
  clear hv
  have h1 : ¬ c1 < c2 := by omega
  have h2 : (c1 == c2) = false := by rw [beq_eq_false_iff_ne]; omega
  go_enter Try.func40, Try.ntmps40
  go_wp2
  go_ret
  exact ⟨rfl, by go_grown⟩
/-- is the one time ahead of the other -/
def befT (c1 r1 c2 r2 : Int) : Bool := decide (c1 < c2) || (decide (c1 = c2) && decide (r1 < r2))
theorem bef_eq (c1 r1 c2 r2 : Int) : decide (fr (ci c1 c2) (ci r1 r2) < 0) = befT c1 r1 c2 r2 := by
 unfold befT
 rcases Int.lt_trichotomy c1 c2 with h | h | h
 ·rw [ci_lt h, decide_eq_true (show c1 < c2 from h)]; rfl
 ·subst h; rw [ci_eq, fr_zero, ci_neg]; simp
 ·rw [ci_gt h, decide_eq_false (show ¬ c1 < c2 by omega), decide_eq_false (show ¬ c1 = c2 by omega)]; rfl
theorem bef_c (c1 r1 c2 r2 : Int) (w : World) :
  Calls Try.prog 54 #[.agg #[.int .i64 c1, .int .i64 r1], .agg #[.int .i64 c2, .int .i64 r2]] w fun e w' => e = .returned (.bool (befT c1 r1 c2 r2)) ∧ Below w.heap.size w w' := by
 rw [← bef_eq]; exact before_c c1 r1 c2 r2 w
theorem rbef_c (c1 r1 c2 r2 : Int) (w : World) :
  Calls Try.prog 40 #[.agg #[.int .i64 c1, .int .i64 r1], .agg #[.int .i64 c2, .int .i64 r2]] w fun e w' => e = .returned (.bool (befT c1 r1 c2 r2)) ∧ Below w.heap.size w w' := by
 rw [← bef_eq]; exact rBefore_c c1 r1 c2 r2 w
end Go.Proofs.Ytojhenpaeedimaa
end
