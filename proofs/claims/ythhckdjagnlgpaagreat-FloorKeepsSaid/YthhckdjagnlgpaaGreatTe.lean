/-
 Lists of rows held against each other; few rows.
 slices.Grow, slices.Clone, slices.Concat at rows.
-/
import Derived.Test.YthhckdjagnlgpaaGreatTc
import Derived.Lib.AppendZeros
import Derived.Lib.SliceRun
import Derived.Laws.AppendOwnNone
section
namespace Go.Proofs.YthhckdjagnlgpaaGreat
open Go.RowKit Go.IntWalk
open Wd Fl
set_option maxRecDepth 100000
attribute [local go_sem] Oper.semAt_some
def sameP : List Rw → List Rw → Bool
 | [], [] => true
 | a :: l, b :: m => alikeP a b && sameP l m
 | _, _ => false
theorem sameP_len : ∀ {l m : List Rw}, l.length ≠ m.length → sameP l m = false
 | [], [], h => by simp at h
 | [], _ :: _, _ => rfl
 | _ :: _, [], _ => rfl
 | a :: l, b :: m, h => by rw [sameP, sameP_len (l := l) (m := m) (by simpa using h), Bool.and_false]
theorem sameP_step {l m : List Rw} {k : Nat} {a b : Rw} (ha : l[k]? = some a) (hb : m[k]? = some b) : sameP (l.drop k) (m.drop k) = (alikeP a b && sameP (l.drop (k + 1)) (m.drop (k + 1))) := by
 have h1 := (List.getElem?_eq_some_iff.1 ha).1
 have h2 := (List.getElem?_eq_some_iff.1 ha).2
 have h3 := (List.getElem?_eq_some_iff.1 hb).1
 have h4 := (List.getElem?_eq_some_iff.1 hb).2
 rw [List.drop_eq_getElem_cons h1, List.drop_eq_getElem_cons h3, h2, h4, sameP]
set_option maxHeartbeats 4000000 in
theorem equalFunc_c (A1 A2 : Option Addr) (c1 c2 : Nat) (xs ys : List Rw) (hx : xs.length ≤ maxLen) (hy : ys.length ≤ maxLen) (hwx : Rows_ xs) (hwy : Rows_ ys) (w : World) (h1 : At w w.heap.size A1 (tvs xs)) (h2 : At w w.heap.size A2 (tvs ys)) :
  Calls Tryz.prog 72 #[.slice A1 xs.length c1, .slice A2 ys.length c2, .func (.func 73) #[] #[]] w fun e w' => e = .returned (.bool (sameP xs ys)) ∧ Below w.heap.size w w' := by
 unfold maxLen at hx hy
 have H1 := Lib.hid h1
 have H2 := Lib.hid h2
 have WX := Lib.hid hwx
 have WY := Lib.hid hwy
 clear h1 h2 hwx hwy
 by_cases hl : xs.length = ys.length
 ·obtain ⟨n, hn⟩ : ∃ n, n = ys.length := ⟨_, rfl⟩
  have hn1 : xs.length = n := by omega
  obtain ⟨R, hR⟩ : ∃ R, sameP xs ys = R := ⟨_, rfl⟩
  rw [hR]
  have HR := Lib.hid hR
  rw [← hn, hn1]
  rw [hn1] at hx hl
  rw [← hn] at hy hl
  have HN := Lib.hid hn
  have HN1 := Lib.hid hn1
  clear hn hn1 hR hl
  go_enter Tryz.func72, Tryz.ntmps72
  go_wp2_with fail
  go_loopw [17] (fun i wr => ∃ k : Nat, i = .int .i64 (k : Int) ∧ k ≤ n ∧ sameP (xs.drop k) (ys.drop k) = R ∧ Below w.heap.size w wr) (fun i _ => n - (intOf i).toNat)
  case atStart => exact ⟨0, rfl, Nat.zero_le _, HR.out, Below.refl _ _⟩
  case round =>
   obtain ⟨k, rfl, hk, heq, hb⟩ := hrel
   have hbs := hb.size
   have HE := Lib.hid heq
   clear heq
   by_cases hlt : k < n
   ·obtain ⟨x, hxk⟩ := some_at (show k < xs.length by rw [HN1.out]; exact hlt)
    obtain ⟨y, hyk⟩ := some_at (show k < ys.length by rw [← HN.out]; exact hlt)
    obtain ⟨b1, o1, rfl, hb1, x0, x1, x2, x3⟩ := row_cells (H1.out.below hb) hxk
    obtain ⟨b2, o2, rfl, hb2, y0, y1, y2, y3⟩ := row_cells (H2.out.below hb) hyk
    have hst := sameP_step hxk hyk
    rw [HE.out] at hst
    have hx64 := (WX.out x (mem_at hxk)).1
    have hy64 := (WY.out y (mem_at hyk)).1
    have hba := (hb.alloc hbs (.cells #[.int .i64 (ch x), .int .i64 (pa x), .string (ba (nm x)), .float .f64 (rk x)] 28)).alloc (by simp; omega) (.cells #[.int .i64 (ch y), .int .i64 (pa y), .string (ba (nm y)), .float .f64 (rk y)] 28)
    have e0 : (wr.alloc (.cells #[.int .i64 (ch x), .int .i64 (pa x), .string (ba (nm x)), .float .f64 (rk x)] 28)).cell? ⟨b2, o2 + k * 4, none⟩ = some (.int .i64 (ch y)) := keep_cell ((Below.refl _ _).alloc (Nat.le_refl _) _) y0
    have e1 : (wr.alloc (.cells #[.int .i64 (ch x), .int .i64 (pa x), .string (ba (nm x)), .float .f64 (rk x)] 28)).cell? ⟨b2, o2 + k * 4 + 1, none⟩ = some (.int .i64 (pa y)) := keep_cell ((Below.refl _ _).alloc (Nat.le_refl _) _) y1
    have e2 : (wr.alloc (.cells #[.int .i64 (ch x), .int .i64 (pa x), .string (ba (nm x)), .float .f64 (rk x)] 28)).cell? ⟨b2, o2 + k * 4 + 2, none⟩ = some (.string (ba (nm y))) := keep_cell ((Below.refl _ _).alloc (Nat.le_refl _) _) y2
    have e3 : (wr.alloc (.cells #[.int .i64 (ch x), .int .i64 (pa x), .string (ba (nm x)), .float .f64 (rk x)] 28)).cell? ⟨b2, o2 + k * 4 + 3, none⟩ = some (.float .f64 (rk y)) := keep_cell ((Below.refl _ _).alloc (Nat.le_refl _) _) y3
    have HST := Lib.hid hst
    have hcall := fun W => sameF_c x y hx64 hy64 W
    unfold rv at hcall
    obtain ⟨q, hq⟩ : ∃ q, alikeP x y = q := ⟨_, rfl⟩
    rw [hq] at hcall
    have HQ := Lib.hid hq
    have HCALL := Lib.hid hcall
    clear hst hxk hyk hq hcall
    cases q
    ·go_wp2_with fail
     refine (HCALL.out _).mono ?_
     rintro e w5 ⟨rfl, hm⟩
     go_wp2_with fail
     go_ret
     refine ⟨ret_bool ?_, hba.trans (hm.mono hba.size)⟩
     rw [HST.out, HQ.out]; rfl
    ·go_wp2_with fail
     refine (HCALL.out _).mono ?_
     rintro e w5 ⟨rfl, hm⟩
     go_wp2_with fail
     go_roundw
     case rel => exact ⟨k + 1, by go_num, by omega, by rw [HST.out, HQ.out]; rfl, hba.trans (hm.mono hba.size)⟩
     case measure => simp only [intOf]; omega
   ·obtain rfl : k = n := by omega
    have h := HE.out
    rw [List.drop_of_length_le (by rw [HN1.out]; exact Nat.le_refl _), List.drop_of_length_le (by rw [← HN.out]; exact Nat.le_refl _)] at h
    have HH := Lib.hid h
    clear h
    go_wp2_with fail
    go_ret
    exact ⟨ret_bool HH.out, hb⟩
 ·have hs := sameP_len hl
  have ht : ((xs.length : Int) != (ys.length : Int)) = true := by simp only [bne_iff_ne, ne_eq]; omega
  have HS := Lib.hid hs
  clear hl hs
  go_enter Tryz.func72, Tryz.ntmps72
  go_wp2_with fail
  go_ret
  exact ⟨ret_bool HS.out.symm, Below.refl _ _⟩
theorem tsame_c (A1 A2 : Option Addr) (c1 c2 : Nat) (xs ys : List Rw) (hx : xs.length ≤ maxLen) (hy : ys.length ≤ maxLen) (hwx : Rows_ xs) (hwy : Rows_ ys) (w : World) (h1 : At w w.heap.size A1 (tvs xs)) (h2 : At w w.heap.size A2 (tvs ys)) :
  Calls Tryz.prog 25 #[.slice A1 xs.length c1, .slice A2 ys.length c2] w fun e w' => e = .returned (.bool (sameP xs ys)) ∧ Below w.heap.size w w' := by
 have HCALL := Lib.hid (equalFunc_c A1 A2 c1 c2 xs ys hx hy hwx hwy w h1 h2)
 clear h1 h2
 go_enter Tryz.func25, Tryz.ntmps25
 go_wp2_with fail
 refine HCALL.out.mono ?_
 rintro e w1 ⟨rfl, hb1⟩
 go_wp2_with fail
 go_ret
 exact ⟨rfl, hb1⟩
theorem eight_go {p0 p1 p2 p3 q0 q1 q2 q3 : Addr} {a0 a1 a2 a3 b0 b1 b2 b3 : Value} {w w1 w2 : World}
  (h : (w1.cell? p0 = some a0 ∧ w1.cell? p1 = some a1 ∧ w1.cell? p2 = some a2 ∧ w1.cell? p3 = some a3) ∧ (w1.cell? q0 = some b0 ∧ w1.cell? q1 = some b1 ∧ w1.cell? q2 = some b2 ∧ w1.cell? q3 = some b3) ∧ Below w.heap.size w w1) (hb : Below w1.heap.size w1 w2) :
  (w2.cell? p0 = some a0 ∧ w2.cell? p1 = some a1 ∧ w2.cell? p2 = some a2 ∧ w2.cell? p3 = some a3) ∧ (w2.cell? q0 = some b0 ∧ w2.cell? q1 = some b1 ∧ w2.cell? q2 = some b2 ∧ w2.cell? q3 = some b3) ∧ Below w.heap.size w w2 :=
 ⟨⟨keep_cell hb h.1.1, keep_cell hb h.1.2.1, keep_cell hb h.1.2.2.1, keep_cell hb h.1.2.2.2⟩, ⟨keep_cell hb h.2.1.1, keep_cell hb h.2.1.2.1, keep_cell hb h.2.1.2.2.1, keep_cell hb h.2.1.2.2.2⟩, h.2.2.trans (hb.mono h.2.2.size)⟩
theorem eight_below {p0 p1 p2 p3 q0 q1 q2 q3 : Addr} {a0 a1 a2 a3 b0 b1 b2 b3 : Value} {w w1 : World}
  (h : (w1.cell? p0 = some a0 ∧ w1.cell? p1 = some a1 ∧ w1.cell? p2 = some a2 ∧ w1.cell? p3 = some a3) ∧ (w1.cell? q0 = some b0 ∧ w1.cell? q1 = some b1 ∧ w1.cell? q2 = some b2 ∧ w1.cell? q3 = some b3) ∧ Below w.heap.size w w1) : Below w.heap.size w w1 := h.2.2
set_option maxHeartbeats 4000000 in
theorem rsame_c (A1 A2 : Option Addr) (c1 c2 : Nat) (xs ys : List Rw) (hx : xs.length ≤ maxLen) (hy : ys.length ≤ maxLen) (hwx : Rows_ xs) (hwy : Rows_ ys) (w : World) (h1 : At w w.heap.size A1 (tvs xs)) (h2 : At w w.heap.size A2 (tvs ys)) :
  Calls Tryz.prog 26 #[.slice A1 xs.length c1, .slice A2 ys.length c2] w fun e w' => e = .returned (.bool (sameP xs ys)) ∧ Below w.heap.size w w' := by
 unfold maxLen at hx hy
 have H1 := Lib.hid h1
 have H2 := Lib.hid h2
 have WX := Lib.hid hwx
 have WY := Lib.hid hwy
 clear h1 h2 hwx hwy
 by_cases hl : xs.length = ys.length
 ·obtain ⟨n, hn⟩ : ∃ n, n = ys.length := ⟨_, rfl⟩
  have hn1 : xs.length = n := by omega
  obtain ⟨R, hR⟩ : ∃ R, sameP xs ys = R := ⟨_, rfl⟩
  rw [hR]
  have HR := Lib.hid hR
  rw [← hn, hn1]
  rw [hn1] at hx hl
  rw [← hn] at hy hl
  have HN := Lib.hid hn
  have HN1 := Lib.hid hn1
  clear hn hn1 hR hl
  go_enter Tryz.func26, Tryz.ntmps26
  go_wp2_with fail
  go_loopw [5] (fun i wr => ∃ k : Nat, i = .int .i64 (k : Int) ∧ k ≤ n ∧ sameP (xs.drop k) (ys.drop k) = R ∧ Below w.heap.size w wr) (fun i _ => n - (intOf i).toNat)
  case atStart => exact ⟨0, rfl, Nat.zero_le _, HR.out, Below.refl _ _⟩
  case round =>
   obtain ⟨k, rfl, hk, heq, hb⟩ := hrel
   have hbs := hb.size
   have HE := Lib.hid heq
   clear heq
   by_cases hlt : k < n
   ·obtain ⟨x, hxk⟩ := some_at (show k < xs.length by rw [HN1.out]; exact hlt)
    obtain ⟨y, hyk⟩ := some_at (show k < ys.length by rw [← HN.out]; exact hlt)
    obtain ⟨b1, o1, rfl, hb1, x0, x1, x2, x3⟩ := row_cells (H1.out.below hb) hxk
    obtain ⟨b2, o2, rfl, hb2, y0, y1, y2, y3⟩ := row_cells (H2.out.below hb) hyk
    have hst := sameP_step hxk hyk
    rw [HE.out] at hst
    have hx64 := (WX.out x (mem_at hxk)).1
    have hy64 := (WY.out y (mem_at hyk)).1
    have HST := Lib.hid hst
    have hcall := fun W => alike_c x y hx64 hy64 W
    unfold rv at hcall
    obtain ⟨q, hq⟩ : ∃ q, alikeP x y = q := ⟨_, rfl⟩
    rw [hq] at hcall
    have HQ := Lib.hid hq
    have HCALL := Lib.hid hcall
    have hki : (0 : Int) ≤ (k : Int) := by omega
    have hkn : (k : Int) < (n : Int) := by omega
    clear hst hxk hyk hq hcall
    cases q
    ·skip
     go_wp2_with fail
     go_region_held3 (fun w' => (w'.cell? ⟨b1, o1 + k * 4, none⟩ = some (.int .i64 (ch x)) ∧ w'.cell? ⟨b1, o1 + k * 4 + 1, none⟩ = some (.int .i64 (pa x)) ∧ w'.cell? ⟨b1, o1 + k * 4 + 2, none⟩ = some (.string (ba (nm x))) ∧ w'.cell? ⟨b1, o1 + k * 4 + 3, none⟩ = some (.float .f64 (rk x))) ∧ (w'.cell? ⟨b2, o2 + k * 4, none⟩ = some (.int .i64 (ch y)) ∧ w'.cell? ⟨b2, o2 + k * 4 + 1, none⟩ = some (.int .i64 (pa y)) ∧ w'.cell? ⟨b2, o2 + k * 4 + 2, none⟩ = some (.string (ba (nm y))) ∧ w'.cell? ⟨b2, o2 + k * 4 + 3, none⟩ = some (.float .f64 (rk y))) ∧ Below w.heap.size w w')
      (first
       | assumption
       | (exact eight_go (by assumption) hbn)
       | (exact eight_go ⟨⟨x0, x1, x2, x3⟩, ⟨y0, y1, y2, y3⟩, hb⟩ (Below.refl _ _).drew)
       | (exact eight_go (by assumption) (Below.refl _ _).drew)
       | go_keep)
      (first | (go_at_call 27; refine (HCALL.out _).mono ?_; rintro e w5 ⟨rfl, hbn⟩))
     have hbe : Below w.heap.size w w5 := eight_below (by assumption)
     go_wp2_with fail
     go_ret
     refine ⟨ret_bool ?_, hbe⟩
     rw [HST.out, HQ.out]; rfl
    ·skip
     go_wp2_with fail
     go_region_held3 (fun w' => (w'.cell? ⟨b1, o1 + k * 4, none⟩ = some (.int .i64 (ch x)) ∧ w'.cell? ⟨b1, o1 + k * 4 + 1, none⟩ = some (.int .i64 (pa x)) ∧ w'.cell? ⟨b1, o1 + k * 4 + 2, none⟩ = some (.string (ba (nm x))) ∧ w'.cell? ⟨b1, o1 + k * 4 + 3, none⟩ = some (.float .f64 (rk x))) ∧ (w'.cell? ⟨b2, o2 + k * 4, none⟩ = some (.int .i64 (ch y)) ∧ w'.cell? ⟨b2, o2 + k * 4 + 1, none⟩ = some (.int .i64 (pa y)) ∧ w'.cell? ⟨b2, o2 + k * 4 + 2, none⟩ = some (.string (ba (nm y))) ∧ w'.cell? ⟨b2, o2 + k * 4 + 3, none⟩ = some (.float .f64 (rk y))) ∧ Below w.heap.size w w')
      (first
       | assumption
       | (exact eight_go (by assumption) hbn)
       | (exact eight_go ⟨⟨x0, x1, x2, x3⟩, ⟨y0, y1, y2, y3⟩, hb⟩ (Below.refl _ _).drew)
       | (exact eight_go (by assumption) (Below.refl _ _).drew)
       | go_keep)
      (first | (go_at_call 27; refine (HCALL.out _).mono ?_; rintro e w5 ⟨rfl, hbn⟩))
     have hbe : Below w.heap.size w w5 := eight_below (by assumption)
     go_wp2_with fail
     go_roundw
     case rel => exact ⟨k + 1, by go_num, by omega, by rw [HST.out, HQ.out]; rfl, hbe⟩
     case measure => simp only [intOf]; omega
   ·obtain rfl : k = n := by omega
    have h := HE.out
    rw [List.drop_of_length_le (by rw [HN1.out]; exact Nat.le_refl _), List.drop_of_length_le (by rw [← HN.out]; exact Nat.le_refl _)] at h
    have HH := Lib.hid h
    clear h
    go_wp2_with fail
    go_ret
    exact ⟨ret_bool HH.out, hb⟩
 ·have hs := sameP_len hl
  have ht : ((xs.length : Int) != (ys.length : Int)) = true := by simp only [bne_iff_ne, ne_eq]; omega
  have HS := Lib.hid hs
  clear hl hs
  go_enter Tryz.func26, Tryz.ntmps26
  go_wp2_with fail
  go_ret
  exact ⟨ret_bool HS.out.symm, Below.refl _ _⟩
def few (l : List Rw) : Bool := decide (l.length ≤ 60) && l.all fun r => decide ((nm r).length ≤ 100)
theorem few_step {l : List Rw} {i : Nat} {c : Rw} (h : l[i]? = some c) : ((l.drop i).all fun r => decide ((nm r).length ≤ 100)) = (decide ((nm c).length ≤ 100) && (l.drop (i + 1)).all fun r => decide ((nm r).length ≤ 100)) := by
 have hk := (List.getElem?_eq_some_iff.1 h).1
 have hc := (List.getElem?_eq_some_iff.1 h).2
 rw [List.drop_eq_getElem_cons hk, hc, List.all_cons]
theorem few_in {l : List Rw} (h : few l = true) : l.length ≤ 60 ∧ ∀ r ∈ l, (nm r).length ≤ 100 := by
 simp only [few, Bool.and_eq_true, decide_eq_true_eq, List.all_eq_true] at h
 exact h
theorem few_c (A : Option Addr) (cap : Nat) (l : List Rw) (hl : l.length ≤ maxLen) (w : World) (hc : At w w.heap.size A (tvs l)) :
  Calls Tryz.prog 17 #[.slice A l.length cap] w fun e w' => e = .returned (.bool (few l)) ∧ w = w' := by
 unfold maxLen at hl
 obtain ⟨r, hr⟩ : ∃ r, r = few l := ⟨_, rfl⟩
 rw [← hr]
 have hr0 := hr
 unfold few at hr0
 have HC := Lib.hid hc
 clear hr hc
 by_cases h20 : 60 < l.length
 ·rw [decide_eq_false (show ¬ l.length ≤ 60 by omega), Bool.false_and] at hr0
  subst hr0
  go_enter Tryz.func17, Tryz.ntmps17
  go_wp2_with fail
  go_ret
  exact ⟨rfl, rfl⟩
 ·rw [decide_eq_true (show l.length ≤ 60 by omega), Bool.true_and] at hr0
  have HR := Lib.hid hr0
  clear hr0
  go_enter Tryz.func17, Tryz.ntmps17
  go_wp2_with fail
  go_loopw [3] (fun i wr => ∃ j : Nat, i = .int .i64 (j : Int) ∧ j ≤ l.length ∧ ((l.drop j).all fun r => decide ((nm r).length ≤ 100)) = r ∧ wr = w)
   (fun i _ => l.length - (intOf i).toNat)
  case atStart => exact ⟨0, rfl, Nat.zero_le _, HR.out.symm, rfl⟩
  case round =>
   obtain ⟨j, rfl, hj, hf, rfl⟩ := hrel
   by_cases hlt : j < l.length
   ·obtain ⟨c, hcj⟩ := some_at hlt
    obtain ⟨b0, o0, rfl, hb0, -, -, c1, -⟩ := row_cells HC.out hcj
    rw [few_step hcj] at hf
    have hsz := ba_size (nm c)
    have HF := Lib.hid hf
    clear hf hcj
    by_cases hk : 100 < (nm c).length
    ·go_wp2_with fail
     go_ret
     have := HF.out
     rw [decide_eq_false (show ¬ (nm c).length ≤ 100 by omega), Bool.false_and] at this
     exact ⟨ret_bool this, rfl⟩
    ·go_wp2_with fail
     go_roundw
     case rel => exact ⟨j + 1, by go_num, by omega, by rw [← HF.out, decide_eq_true (show (nm c).length ≤ 100 by omega), Bool.true_and], by first | rfl | trivial⟩
     case measure => simp only [intOf]; omega
   ·obtain rfl : j = l.length := by omega
    rw [List.drop_length] at hf
    have HF := Lib.hid hf
    clear hf
    go_wp2_with fail
    go_ret
    exact ⟨ret_bool HF.out, rfl⟩
end Go.Proofs.YthhckdjagnlgpaaGreat
end
section
namespace Go.Proofs.YthhckdjagnlgpaaGreat
open Go.RowKit Go.IntWalk
set_option maxRecDepth 100000
attribute [local go_sem] Oper.semAt_some
theorem zero_size (k : Nat) : (Builtin.zeroCells (Value.agg #[.int .i64 0, .int .i64 0, .string ByteArray.empty, .float .f64 0]).cells k).size = k * 4 := by
 rw [size_zeroCells]; rfl
def Made (w : World) (e : Ending) (w' : World) : Prop := ∃ A cap, e = .returned (.slice A 0 cap) ∧ w'.ownsRow w.heap.size 28 4 (.slice A 0 cap) 0 [] ∧ Below w.heap.size w w'
set_option maxHeartbeats 2000000 in
theorem grow_c (n : Nat) (hn : n ≤ 200000) (w : World) :
  Calls Tryz.prog 130 #[.slice none 0 0, .int .i64 (n : Int)] w (Made w) := by
 obtain ⟨i0, hi, hz0, hz1, hz2⟩ := info_parts Tryz.info28
 by_cases h0 : n = 0
 ·subst h0
  go_enter Tryz.func130, Tryz.ntmps130
  go_wp2
  go_ret
  exact ⟨none, 0, rfl, World.ownsRow_nil _ _ _ _, Below.refl _ _⟩
 ·have hrz : ∀ ty, (Builtin.append_ #[22, 3] ty #[.slice none 0 0, .int .i64 (n : Int)]).run Tryz.prog w = _ := fun ty =>
   Lib.run_append_nil_zeros w 22 3 ty 28 i0 _ .i64 .i64 Tryz.underlying22 Tryz.underlying3 hi hz0 n (by omega) (by omega) (by omega) (by rw [hz2]; omega)
  have hGn := grownCap_ge w n 0 28
  have hG63 := grownCap_le_maxLen w n 0 28 (by unfold maxLen; omega)
  have hown : (w.drew.alloc (.cells (Builtin.zeroCells (Value.agg #[.int .i64 0, .int .i64 0, .string ByteArray.empty, .float .f64 0]).cells n ++ Builtin.zeroCells (Value.agg #[.int .i64 0, .int .i64 0, .string ByteArray.empty, .float .f64 0]).cells (grownCap w n 0 28 - n)) 28)).ownsRow w.heap.size 28 4 (.slice (some ⟨w.heap.size, 0, none⟩) 0 (grownCap w n 0 28)) 0 [] :=
   World.ownsRow_made (base := w.heap.size) (e := 28) (size := 4) w.drew _ _ (Nat.le_refl _) hG63 (by rw [Array.size_append, zero_size, zero_size]; omega)
  obtain ⟨G, hG⟩ : ∃ G, G = grownCap w n 0 28 := ⟨_, rfl⟩
  rw [← hG] at hrz hGn hown hG63
  unfold maxLen at hG63
  have h1 : ¬ ((n : Int) < 0) := by omega
  have h4 : (n : Int) > 0 := by omega
  have HOWN := Lib.hid hown
  clear hG hown
  go_enter Tryz.func130, Tryz.ntmps130
  go_wp2_with (at_builtin; refine Lib.wpList_append_run _ rfl _ _ _ _ rfl _ _ rfl rfl _ _ (hrz _) ?_)
  go_ret
  exact ⟨_, _, rfl, HOWN.out, ((Below.refl _ _).drew.alloc (Nat.le_refl _) _)⟩
theorem made4 (B : Nat) (W : World) (h : B ≤ W.heap.size) : (W.alloc (.cells #[] 28)).ownsRow B 28 4 (.slice (some ⟨W.heap.size, 0, none⟩) 0 0) 0 [] :=
 World.ownsRow_made (base := B) (e := 28) (size := 4) W #[] 0 h (by unfold maxLen; omega) rfl
theorem at_news {w : World} {B b o : Nat} {xs : List Value} (h : At w B (some ⟨b, o, none⟩) xs) : ∀ j u, xs[j]? = some u → w.cell? ((⟨b, o, none⟩ : Addr).add j) = some u := by
 intro j u hu
 obtain ⟨b', o', e, _, hc⟩ := h j u hu
 cases e
 rw [Go.WideShapes.add_plain]
 exact hc
theorem below_own {B : Nat} {w w1 w2 : World} {v : Value} {e : TypeId} {size n : Nat} {xs : List Value} (hb : Below B w w1) (hB : B ≤ w1.heap.size) (hown : w1.ownsRow B e size v n xs) (hg : w1.grownBy w2 v.ownBlock) : Below B w w2 :=
 hb.grown hg hB (fun k hk => (hown.lt k hk).1)
/-- a new row of the call's own that holds l -/
def Fresh_ (l : List Rw) (w : World) (e : Ending) (w' : World) : Prop :=
 ∃ A cap, e = .returned (.slice A l.length cap) ∧ w'.ownsRow w.heap.size 28 4 (.slice A l.length cap) l.length (tvs l) ∧ Below w.heap.size w w'
set_option maxHeartbeats 2000000 in
theorem clone_c (A : Option Addr) (cap : Nat) (l : List Rw) (hl : l.length ≤ 100000) (hA : A = none → cap = 0) (w : World) (hc : At w w.heap.size A (tvs l)) :
  Calls Tryz.prog 76 #[.slice A l.length cap] w (Fresh_ l w) := by
 obtain ⟨i0, hi, hz0, hz1, hz2⟩ := info_parts Tryz.info28
 have q22 : ∀ (w : World) (a : Option Addr) (n c n' c' : Nat), (binOp .eql 22 (.slice a n c) (.slice none n' c')).run Tryz.prog w = .ok (.bool a.isNone) w := fun w a n c n' c' => Lib.run_eql_slice_nil w _ _ a n c n' c' Tryz.underlying22
 cases A with
 | none =>
  obtain rfl := hA rfl
  have hl0 : l = [] := by
   cases l with
   | nil => rfl
   | cons r l =>
    obtain ⟨b, o, e, _⟩ := hc 0 _ rfl
    cases e
  subst hl0
  go_enter Tryz.func76, Tryz.ntmps76
  go_wp2
  go_ret
  exact ⟨none, 0, rfl, World.ownsRow_nil _ _ _ _, Below.refl _ _⟩
 | some a =>
  by_cases hn : l = []
  ·subst hn
   obtain ⟨b0, o0, sp⟩ := a
   have hm := made4 w.heap.size w (Nat.le_refl _)
   go_enter Tryz.func76, Tryz.ntmps76
   go_wp2_with (at_builtin; refine wpList_append_own _ rfl _ _ 22 rfl w.heap.size 28 i0 _ 4 40 Tryz.underlying22 hi hz0 hz1 hz2 rfl (by decide) _ _ _ rfl hm ⟨b0, o0, sp⟩ 0 cap [] rfl rfl (fun j u hj => by simp at hj) (fun u hu => by simp at hu) (by unfold maxLen; omega) (by omega) (by simp) ?_)
   intro v' w1 hown hgrow _
   have hb := below_own ((Below.refl _ _).alloc (Nat.le_refl _) _) (by simp) hm hgrow
   obtain ⟨A', cap', rfl, -, -, -⟩ := own_at hown
   go_wp2
   go_ret
   exact ⟨A', cap', rfl, hown, hb⟩
  ·obtain ⟨r, hr⟩ : ∃ r, l[0]? = some r := by
    cases l with
    | nil => exact absurd rfl hn
    | cons r l => exact ⟨r, rfl⟩
   obtain ⟨b0, o0, e, _⟩ := row_cells hc hr
   cases e
   have hm := made4 w.heap.size w (Nat.le_refl _)
   have hb0 := (Below.refl w.heap.size w).alloc (Nat.le_refl _) (.cells #[] 28)
   have hc2 := hc.below hb0
   have HC2 := Lib.hid hc2
   have htl := tvs_len l
   clear hc hc2 hr
   go_enter Tryz.func76, Tryz.ntmps76
   go_wp2_with (at_builtin; refine wpList_append_own _ rfl _ _ 22 rfl w.heap.size 28 i0 _ 4 40 Tryz.underlying22 hi hz0 hz1 hz2 rfl (by decide) _ _ _ rfl hm ⟨b0, o0, none⟩ l.length cap (tvs l) rfl htl (at_news HC2.out) (tvs_one l) (by unfold maxLen; omega) (by omega) (by simp) ?_)
   intro v' w1 hown hgrow _
   have hb := below_own hb0 (by simp) hm hgrow
   obtain ⟨A', cap', rfl, -, -, -⟩ := own_at hown
   go_wp2
   go_ret
   exact ⟨A', cap', rfl, hown, hb⟩
/-- slices of rows as cells -/
def lvs (L : List (Option Addr × Nat × List Rw)) : List Value := L.map fun x => .slice x.1 x.2.2.length x.2.1
theorem lvs_at {L : List (Option Addr × Nat × List Rw)} {k : Nat} {x : Option Addr × Nat × List Rw} (h : L[k]? = some x) : (lvs L)[k]? = some (.slice x.1 x.2.2.length x.2.1) := by simp [lvs, h]
def flatR (L : List (Option Addr × Nat × List Rw)) : List Rw := L.flatMap fun x => x.2.2
theorem flatR_take {L : List (Option Addr × Nat × List Rw)} {k : Nat} {x : Option Addr × Nat × List Rw} (h : L[k]? = some x) : flatR (L.take (k + 1)) = flatR (L.take k) ++ x.2.2 := by
 unfold flatR
 rw [List.take_add_one, h, List.flatMap_append]
 simp
theorem flatR_pre (L : List (Option Addr × Nat × List Rw)) (k : Nat) : (flatR (L.take k)).length ≤ (flatR L).length := by
 have h : flatR L = flatR (L.take k) ++ flatR (L.drop k) := by unfold flatR; rw [← List.flatMap_append, List.take_append_drop]
 rw [h, List.length_append]
 omega
/-- append of rows that came in, or of none -/
theorem append_optR (w : World) {ops : Array Oper} {rest : List Oper} {o : Oper} {a : Act} {Q : Exit → Act → World → Prop}
  (hg : o.guard = none) (s x : Operand) (hop : o.op = Op.call { callee := Callee.builtin Builtin.append, args := #[s, x], argTypes := #[22, 22] })
  (base : Nat) (v : Value) (k : Nat) (us : List Rw) (hs : a.eval s = v) (hown : w.ownsRow base 28 4 v k (tvs us)) (A : Option Addr) (c : Nat) (vs : List Rw) (hx : a.eval x = .slice A vs.length c) (hn : A = none → c = 0) (hvl : vs.length ≤ c)
  (B : Nat) (hc : At w B A (tvs vs)) (hlen : k + vs.length ≤ 200000) (b3 : base ≤ w.heap.size)
  (hK : ∀ v' w', w'.ownsRow base 28 4 v' (k + vs.length) (tvs (us ++ vs)) → w.grownBy w' v.ownBlock → wpList Tryz.prog ops Q rest (a.put o.dst v') w') :
  wpList Tryz.prog ops Q (o :: rest) a w := by
 obtain ⟨i0, hi, hz0, hz1, hz2⟩ := info_parts Tryz.info28
 rcases A with _ | ⟨b, off, spot⟩
 ·obtain rfl : c = 0 := hn rfl
  obtain rfl : vs = [] := List.eq_nil_of_length_eq_zero (by omega)
  exact wpList_append_own_none hg s x _ hop base _ i0 4 Tryz.underlying22 hi v k (tvs us) hs hown hx (hK v w (by simpa using hown) (World.grownBy.refl w _))
 ·by_cases hv : vs = []
  ·subst hv
   refine wpList_append_own w hg s x _ hop base _ i0 _ 4 40 Tryz.underlying22 hi hz0 hz1 hz2 rfl (by decide) v k (tvs us) hs hown ⟨b, off, spot⟩ 0 c [] hx rfl (fun j u hu => by simp at hu) (fun u hu => by simp at hu) (by unfold maxLen; simp at hlen; omega) (by simp at hlen; omega) b3 ?_
   intro v' w' h1 h2 _
   exact hK v' w' (by simpa using h1) h2
  ·obtain ⟨y, ys, rfl⟩ : ∃ y ys, vs = y :: ys := by cases vs with | nil => exact absurd rfl hv | cons y ys => exact ⟨y, ys, rfl⟩
   obtain ⟨b', off', e, _, _⟩ := hc 0 _ rfl
   cases e
   refine wpList_append_own w hg s x _ hop base _ i0 _ 4 40 Tryz.underlying22 hi hz0 hz1 hz2 rfl (by decide) v k (tvs us) hs hown ⟨b, off, none⟩ (y :: ys).length c (tvs (y :: ys)) hx (tvs_len _) (at_news hc) (tvs_one _) (by unfold maxLen; omega) (by omega) b3 ?_
   intro v' w' h1 h2 _
   exact hK v' w' (by rw [tvs_append]; exact h1) h2
set_option maxHeartbeats 4000000 in
theorem concat_c (L : List (Option Addr × Nat × List Rw)) (G o cap : Nat) (hL : L.length ≤ 1000) (hF : (flatR L).length ≤ 200000) (w : World) (hc : At w w.heap.size (some ⟨G, o, none⟩) (lvs L)) (hcs : ∀ x ∈ L, At w w.heap.size x.1 (tvs x.2.2) ∧ (x.1 = none → x.2.1 = 0) ∧ x.2.2.length ≤ x.2.1) :
  Calls Tryz.prog 77 #[.slice (some ⟨G, o, none⟩) L.length cap] w (Fresh_ (flatR L) w) := by
 obtain ⟨i0, hi, hz0, hz1, hz2⟩ := info_parts Tryz.info28
 obtain ⟨N, hN⟩ : ∃ N, N = flatR L := ⟨_, rfl⟩
 rw [← hN] at hF ⊢
 have HN := Lib.hid hN
 have HC := Lib.hid hc
 have HCS := Lib.hid hcs
 have HPRE := Lib.hid (flatR_pre L)
 clear hN hc hcs
 go_enter Tryz.func77, Tryz.ntmps77
 go_wp2_with fail
 go_loopw [3, 11] (fun s i wr => ∃ k : Nat, i = .int .i64 (k : Int) ∧ k ≤ L.length ∧ s = .int .i64 ((flatR (L.take k)).length : Int) ∧ wr = w) (fun _ i _ => L.length - (intOf i).toNat)
 case atStart => exact ⟨0, rfl, Nat.zero_le _, rfl, rfl⟩
 case round =>
  obtain ⟨k, rfl, hk, rfl, hwr⟩ := hrel
  have hwr2 := hwr.symm
  subst hwr2
  by_cases hlt : k < L.length
  ·obtain ⟨x, hx⟩ := some_at hlt
   obtain ⟨A1, c1, l1⟩ := x
   obtain ⟨b0, o0, e0, hb0, c0⟩ := HC.out k _ (lvs_at hx)
   cases e0
   have hft := flatR_take hx
   have hp := HPRE.out (k + 1)
   rw [hft, ← HN.out, List.length_append] at hp
   simp only at hp c0
   have HFT := Lib.hid hft
   clear hx hft
   go_wp2_with fail
   go_roundw
   case rel => exact ⟨k + 1, by go_num, by omega, by rw [HFT.out, List.length_append]; go_num, by first | rfl | trivial⟩
   case measure => simp only [intOf]; omega
  ·obtain rfl : k = L.length := by omega
   rw [List.take_length, ← HN.out]
   go_wp2_with fail
   refine (grow_c N.length (by omega) _).mono ?_
   rintro e w1 ⟨A0, k0, rfl, hown0, hb0⟩
   go_wp2_with fail
   go_loopw [6, 27] (fun s i w2 => ∃ (k : Nat) (A : Option Addr) (cp : Nat), i = .int .i64 (k : Int) ∧ k ≤ L.length ∧ s = .slice A (flatR (L.take k)).length cp ∧ w2.ownsRow w.heap.size 28 4 (.slice A (flatR (L.take k)).length cp) (flatR (L.take k)).length (tvs (flatR (L.take k))) ∧ Below w.heap.size w w2) (fun _ i _ => L.length - (intOf i).toNat)
   case atStart => exact ⟨0, A0, k0, rfl, Nat.zero_le _, rfl, hown0, hb0⟩
   case round =>
    clear hown0 hb0
    obtain ⟨k, A, cp, rfl, hk, rfl, hown, hb⟩ := hrel
    by_cases hlt : k < L.length
    ·obtain ⟨x, hx⟩ := some_at hlt
     obtain ⟨h1, h2, h3⟩ := HCS.out x (mem_at hx)
     obtain ⟨A1, c1, l1⟩ := x
     obtain ⟨b0, o0, e0, hb0, c0⟩ := (HC.out.below hb) k _ (lvs_at hx)
     cases e0
     have hft := flatR_take hx
     have hp := HPRE.out (k + 1)
     rw [hft, ← HN.out, List.length_append] at hp
     simp only at hp c0 h1 h2 h3
     have HFT := Lib.hid hft
     have H1 := Lib.hid h1
     have H2 := Lib.hid h2
     clear hx hft h1 h2
     go_wp2_with (at_builtin; refine append_optR _ rfl _ _ rfl w.heap.size _ _ _ rfl hown A1 c1 l1 rfl H2.out h3 w.heap.size (H1.out.below hb) (by omega) hb.size ?_)
     intro v' w3 hown' hgrow
     have hb3 := below_own hb hb.size hown hgrow
     obtain ⟨A', cap', rfl, -, -, -⟩ := own_at hown'
     have H3 := Lib.hid hown'
     clear hown hown' hgrow hb
     go_wp2_with fail
     go_roundw
     case rel =>
      refine ⟨k + 1, A', cap', by go_num, by omega, ?_, ?_, hb3⟩
      ·rw [HFT.out, List.length_append]
      ·rw [HFT.out, List.length_append]; exact H3.out
     case measure => simp only [intOf]; omega
    ·obtain rfl : k = L.length := by omega
     have HO := Lib.hid hown
     clear hown
     go_wp2_with fail
     go_ret
     have h := HO.out
     rw [List.take_length, ← HN.out] at h ⊢
     exact ⟨A, cp, rfl, h, hb⟩
end Go.Proofs.YthhckdjagnlgpaaGreat
end
