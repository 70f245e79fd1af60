/-
 Lists of rows held against each other; few rows.
-/
import Derived.Test.YtkobmnbjeppnaaaGreatTc
namespace Go.Proofs.YtkobmnbjeppnaaaGreat
open Go.RowKit Go.IntWalk
open Wd Fl
set_option maxRecDepth 100000
attribute [local go_sem] Oper.semAt_some
def sameP : List Rw → List Rw → Bool
 | [], [] => true
 | a :: l, b :: m => alikeP a b && sameP l m
 | _, _ => false
theorem sameP_len : ∀ {l m : List Rw}, l.length ≠ m.length → sameP l m = false
 | [], [], h => by simp at h
 | [], _ :: _, _ => rfl
 | _ :: _, [], _ => rfl
 | a :: l, b :: m, h => by rw [sameP, sameP_len (l := l) (m := m) (by simpa using h), Bool.and_false]
theorem sameP_step {l m : List Rw} {k : Nat} {a b : Rw} (ha : l[k]? = some a) (hb : m[k]? = some b) : sameP (l.drop k) (m.drop k) = (alikeP a b && sameP (l.drop (k + 1)) (m.drop (k + 1))) := by
 have h1 := (List.getElem?_eq_some_iff.1 ha).1
 have h2 := (List.getElem?_eq_some_iff.1 ha).2
 have h3 := (List.getElem?_eq_some_iff.1 hb).1
 have h4 := (List.getElem?_eq_some_iff.1 hb).2
 rw [List.drop_eq_getElem_cons h1, List.drop_eq_getElem_cons h3, h2, h4, sameP]
set_option maxHeartbeats 4000000 in
theorem equalFunc_c (A1 A2 : Option Addr) (c1 c2 : Nat) (xs ys : List Rw) (hx : xs.length ≤ maxLen) (hy : ys.length ≤ maxLen) (hwx : Rows_ xs) (hwy : Rows_ ys) (w : World) (h1 : At w w.heap.size A1 (tvs xs)) (h2 : At w w.heap.size A2 (tvs ys)) :
  Calls Tryz.prog 42 #[.slice A1 xs.length c1, .slice A2 ys.length c2, .func (.func 43) #[] #[]] w fun e w' => e = .returned (.bool (sameP xs ys)) ∧ Below w.heap.size w w' := by
 unfold maxLen at hx hy
 have H1 := Lib.hid h1
 have H2 := Lib.hid h2
 have WX := Lib.hid hwx
 have WY := Lib.hid hwy
 clear h1 h2 hwx hwy
 by_cases hl : xs.length = ys.length
 ·obtain ⟨n, hn⟩ : ∃ n, n = ys.length := ⟨_, rfl⟩
  have hn1 : xs.length = n := by omega
  obtain ⟨R, hR⟩ : ∃ R, sameP xs ys = R := ⟨_, rfl⟩
  rw [hR]
  have HR := Lib.hid hR
  rw [← hn, hn1]
  rw [hn1] at hx hl
  rw [← hn] at hy hl
  have HN := Lib.hid hn
  have HN1 := Lib.hid hn1
  clear hn hn1 hR hl
  go_enter Tryz.func42, Tryz.ntmps42
  go_wp2_with fail
  go_loopw [17] (fun i wr => ∃ k : Nat, i = .int .i64 (k : Int) ∧ k ≤ n ∧ sameP (xs.drop k) (ys.drop k) = R ∧ Below w.heap.size w wr) (fun i _ => n - (intOf i).toNat)
  case atStart => exact ⟨0, rfl, Nat.zero_le _, HR.out, Below.refl _ _⟩
  case round =>
   obtain ⟨k, rfl, hk, heq, hb⟩ := hrel
   have hbs := hb.size
   have HE := Lib.hid heq
   clear heq
   by_cases hlt : k < n
   ·obtain ⟨x, hxk⟩ := some_at (show k < xs.length by rw [HN1.out]; exact hlt)
    obtain ⟨y, hyk⟩ := some_at (show k < ys.length by rw [← HN.out]; exact hlt)
    obtain ⟨b1, o1, rfl, hb1, x0, x1, x2, x3⟩ := row_cells (H1.out.below hb) hxk
    obtain ⟨b2, o2, rfl, hb2, y0, y1, y2, y3⟩ := row_cells (H2.out.below hb) hyk
    have hst := sameP_step hxk hyk
    rw [HE.out] at hst
    have hx64 := (WX.out x (mem_at hxk)).1
    have hy64 := (WY.out y (mem_at hyk)).1
    have hba := (hb.alloc hbs (.cells #[.int .i64 (ch x), .int .i64 (pa x), .string (ba (nm x)), .float .f64 (rk x)] 28)).alloc (by simp; omega) (.cells #[.int .i64 (ch y), .int .i64 (pa y), .string (ba (nm y)), .float .f64 (rk y)] 28)
    have e0 : (wr.alloc (.cells #[.int .i64 (ch x), .int .i64 (pa x), .string (ba (nm x)), .float .f64 (rk x)] 28)).cell? ⟨b2, o2 + k * 4, none⟩ = some (.int .i64 (ch y)) := keep_cell ((Below.refl _ _).alloc (Nat.le_refl _) _) y0
    have e1 : (wr.alloc (.cells #[.int .i64 (ch x), .int .i64 (pa x), .string (ba (nm x)), .float .f64 (rk x)] 28)).cell? ⟨b2, o2 + k * 4 + 1, none⟩ = some (.int .i64 (pa y)) := keep_cell ((Below.refl _ _).alloc (Nat.le_refl _) _) y1
    have e2 : (wr.alloc (.cells #[.int .i64 (ch x), .int .i64 (pa x), .string (ba (nm x)), .float .f64 (rk x)] 28)).cell? ⟨b2, o2 + k * 4 + 2, none⟩ = some (.string (ba (nm y))) := keep_cell ((Below.refl _ _).alloc (Nat.le_refl _) _) y2
    have e3 : (wr.alloc (.cells #[.int .i64 (ch x), .int .i64 (pa x), .string (ba (nm x)), .float .f64 (rk x)] 28)).cell? ⟨b2, o2 + k * 4 + 3, none⟩ = some (.float .f64 (rk y)) := keep_cell ((Below.refl _ _).alloc (Nat.le_refl _) _) y3
    have HST := Lib.hid hst
    have hcall := fun W => sameF_c x y hx64 hy64 W
    unfold rv at hcall
    obtain ⟨q, hq⟩ : ∃ q, alikeP x y = q := ⟨_, rfl⟩
    rw [hq] at hcall
    have HQ := Lib.hid hq
    have HCALL := Lib.hid hcall
    clear hst hxk hyk hq hcall
    cases q
    ·go_wp2_with fail
     refine (HCALL.out _).mono ?_
     rintro e w5 ⟨rfl, hm⟩
     go_wp2_with fail
     go_ret
     refine ⟨ret_bool ?_, hba.trans (hm.mono hba.size)⟩
     rw [HST.out, HQ.out]; rfl
    ·go_wp2_with fail
     refine (HCALL.out _).mono ?_
     rintro e w5 ⟨rfl, hm⟩
     go_wp2_with fail
     go_roundw
     case rel => exact ⟨k + 1, by go_num, by omega, by rw [HST.out, HQ.out]; rfl, hba.trans (hm.mono hba.size)⟩
     case measure => simp only [intOf]; omega
   ·obtain rfl : k = n := by omega
    have h := HE.out
    rw [List.drop_of_length_le (by rw [HN1.out]; exact Nat.le_refl _), List.drop_of_length_le (by rw [← HN.out]; exact Nat.le_refl _)] at h
    have HH := Lib.hid h
    clear h
    go_wp2_with fail
    go_ret
    exact ⟨ret_bool HH.out, hb⟩
 ·have hs := sameP_len hl
  have ht : ((xs.length : Int) != (ys.length : Int)) = true := by simp only [bne_iff_ne, ne_eq]; omega
  have HS := Lib.hid hs
  clear hl hs
  go_enter Tryz.func42, Tryz.ntmps42
  go_wp2_with fail
  go_ret
  exact ⟨ret_bool HS.out.symm, Below.refl _ _⟩
theorem tsame_c (A1 A2 : Option Addr) (c1 c2 : Nat) (xs ys : List Rw) (hx : xs.length ≤ maxLen) (hy : ys.length ≤ maxLen) (hwx : Rows_ xs) (hwy : Rows_ ys) (w : World) (h1 : At w w.heap.size A1 (tvs xs)) (h2 : At w w.heap.size A2 (tvs ys)) :
  Calls Tryz.prog 18 #[.slice A1 xs.length c1, .slice A2 ys.length c2] w fun e w' => e = .returned (.bool (sameP xs ys)) ∧ Below w.heap.size w w' := by
 have HCALL := Lib.hid (equalFunc_c A1 A2 c1 c2 xs ys hx hy hwx hwy w h1 h2)
 clear h1 h2
 go_enter Tryz.func18, Tryz.ntmps18
 go_wp2_with fail
 refine HCALL.out.mono ?_
 rintro e w1 ⟨rfl, hb1⟩
 go_wp2_with fail
 go_ret
 exact ⟨rfl, hb1⟩
theorem eight_go {p0 p1 p2 p3 q0 q1 q2 q3 : Addr} {a0 a1 a2 a3 b0 b1 b2 b3 : Value} {w w1 w2 : World}
  (h : (w1.cell? p0 = some a0 ∧ w1.cell? p1 = some a1 ∧ w1.cell? p2 = some a2 ∧ w1.cell? p3 = some a3) ∧ (w1.cell? q0 = some b0 ∧ w1.cell? q1 = some b1 ∧ w1.cell? q2 = some b2 ∧ w1.cell? q3 = some b3) ∧ Below w.heap.size w w1) (hb : Below w1.heap.size w1 w2) :
  (w2.cell? p0 = some a0 ∧ w2.cell? p1 = some a1 ∧ w2.cell? p2 = some a2 ∧ w2.cell? p3 = some a3) ∧ (w2.cell? q0 = some b0 ∧ w2.cell? q1 = some b1 ∧ w2.cell? q2 = some b2 ∧ w2.cell? q3 = some b3) ∧ Below w.heap.size w w2 :=
 ⟨⟨keep_cell hb h.1.1, keep_cell hb h.1.2.1, keep_cell hb h.1.2.2.1, keep_cell hb h.1.2.2.2⟩, ⟨keep_cell hb h.2.1.1, keep_cell hb h.2.1.2.1, keep_cell hb h.2.1.2.2.1, keep_cell hb h.2.1.2.2.2⟩, h.2.2.trans (hb.mono h.2.2.size)⟩
theorem eight_below {p0 p1 p2 p3 q0 q1 q2 q3 : Addr} {a0 a1 a2 a3 b0 b1 b2 b3 : Value} {w w1 : World}
  (h : (w1.cell? p0 = some a0 ∧ w1.cell? p1 = some a1 ∧ w1.cell? p2 = some a2 ∧ w1.cell? p3 = some a3) ∧ (w1.cell? q0 = some b0 ∧ w1.cell? q1 = some b1 ∧ w1.cell? q2 = some b2 ∧ w1.cell? q3 = some b3) ∧ Below w.heap.size w w1) : Below w.heap.size w w1 := h.2.2
set_option maxHeartbeats 4000000 in
theorem rsame_c (A1 A2 : Option Addr) (c1 c2 : Nat) (xs ys : List Rw) (hx : xs.length ≤ maxLen) (hy : ys.length ≤ maxLen) (hwx : Rows_ xs) (hwy : Rows_ ys) (w : World) (h1 : At w w.heap.size A1 (tvs xs)) (h2 : At w w.heap.size A2 (tvs ys)) :
  Calls Tryz.prog 19 #[.slice A1 xs.length c1, .slice A2 ys.length c2] w fun e w' => e = .returned (.bool (sameP xs ys)) ∧ Below w.heap.size w w' := by
 unfold maxLen at hx hy
 have H1 := Lib.hid h1
 have H2 := Lib.hid h2
 have WX := Lib.hid hwx
 have WY := Lib.hid hwy
 clear h1 h2 hwx hwy
 by_cases hl : xs.length = ys.length
 ·obtain ⟨n, hn⟩ : ∃ n, n = ys.length := ⟨_, rfl⟩
  have hn1 : xs.length = n := by omega
  obtain ⟨R, hR⟩ : ∃ R, sameP xs ys = R := ⟨_, rfl⟩
  rw [hR]
  have HR := Lib.hid hR
  rw [← hn, hn1]
  rw [hn1] at hx hl
  rw [← hn] at hy hl
  have HN := Lib.hid hn
  have HN1 := Lib.hid hn1
  clear hn hn1 hR hl
  go_enter Tryz.func19, Tryz.ntmps19
  go_wp2_with fail
  go_loopw [5] (fun i wr => ∃ k : Nat, i = .int .i64 (k : Int) ∧ k ≤ n ∧ sameP (xs.drop k) (ys.drop k) = R ∧ Below w.heap.size w wr) (fun i _ => n - (intOf i).toNat)
  case atStart => exact ⟨0, rfl, Nat.zero_le _, HR.out, Below.refl _ _⟩
  case round =>
   obtain ⟨k, rfl, hk, heq, hb⟩ := hrel
   have hbs := hb.size
   have HE := Lib.hid heq
   clear heq
   by_cases hlt : k < n
   ·obtain ⟨x, hxk⟩ := some_at (show k < xs.length by rw [HN1.out]; exact hlt)
    obtain ⟨y, hyk⟩ := some_at (show k < ys.length by rw [← HN.out]; exact hlt)
    obtain ⟨b1, o1, rfl, hb1, x0, x1, x2, x3⟩ := row_cells (H1.out.below hb) hxk
    obtain ⟨b2, o2, rfl, hb2, y0, y1, y2, y3⟩ := row_cells (H2.out.below hb) hyk
    have hst := sameP_step hxk hyk
    rw [HE.out] at hst
    have hx64 := (WX.out x (mem_at hxk)).1
    have hy64 := (WY.out y (mem_at hyk)).1
    have HST := Lib.hid hst
    have hcall := fun W => alike_c x y hx64 hy64 W
    unfold rv at hcall
    obtain ⟨q, hq⟩ : ∃ q, alikeP x y = q := ⟨_, rfl⟩
    rw [hq] at hcall
    have HQ := Lib.hid hq
    have HCALL := Lib.hid hcall
    have hki : (0 : Int) ≤ (k : Int) := by omega
    have hkn : (k : Int) < (n : Int) := by omega
    clear hst hxk hyk hq hcall
    cases q
    ·skip
     go_wp2_with fail
     go_region_held3 (fun w' => (w'.cell? ⟨b1, o1 + k * 4, none⟩ = some (.int .i64 (ch x)) ∧ w'.cell? ⟨b1, o1 + k * 4 + 1, none⟩ = some (.int .i64 (pa x)) ∧ w'.cell? ⟨b1, o1 + k * 4 + 2, none⟩ = some (.string (ba (nm x))) ∧ w'.cell? ⟨b1, o1 + k * 4 + 3, none⟩ = some (.float .f64 (rk x))) ∧ (w'.cell? ⟨b2, o2 + k * 4, none⟩ = some (.int .i64 (ch y)) ∧ w'.cell? ⟨b2, o2 + k * 4 + 1, none⟩ = some (.int .i64 (pa y)) ∧ w'.cell? ⟨b2, o2 + k * 4 + 2, none⟩ = some (.string (ba (nm y))) ∧ w'.cell? ⟨b2, o2 + k * 4 + 3, none⟩ = some (.float .f64 (rk y))) ∧ Below w.heap.size w w')
      (first
       | assumption
       | (exact eight_go (by assumption) hbn)
       | (exact eight_go ⟨⟨x0, x1, x2, x3⟩, ⟨y0, y1, y2, y3⟩, hb⟩ (Below.refl _ _).drew)
       | (exact eight_go (by assumption) (Below.refl _ _).drew)
       | go_keep)
      (first | (go_at_call 20; refine (HCALL.out _).mono ?_; rintro e w5 ⟨rfl, hbn⟩))
     have hbe : Below w.heap.size w w5 := eight_below (by assumption)
     go_wp2_with fail
     go_ret
     refine ⟨ret_bool ?_, hbe⟩
     rw [HST.out, HQ.out]; rfl
    ·skip
     go_wp2_with fail
     go_region_held3 (fun w' => (w'.cell? ⟨b1, o1 + k * 4, none⟩ = some (.int .i64 (ch x)) ∧ w'.cell? ⟨b1, o1 + k * 4 + 1, none⟩ = some (.int .i64 (pa x)) ∧ w'.cell? ⟨b1, o1 + k * 4 + 2, none⟩ = some (.string (ba (nm x))) ∧ w'.cell? ⟨b1, o1 + k * 4 + 3, none⟩ = some (.float .f64 (rk x))) ∧ (w'.cell? ⟨b2, o2 + k * 4, none⟩ = some (.int .i64 (ch y)) ∧ w'.cell? ⟨b2, o2 + k * 4 + 1, none⟩ = some (.int .i64 (pa y)) ∧ w'.cell? ⟨b2, o2 + k * 4 + 2, none⟩ = some (.string (ba (nm y))) ∧ w'.cell? ⟨b2, o2 + k * 4 + 3, none⟩ = some (.float .f64 (rk y))) ∧ Below w.heap.size w w')
      (first
       | assumption
       | (exact eight_go (by assumption) hbn)
       | (exact eight_go ⟨⟨x0, x1, x2, x3⟩, ⟨y0, y1, y2, y3⟩, hb⟩ (Below.refl _ _).drew)
       | (exact eight_go (by assumption) (Below.refl _ _).drew)
       | go_keep)
      (first | (go_at_call 20; refine (HCALL.out _).mono ?_; rintro e w5 ⟨rfl, hbn⟩))
     have hbe : Below w.heap.size w w5 := eight_below (by assumption)
     go_wp2_with fail
     go_roundw
     case rel => exact ⟨k + 1, by go_num, by omega, by rw [HST.out, HQ.out]; rfl, hbe⟩
     case measure => simp only [intOf]; omega
   ·obtain rfl : k = n := by omega
    have h := HE.out
    rw [List.drop_of_length_le (by rw [HN1.out]; exact Nat.le_refl _), List.drop_of_length_le (by rw [← HN.out]; exact Nat.le_refl _)] at h
    have HH := Lib.hid h
    clear h
    go_wp2_with fail
    go_ret
    exact ⟨ret_bool HH.out, hb⟩
 ·have hs := sameP_len hl
  have ht : ((xs.length : Int) != (ys.length : Int)) = true := by simp only [bne_iff_ne, ne_eq]; omega
  have HS := Lib.hid hs
  clear hl hs
  go_enter Tryz.func19, Tryz.ntmps19
  go_wp2_with fail
  go_ret
  exact ⟨ret_bool HS.out.symm, Below.refl _ _⟩
def few (l : List Rw) : Bool := decide (l.length ≤ 60) && l.all fun r => decide ((nm r).length ≤ 100)
theorem few_step {l : List Rw} {i : Nat} {c : Rw} (h : l[i]? = some c) : ((l.drop i).all fun r => decide ((nm r).length ≤ 100)) = (decide ((nm c).length ≤ 100) && (l.drop (i + 1)).all fun r => decide ((nm r).length ≤ 100)) := by
 have hk := (List.getElem?_eq_some_iff.1 h).1
 have hc := (List.getElem?_eq_some_iff.1 h).2
 rw [List.drop_eq_getElem_cons hk, hc, List.all_cons]
theorem few_in {l : List Rw} (h : few l = true) : l.length ≤ 60 ∧ ∀ r ∈ l, (nm r).length ≤ 100 := by
 simp only [few, Bool.and_eq_true, decide_eq_true_eq, List.all_eq_true] at h
 exact h
theorem few_c (A : Option Addr) (cap : Nat) (l : List Rw) (hl : l.length ≤ maxLen) (w : World) (hc : At w w.heap.size A (tvs l)) :
  Calls Tryz.prog 10 #[.slice A l.length cap] w fun e w' => e = .returned (.bool (few l)) ∧ w = w' := by
 unfold maxLen at hl
 obtain ⟨r, hr⟩ : ∃ r, r = few l := ⟨_, rfl⟩
 rw [← hr]
 have hr0 := hr
 unfold few at hr0
 have HC := Lib.hid hc
 clear hr hc
 by_cases h20 : 60 < l.length
 ·rw [decide_eq_false (show ¬ l.length ≤ 60 by omega), Bool.false_and] at hr0
  subst hr0
  go_enter Tryz.func10, Tryz.ntmps10
  go_wp2_with fail
  go_ret
  exact ⟨rfl, rfl⟩
 ·rw [decide_eq_true (show l.length ≤ 60 by omega), Bool.true_and] at hr0
  have HR := Lib.hid hr0
  clear hr0
  go_enter Tryz.func10, Tryz.ntmps10
  go_wp2_with fail
  go_loopw [3] (fun i wr => ∃ j : Nat, i = .int .i64 (j : Int) ∧ j ≤ l.length ∧ ((l.drop j).all fun r => decide ((nm r).length ≤ 100)) = r ∧ wr = w)
   (fun i _ => l.length - (intOf i).toNat)
  case atStart => exact ⟨0, rfl, Nat.zero_le _, HR.out.symm, rfl⟩
  case round =>
   obtain ⟨j, rfl, hj, hf, rfl⟩ := hrel
   by_cases hlt : j < l.length
   ·obtain ⟨c, hcj⟩ := some_at hlt
    obtain ⟨b0, o0, rfl, hb0, -, -, c1, -⟩ := row_cells HC.out hcj
    rw [few_step hcj] at hf
    have hsz := ba_size (nm c)
    have HF := Lib.hid hf
    clear hf hcj
    by_cases hk : 100 < (nm c).length
    ·go_wp2_with fail
     go_ret
     have := HF.out
     rw [decide_eq_false (show ¬ (nm c).length ≤ 100 by omega), Bool.false_and] at this
     exact ⟨ret_bool this, rfl⟩
    ·go_wp2_with fail
     go_roundw
     case rel => exact ⟨j + 1, by go_num, by omega, by rw [← HF.out, decide_eq_true (show (nm c).length ≤ 100 by omega), Bool.true_and], by first | rfl | trivial⟩
     case measure => simp only [intOf]; omega
   ·obtain rfl : j = l.length := by omega
    rw [List.drop_length] at hf
    have HF := Lib.hid hf
    clear hf
    go_wp2_with fail
    go_ret
    exact ⟨ret_bool HF.out, rfl⟩
end Go.Proofs.YtkobmnbjeppnaaaGreat
