/-
 Who is above whom: the document's.
 What may be a tree: the document's.
-/
import Derived.Test.YtkobmnbjeppnaaaGreatTi
import Derived.Deep.QuietTactic
import Derived.BigQuiet
section
namespace Go.Proofs.YtkobmnbjeppnaaaGreat
open Go.RowKit Go.IntWalk
set_option maxRecDepth 100000
attribute [local go_sem] Oper.semAt_some
/-- is a above b within n steps -/
def abv (l : List Rw) (a : Int) : Nat → Int → Bool
 | 0, _ => false
 | n + 1, b => match fnd l b with
  | none => false
  | some r => if pa r = a then true else abv l a n (pa r)
theorem rfind_none {A : Option Addr} {cap : Nat} {l : List Rw} {c : Int} (h : fnd l c = none) (hl : l.length ≤ maxLen) {w : World} (hc : At w w.heap.size A (tvs l)) :
  Calls Tryz.prog 15 #[.slice A l.length cap, .int .i64 c] w fun e w' => e = .returned (.tuple #[.agg #[.int .i64 0, .int .i64 0, .string ⟨#[]⟩, .float .f64 0], .bool false]) ∧ Below w.heap.size w w' :=
 (rfind_c A cap l c hl w hc).mono fun e w' ⟨h1, h2⟩ => ⟨by rw [h1, h]; rfl, h2⟩
theorem rfind_some {A : Option Addr} {cap : Nat} {l : List Rw} {c : Int} {r : Rw} (h : fnd l c = some r) (hl : l.length ≤ maxLen) {w : World} (hc : At w w.heap.size A (tvs l)) :
  Calls Tryz.prog 15 #[.slice A l.length cap, .int .i64 c] w fun e w' => e = .returned (.tuple #[.agg #[.int .i64 (ch r), .int .i64 (pa r), .string (ba (nm r)), .float .f64 (rk r)], .bool true]) ∧ Below w.heap.size w w' :=
 (rfind_c A cap l c hl w hc).mono fun e w' ⟨h1, h2⟩ => ⟨by rw [h1, h]; rfl, h2⟩
set_option maxHeartbeats 4000000 in
theorem rabove_c (A : Option Addr) (cap : Nat) (l : List Rw) (a b : Int) (hl : l.length ≤ maxLen) (w : World) (hc : At w w.heap.size A (tvs l)) :
  Calls Tryz.prog 28 #[.slice A l.length cap, .int .i64 a, .int .i64 b] w fun e w' => e = .returned (.bool (abv l a l.length b)) ∧ Below w.heap.size w w' := by
 obtain ⟨R, hR⟩ : ∃ R, abv l a l.length b = R := ⟨_, rfl⟩
 rw [hR]
 have HR := Lib.hid hR
 have HC := Lib.hid hc
 have HL := Lib.hid hl
 unfold maxLen at hl
 clear hR hc
 go_enter Tryz.func28, Tryz.ntmps28
 go_wp2_with fail
 go_loopw [2, 7] (fun y i wr => ∃ (k : Nat) (c : Int), i = .int .i64 (k : Int) ∧ y = .int .i64 c ∧ k ≤ l.length ∧ abv l a (l.length - k) c = R ∧ Below w.heap.size w wr) (fun _ i _ => l.length - (intOf i).toNat)
 case atStart => exact ⟨0, b, rfl, rfl, Nat.zero_le _, HR.out, Below.refl _ _⟩
 case round =>
  obtain ⟨k, c, rfl, rfl, hk, hab, hbw⟩ := hrel
  by_cases hlt : k < l.length
  ·have hcw := HC.out.keep hbw
   obtain ⟨m, hm⟩ : ∃ m, l.length - k = m + 1 := ⟨l.length - k - 1, by omega⟩
   rw [hm] at hab
   have HAB := Lib.hid hab
   have HM := Lib.hid hm
   clear hab hm
   cases hf : fnd l c with
   | none =>
    have HF := Lib.hid hf
    clear hf
    go_wp2_with fail
    refine (rfind_none HF.out HL.out hcw).mono ?_
    rintro e w1 ⟨rfl, hb1⟩
    have hbw1 := hbw.trans (hb1.mono hbw.size)
    clear hb1 hcw hbw
    go_wp2_with fail
    go_ret
    refine ⟨?_, hbw1.alloc hbw1.size _⟩
    have h := HAB.out
    rw [abv, HF.out] at h
    rw [← h]; rfl
   | some r =>
    have HF := Lib.hid hf
    clear hf
    by_cases hq : pa r = a
    ·have hqb : (pa r == a) = true := by simpa using hq
     have HQ := Lib.hid hq
     clear hq
     go_wp2_with fail
     refine (rfind_some HF.out HL.out hcw).mono ?_
     rintro e w1 ⟨rfl, hb1⟩
     have hbw1 := hbw.trans (hb1.mono hbw.size)
     clear hb1 hcw hbw
     go_wp2_with fail
     go_ret
     refine ⟨?_, hbw1.alloc hbw1.size _⟩
     have h := HAB.out
     simp only [abv, HF.out, HQ.out, if_true] at h
     rw [← h]; rfl
    ·have hqb : (pa r == a) = false := by simpa using hq
     have HQ := Lib.hid hq
     clear hq
     go_wp2_with fail
     refine (rfind_some HF.out HL.out hcw).mono ?_
     rintro e w1 ⟨rfl, hb1⟩
     have hbw1 := hbw.trans (hb1.mono hbw.size)
     clear hb1 hcw hbw
     go_wp2_with fail
     go_roundw
     case rel =>
      refine ⟨k + 1, pa r, by go_num, rfl, by omega, ?_, hbw1.alloc hbw1.size _⟩
      have h := HAB.out
      simp only [abv, HF.out, HQ.out, if_false] at h
      rw [show l.length - (k + 1) = m by have := HM.out; omega]
      exact h
     case measure => simp only [intOf]; omega
  ·obtain rfl : k = l.length := by omega
   rw [Nat.sub_self] at hab
   have HAB := Lib.hid hab
   clear hab
   go_wp2_with fail
   go_ret
   exact ⟨by rw [← HAB.out]; rfl, hbw⟩
end Go.Proofs.YtkobmnbjeppnaaaGreat
end
section
namespace Go.Proofs.YtkobmnbjeppnaaaGreat
open Go.RowKit Go.IntWalk
set_option maxRecDepth 100000
attribute [local go_sem] Oper.semAt_some
/-- a region that only reads but for calls that keep C -/
theorem quiet_held {P : Program} {id : Nat} {Q : Exit → Act → World → Prop} {a : Act} {w : World} {l : List Oper} (C : World → Prop) (hm : P.follows .mixedOrders = true) (hB : Region.lexB .any l.toArray = true) (hC : C w.drew)
  (h : wpQuiet P l.toArray C (fun a' => ∀ w', C w' → Q .normal a' w') l a) : (Code.region id l.toArray true).wp P Q a w :=
 wp_region_quiet (C := C) hm hB hC (by simpa using h)
/-- the row at a place may be there, behind the one ahead of it -/
def stepOk (l : List Rw) (j : Nat) : Bool := match l[j]? with
 | none => true
 | some r => oneP r && (match j with
  | 0 => true
  | i + 1 => match l[i]? with
   | some s => decide (ch s < ch r)
   | none => true)
def mayB (l : List Rw) : Bool := decide (l.length ≤ 2000) && ((List.range l.length).all (stepOk l) && l.all fun r => !abv l (ch r) l.length (ch r))
theorem mayB_long {l : List Rw} (h : 2000 < l.length) : mayB l = false := by
 unfold mayB
 rw [decide_eq_false (by omega), Bool.false_and]
theorem mayB_bad {l : List Rw} {k : Nat} (hk : k < l.length) (h : stepOk l k = false) : mayB l = false := by
 unfold mayB
 rw [show (List.range l.length).all (stepOk l) = false by
  rw [List.all_eq_false]
  exact ⟨k, List.mem_range.2 hk, by rw [h]; simp⟩, Bool.false_and, Bool.and_false]
theorem mayB_above {l : List Rw} {r : Rw} (hr : r ∈ l) (h : abv l (ch r) l.length (ch r) = true) : mayB l = false := by
 unfold mayB
 rw [show (l.all fun r => !abv l (ch r) l.length (ch r)) = false by
  rw [List.all_eq_false]
  exact ⟨r, hr, by rw [h]; simp⟩, Bool.and_false, Bool.and_false]
theorem mayB_good {l : List Rw} (h1 : l.length ≤ 2000) (h2 : ∀ j, j < l.length → stepOk l j = true) (h3 : ∀ k, k < l.length → ∀ r, l[k]? = some r → abv l (ch r) l.length (ch r) = false) : mayB l = true := by
 unfold mayB
 rw [decide_eq_true h1, Bool.true_and, Bool.and_eq_true]
 refine ⟨List.all_eq_true.2 fun j hj => h2 j (List.mem_range.1 hj), List.all_eq_true.2 fun r hr => ?_⟩
 obtain ⟨k, hk, e⟩ := List.mem_iff_getElem.1 hr
 rw [h3 k hk r (by rw [List.getElem?_eq_getElem hk, e])]
 rfl
theorem step_one {l : List Rw} {k : Nat} {r : Rw} (hr : l[k]? = some r) (h : oneP r = false) : stepOk l k = false := by
 unfold stepOk
 rw [hr]
 simp only [h, Bool.false_and]
theorem step_first {l : List Rw} {r : Rw} (hr : l[0]? = some r) (h : oneP r = true) : stepOk l 0 = true := by
 unfold stepOk
 rw [hr]
 simp only [h, Bool.true_and]
theorem step_next {l : List Rw} {i : Nat} {r s : Rw} (hr : l[i + 1]? = some r) (hs : l[i]? = some s) (h : oneP r = true) : stepOk l (i + 1) = decide (ch s < ch r) := by
 unfold stepOk
 rw [hr]
 simp only [h, Bool.true_and, hs]
theorem mayB_iff (l : List Rw) : mayB l = true ↔ l.length ≤ 2000 ∧ (∀ j, j < l.length → stepOk l j = true) ∧ ∀ r ∈ l, abv l (ch r) l.length (ch r) = false := by
 unfold mayB
 simp only [Bool.and_eq_true, decide_eq_true_eq, List.all_eq_true, List.mem_range, Bool.not_eq_true']
theorem rone_k {r : Rw} {b : Bool} (h : oneP r = b) (hn : (nm r).length ≤ maxLen) (w : World) :
  Calls Tryz.prog 13 #[.agg #[.int .i64 (ch r), .int .i64 (pa r), .string (ba (nm r)), .float .f64 (rk r)]] w fun e w' => e = .returned (.bool b) ∧ Below w.heap.size w w' := by
 subst h
 exact rone_c r hn w
theorem rabove_k {A : Option Addr} {cap : Nat} {l : List Rw} {a b : Int} (x : Bool) (h : abv l a l.length b = x) (hl : l.length ≤ maxLen) {w : World} (hc : At w w.heap.size A (tvs l)) :
  Calls Tryz.prog 28 #[.slice A l.length cap, .int .i64 a, .int .i64 b] w fun e w' => e = .returned (.bool x) ∧ Below w.heap.size w w' := by
 subst h
 exact rabove_c A cap l a b hl w hc
theorem rows_keep {A : Option Addr} {l : List Rw} {w w1 w2 : World} (h : At w1 w1.heap.size A (tvs l) ∧ Below w.heap.size w w1) (hb : Below w1.heap.size w1 w2) : At w2 w2.heap.size A (tvs l) ∧ Below w.heap.size w w2 :=
 ⟨h.1.keep hb, h.2.trans (hb.mono h.2.size)⟩
set_option maxHeartbeats 8000000 in
theorem rmay_c (A : Option Addr) (cap : Nat) (l : List Rw) (hl : l.length ≤ maxLen) (hn : ∀ r ∈ l, (nm r).length ≤ maxLen) (w : World) (hc : At w w.heap.size A (tvs l)) :
  Calls Tryz.prog 17 #[.slice A l.length cap] w fun e w' => e = .returned (.bool (mayB l)) ∧ Below w.heap.size w w' := by
 obtain ⟨R, hR⟩ : ∃ R, mayB l = R := ⟨_, rfl⟩
 rw [hR]
 have HR := Lib.hid hR
 have HC := Lib.hid hc
 have HL := Lib.hid hl
 have HN := Lib.hid hn
 unfold maxLen at hl
 clear hR hc hn
 by_cases hlong : 2000 < l.length
 ·have hli : (2000 : Int) < (l.length : Int) := by omega
  go_enter Tryz.func17, Tryz.ntmps17
  go_wp2_with fail
  go_ret
  exact ⟨by rw [← HR.out, mayB_long hlong]; rfl, Below.refl _ _⟩
 ·go_enter Tryz.func17, Tryz.ntmps17
  go_wp2_with fail
  go_loopw [3] (fun i wr => ∃ k : Nat, i = .int .i64 (k : Int) ∧ k ≤ l.length ∧ (∀ j, j < k → stepOk l j = true) ∧ Below w.heap.size w wr) (fun i _ => l.length - (intOf i).toNat)
  case atStart => exact ⟨0, rfl, Nat.zero_le _, fun j hj => absurd hj (Nat.not_lt_zero _), Below.refl _ _⟩
  case round =>
   obtain ⟨k, rfl, hk, hok, hbw⟩ := hrel
   have HOK := Lib.hid hok
   clear hok
   by_cases hlt : k < l.length
   ·obtain ⟨r, hr⟩ := some_at hlt
    have hcw := HC.out.keep hbw
    obtain ⟨b0, o0, rfl, hb0, c0, c1, c2, c3⟩ := row_cells hcw hr
    have hnr := HN.out r (mem_at hr)
    have hki : (0 : Int) ≤ (k : Int) := by omega
    have hkl : (k : Int) < (l.length : Int) := by omega
    have HX := Lib.hid hr
    cases ho : oneP r with
    | false =>
     have HO := Lib.hid ho
     clear ho hr
     go_wp2_with fail
     refine quiet_held (fun w' => At w' w'.heap.size (some ⟨b0, o0, none⟩) (tvs l) ∧ Below w.heap.size w w') (by kernel_rfl) (by kernel_rfl) ⟨at_drewE hcw ⟨1, rfl⟩, hbw.drew⟩ ?_
     repeat (first
      | go_big_quiet_skip
      | (go_big_quiet_want; go_big_quiet_op; go_big_quiet_on)
      | (go_big_quiet_want; apply Exists.intro; refine ⟨fun wq hq => ?_, ?_⟩; (focus (obtain ⟨b9, o9, e9, -, d0, d1, d2, d3⟩ := row_cells hq.1 HX.out; cases e9; unfold Oper.quietAt; go_simp; all_goals (first | rfl | (refine (rone_k HO.out hnr _).mono ?_; rintro e w5 ⟨rfl, hbn⟩; exact ⟨rfl, rows_keep hq hbn⟩)))); simp only [Act.put, List.setIfInBounds_toArray, List.set_cons_zero, List.set_cons_succ]; go_big_quiet_on))
     refine wpQuiet_nil ?_
     intro wq hq
     obtain ⟨-, hwq⟩ := hq
     go_wp2_with fail
     go_ret
     exact ⟨by rw [← HR.out, mayB_bad hlt (step_one HX.out HO.out)]; rfl, hwq⟩
    | true =>
     have HO := Lib.hid ho
     clear ho hr
     by_cases hk0 : k = 0
     ·have hd : decide (0 < k) = false := decide_eq_false (by omega)
      have HK0 := Lib.hid hk0
      clear hk0
      go_wp2_with fail
      refine quiet_held (fun w' => At w' w'.heap.size (some ⟨b0, o0, none⟩) (tvs l) ∧ Below w.heap.size w w') (by kernel_rfl) (by kernel_rfl) ⟨at_drewE hcw ⟨1, rfl⟩, hbw.drew⟩ ?_
      repeat (first
       | go_big_quiet_skip
       | (simp only [hd])
       | (go_big_quiet_want; go_big_quiet_op; go_big_quiet_on)
       | (go_big_quiet_want; apply Exists.intro; refine ⟨fun wq hq => ?_, ?_⟩; (focus (obtain ⟨b9, o9, e9, -, d0, d1, d2, d3⟩ := row_cells hq.1 HX.out; cases e9; unfold Oper.quietAt; go_simp; all_goals (first | rfl | (refine (rone_k HO.out hnr _).mono ?_; rintro e w5 ⟨rfl, hbn⟩; exact ⟨rfl, rows_keep hq hbn⟩)))); simp only [Act.put, List.setIfInBounds_toArray, List.set_cons_zero, List.set_cons_succ]; go_big_quiet_on))
      refine wpQuiet_nil ?_
      intro wq hq
      obtain ⟨-, hwq⟩ := hq
      go_wp2_with fail
      go_roundw
      case rel =>
       refine ⟨k + 1, by go_num, by omega, fun j hj => ?_, hwq⟩
       have h0 := HK0.out
       subst h0
       obtain rfl : j = 0 := by omega
       exact step_first HX.out HO.out
      case measure => simp only [intOf]; omega
     ·obtain ⟨i, hi⟩ : ∃ i, k = i + 1 := ⟨k - 1, by omega⟩
      obtain ⟨s, hs⟩ := some_at (show i < l.length by omega)
      have hx2 := HX.out
      have hsn : stepOk l k = decide (ch s < ch r) := by rw [hi] at hx2 ⊢; exact step_next hx2 hs HO.out
      have hd : decide (0 < k) = true := decide_eq_true (by omega)
      have hwr : IntKind.i64.wrap ((k : Int) - 1) = (i : Int) := by rw [show (k : Int) - 1 = (i : Int) by omega]; exact IntWalk.i64_in _ (by omega)
      have HI := Lib.hid hi
      clear hi hx2 hk0
      have hi0 : (0 : Int) ≤ (i : Int) := by omega
      have hil : (i : Int) < (l.length : Int) := by have := HI.out; omega
      have HS := Lib.hid hs
      have HSN := Lib.hid hsn
      clear hs hsn
      by_cases hcmp : ch s < ch r
      ·have hdc : decide (ch r ≤ ch s) = false := decide_eq_false (by omega)
       have HCM := Lib.hid hcmp
       clear hcmp
       go_wp2_with fail
       refine quiet_held (fun w' => At w' w'.heap.size (some ⟨b0, o0, none⟩) (tvs l) ∧ Below w.heap.size w w') (by kernel_rfl) (by kernel_rfl) ⟨at_drewE hcw ⟨1, rfl⟩, hbw.drew⟩ ?_
       repeat (first
        | go_big_quiet_skip
        | (simp only [hd])
        | (simp only [hwr])
        | (simp only [hdc])
        | (go_big_quiet_want; go_big_quiet_op; go_big_quiet_on)
        | (go_big_quiet_want; apply Exists.intro; refine ⟨fun wq hq => ?_, ?_⟩; (focus (obtain ⟨b9, o9, e9, -, d0, d1, d2, d3⟩ := row_cells hq.1 HX.out; cases e9; obtain ⟨b9, o9, e9, -, g0, -⟩ := row_cells hq.1 HS.out; cases e9; unfold Oper.quietAt; go_simp; all_goals (first | rfl | (refine (rone_k HO.out hnr _).mono ?_; rintro e w5 ⟨rfl, hbn⟩; exact ⟨rfl, rows_keep hq hbn⟩)))); simp only [Act.put, List.setIfInBounds_toArray, List.set_cons_zero, List.set_cons_succ]; go_big_quiet_on))
       refine wpQuiet_nil ?_
       intro wq hq
       obtain ⟨-, hwq⟩ := hq
       go_wp2_with fail
       go_roundw
       case rel =>
        refine ⟨k + 1, by go_num, by omega, fun j hj => ?_, hwq⟩
        by_cases hj2 : j < k
        ·exact HOK.out j hj2
        ·obtain rfl : j = k := by omega
         rw [HSN.out, decide_eq_true HCM.out]
       case measure => simp only [intOf]; omega
      ·have hdc : decide (ch r ≤ ch s) = true := decide_eq_true (by omega)
       have HCM := Lib.hid hcmp
       clear hcmp
       go_wp2_with fail
       refine quiet_held (fun w' => At w' w'.heap.size (some ⟨b0, o0, none⟩) (tvs l) ∧ Below w.heap.size w w') (by kernel_rfl) (by kernel_rfl) ⟨at_drewE hcw ⟨1, rfl⟩, hbw.drew⟩ ?_
       repeat (first
        | go_big_quiet_skip
        | (simp only [hd])
        | (simp only [hwr])
        | (simp only [hdc])
        | (go_big_quiet_want; go_big_quiet_op; go_big_quiet_on)
        | (go_big_quiet_want; apply Exists.intro; refine ⟨fun wq hq => ?_, ?_⟩; (focus (obtain ⟨b9, o9, e9, -, d0, d1, d2, d3⟩ := row_cells hq.1 HX.out; cases e9; obtain ⟨b9, o9, e9, -, g0, -⟩ := row_cells hq.1 HS.out; cases e9; unfold Oper.quietAt; go_simp; all_goals (first | rfl | (refine (rone_k HO.out hnr _).mono ?_; rintro e w5 ⟨rfl, hbn⟩; exact ⟨rfl, rows_keep hq hbn⟩)))); simp only [Act.put, List.setIfInBounds_toArray, List.set_cons_zero, List.set_cons_succ]; go_big_quiet_on))
       refine wpQuiet_nil ?_
       intro wq hq
       obtain ⟨-, hwq⟩ := hq
       go_wp2_with fail
       go_ret
       exact ⟨by rw [← HR.out, mayB_bad hlt (HSN.out.trans (decide_eq_false (by have := HCM.out; omega)))]; rfl, hwq⟩
   ·obtain rfl : k = l.length := by omega
    have hlong2 : l.length ≤ 2000 := by omega
    go_wp2_with fail
    go_loopw [4] (fun i wr2 => ∃ k : Nat, i = .int .i64 (k : Int) ∧ k ≤ l.length ∧ (∀ j, j < k → ∀ r, l[j]? = some r → abv l (ch r) l.length (ch r) = false) ∧ Below w.heap.size w wr2) (fun i _ => l.length - (intOf i).toNat)
    case atStart => exact ⟨0, rfl, Nat.zero_le _, fun j hj => absurd hj (Nat.not_lt_zero _), hbw⟩
    case round =>
     clear hbw
     obtain ⟨k, rfl, hk, hab, hbw⟩ := hrel
     have HAB := Lib.hid hab
     clear hab
     by_cases hlt : k < l.length
     ·obtain ⟨r, hr⟩ := some_at hlt
      have hcw := HC.out.keep hbw
      obtain ⟨b0, o0, rfl, hb0, c0, c1, c2, c3⟩ := row_cells hcw hr
      have hki : (0 : Int) ≤ (k : Int) := by omega
      have hkl : (k : Int) < (l.length : Int) := by omega
      have HX := Lib.hid hr
      cases ha : abv l (ch r) l.length (ch r) with
      | false =>
       have HA := Lib.hid ha
       clear ha hr
       go_wp2_with fail
       refine quiet_held (fun w' => At w' w'.heap.size (some ⟨b0, o0, none⟩) (tvs l) ∧ Below w.heap.size w w') (by kernel_rfl) (by kernel_rfl) ⟨at_drewE hcw ⟨1, rfl⟩, hbw.drew⟩ ?_
       repeat (first
        | go_big_quiet_skip
        | (go_big_quiet_want; go_big_quiet_op; go_big_quiet_on)
        | (go_big_quiet_want; apply Exists.intro; refine ⟨fun wq hq => ?_, ?_⟩; (focus (obtain ⟨b9, o9, e9, -, d0, d1, d2, d3⟩ := row_cells hq.1 HX.out; cases e9; unfold Oper.quietAt; go_simp; all_goals (first | rfl | (refine (rabove_k false HA.out HL.out hq.1).mono ?_; rintro e w5 ⟨rfl, hbn⟩; exact ⟨rfl, rows_keep hq hbn⟩)))); simp only [Act.put, List.setIfInBounds_toArray, List.set_cons_zero, List.set_cons_succ]; go_big_quiet_on))
       refine wpQuiet_nil ?_
       intro wq hq
       obtain ⟨-, hwq⟩ := hq
       go_wp2_with fail
       go_roundw
       case rel =>
        refine ⟨k + 1, by go_num, by omega, fun j hj q hq => ?_, hwq⟩
        by_cases hj2 : j < k
        ·exact HAB.out j hj2 q hq
        ·obtain rfl : j = k := by omega
         have he := HX.out.symm.trans hq
         cases he
         exact HA.out
       case measure => simp only [intOf]; omega
      | true =>
       have HA := Lib.hid ha
       clear ha hr
       go_wp2_with fail
       refine quiet_held (fun w' => At w' w'.heap.size (some ⟨b0, o0, none⟩) (tvs l) ∧ Below w.heap.size w w') (by kernel_rfl) (by kernel_rfl) ⟨at_drewE hcw ⟨1, rfl⟩, hbw.drew⟩ ?_
       repeat (first
        | go_big_quiet_skip
        | (go_big_quiet_want; go_big_quiet_op; go_big_quiet_on)
        | (go_big_quiet_want; apply Exists.intro; refine ⟨fun wq hq => ?_, ?_⟩; (focus (obtain ⟨b9, o9, e9, -, d0, d1, d2, d3⟩ := row_cells hq.1 HX.out; cases e9; unfold Oper.quietAt; go_simp; all_goals (first | rfl | (refine (rabove_k true HA.out HL.out hq.1).mono ?_; rintro e w5 ⟨rfl, hbn⟩; exact ⟨rfl, rows_keep hq hbn⟩)))); simp only [Act.put, List.setIfInBounds_toArray, List.set_cons_zero, List.set_cons_succ]; go_big_quiet_on))
       refine wpQuiet_nil ?_
       intro wq hq
       obtain ⟨-, hwq⟩ := hq
       go_wp2_with fail
       go_ret
       exact ⟨by rw [← HR.out, mayB_above (mem_at HX.out) HA.out]; rfl, hwq⟩
     ·obtain rfl : k = l.length := by omega
      go_wp2_with fail
      go_ret
      exact ⟨by rw [← HR.out, mayB_good hlong2 HOK.out HAB.out]; rfl, hbw⟩
end Go.Proofs.YtkobmnbjeppnaaaGreat
end
