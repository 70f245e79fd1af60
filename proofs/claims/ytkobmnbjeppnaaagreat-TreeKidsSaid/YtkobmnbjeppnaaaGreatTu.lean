/-
 The program's order of rows by their children.
 Do rows stand by their children: the program's.
 A row is sought by halves: the program's.
 The parent of a node: the program's.
-/
import Derived.Test.YtkobmnbjeppnaaaGreatTk
import Derived.Test.YtkobmnbjeppnaaaGreatNm
import Derived.Shelf.Abstract
section
namespace Go.Proofs.YtkobmnbjeppnaaaGreat
open Go.RowKit Go.IntWalk
open Fl
set_option maxRecDepth 100000
attribute [local go_sem] Oper.semAt_some
theorem ordF_c (x y : Rw) (w : World) :
  Calls Tryz.prog 64 #[rv x, rv y] w fun e w' => e = .returned (.int .i64 (ci (ch x) (ch y))) ∧ Below w.heap.size w w' := by
 show Calls Tryz.prog 64 #[.agg #[.int .i64 (ch x), .int .i64 (pa x), .string (ba (nm x)), .float .f64 (rk x)], .agg #[.int .i64 (ch y), .int .i64 (pa y), .string (ba (nm y)), .float .f64 (rk y)]] w _
 have hb := ((Below.refl w.heap.size w).alloc (Nat.le_refl _) (.cells #[.int .i64 (ch x), .int .i64 (pa x), .string (ba (nm x)), .float .f64 (rk x)] 28)).alloc (by simp) (.cells #[.int .i64 (ch y), .int .i64 (pa y), .string (ba (nm y)), .float .f64 (rk y)] 28)
 go_enter Tryz.func64, Tryz.ntmps64
 go_wp2_with fail
 refine (cmpInt_c _ _ _).mono ?_
 rintro e w1 ⟨rfl, rfl⟩
 go_wp2_with fail
 go_ret
 exact ⟨rfl, hb⟩
theorem parF_c (x : Rw) (c : Int) (w : World) :
  Calls Tryz.prog 94 #[rv x, .int .i64 c] w fun e w' => e = .returned (.int .i64 (ci (ch x) c)) ∧ Below w.heap.size w w' := by
 show Calls Tryz.prog 94 #[.agg #[.int .i64 (ch x), .int .i64 (pa x), .string (ba (nm x)), .float .f64 (rk x)], .int .i64 c] w _
 have hb := (Below.refl w.heap.size w).alloc (Nat.le_refl _) (.cells #[.int .i64 (ch x), .int .i64 (pa x), .string (ba (nm x)), .float .f64 (rk x)] 28)
 go_enter Tryz.func94, Tryz.ntmps94
 go_wp2_with fail
 refine (cmpInt_c _ _ _).mono ?_
 rintro e w1 ⟨rfl, rfl⟩
 go_wp2_with fail
 go_ret
 exact ⟨rfl, hb⟩
end Go.Proofs.YtkobmnbjeppnaaaGreat
end
section
namespace Go.Proofs.YtkobmnbjeppnaaaGreat
open Go.RowKit Go.IntWalk
open Fl
set_option maxRecDepth 100000
attribute [local go_sem] Oper.semAt_some
/-- no row stands behind one of a greater child -/
def ascB : List Rw → Bool
 | [] => true
 | x :: t => (match t with | [] => true | y :: _ => decide (ch x ≤ ch y)) && ascB t
theorem asc_drop : ∀ {l : List Rw} {j : Nat} {x y : Rw}, l[j]? = some x → l[j + 1]? = some y → ascB (l.drop j) = (decide (ch x ≤ ch y) && ascB (l.drop (j + 1)))
 | a :: t, 0, x, y, hx, hy => by
  simp at hx hy
  subst hx
  cases t with
  | nil => simp at hy
  | cons b t => simp at hy; subst hy; rfl
 | a :: t, j + 1, x, y, hx, hy => by
  simpa using asc_drop (l := t) (j := j) (x := x) (y := y) (by simpa using hx) (by simpa using hy)
 | [], j, x, y, hx, _ => by simp at hx
theorem asc_tail : ∀ {a : Rw} {t : List Rw}, ascB (a :: t) = true → ascB t = true
 | _, [], _ => rfl
 | a, b :: t, h => by
  rw [show ascB (a :: b :: t) = (decide (ch a ≤ ch b) && ascB (b :: t)) from rfl, Bool.and_eq_true] at h
  exact h.2
theorem asc_of_drop : ∀ {l : List Rw} (j : Nat), ascB l = true → ascB (l.drop j) = true
 | l, 0, h => by simpa using h
 | [], j + 1, _ => by simp [ascB]
 | a :: t, j + 1, h => by
  simpa using asc_of_drop (l := t) j (asc_tail h)
theorem asc_last {l : List Rw} {j : Nat} (h : l.length ≤ j + 1) : ascB (l.drop j) = true := by
 cases hd : l.drop j with
 | nil => rfl
 | cons x t =>
  have := congrArg List.length hd
  rw [List.length_drop, List.length_cons] at this
  obtain rfl : t = [] := List.eq_nil_of_length_eq_zero (by omega)
  rfl
set_option maxHeartbeats 8000000 in
theorem sorted_c (A : Option Addr) (cap : Nat) (l : List Rw) (hl : l.length ≤ maxLen) (w : World) (hc : At w w.heap.size A (tvs l)) :
  Calls Tryz.prog 66 #[.slice A l.length cap, .func (.func 64) #[] #[]] w fun e w' => e = .returned (.bool (ascB l)) ∧ Below w.heap.size w w' := by
 obtain ⟨R, hR⟩ : ∃ R, ascB l = R := ⟨_, rfl⟩
 rw [hR]
 have HR := Lib.hid hR
 have HC := Lib.hid hc
 have HL := Lib.hid hl
 unfold maxLen at hl
 have hw0 : IntKind.i64.wrap ((l.length : Int) - 1) = (l.length : Int) - 1 := IntWalk.i64_in _ (by omega)
 clear hR hc
 go_enter Tryz.func66, Tryz.ntmps66
 go_wp2_with fail
 go_loopw [5] (fun i wr => ∃ j : Int, i = .int .i64 j ∧ -1 ≤ j ∧ j ≤ (l.length : Int) - 1 ∧ ascB (l.drop j.toNat) = true ∧ Below w.heap.size w wr) (fun i _ => (intOf i).toNat)
 case atStart => exact ⟨_, rfl, by omega, by omega, asc_last (by omega), Below.refl _ _⟩
 case round =>
  obtain ⟨j, rfl, hj1, hj2, hasc, hbw⟩ := hrel
  have HAS := Lib.hid hasc
  clear hasc
  by_cases hj0 : 0 < j
  ·obtain ⟨i, hi⟩ : ∃ i : Nat, j = (i : Int) + 1 := ⟨(j - 1).toNat, by omega⟩
   obtain ⟨x, hx⟩ := some_at (show i + 1 < l.length by omega)
   obtain ⟨y, hy⟩ := some_at (show i < l.length by omega)
   have hst := asc_drop hy hx
   obtain ⟨k, hk⟩ : ∃ k : Nat, k = i + 1 := ⟨_, rfl⟩
   have hjk : j = (k : Int) := by omega
   rw [← hk] at hx hst
   have has := HAS.out
   rw [hjk, Int.toNat_natCast] at has
   rw [has, Bool.and_true] at hst
   subst hjk
   have hcw := HC.out.keep hbw
   obtain ⟨b0, o0, rfl, -, -⟩ := row_cells hcw hx
   have hw1 : IntKind.i64.wrap ((k : Int) - 1) = (i : Int) := by rw [show (k : Int) - 1 = (i : Int) by omega]; exact IntWalk.i64_in _ (by omega)
   have hi0 : (0 : Int) ≤ (i : Int) := by omega
   have hil : (i : Int) < (l.length : Int) := by omega
   have hk0 : (0 : Int) ≤ (k : Int) := by omega
   have hkl : (k : Int) < (l.length : Int) := by omega
   have HX := Lib.hid hx
   have HY := Lib.hid hy
   have HST := Lib.hid hst
   have HK := Lib.hid hk
   clear hx hy hst hk hi has HAS
   by_cases hcmp : ch x < ch y
   ·have hv : ci (ch x) (ch y) = -1 := by unfold ci; rw [if_pos hcmp]
    have HCM := Lib.hid hcmp
    have HV := Lib.hid hv
    clear hcmp hv
    go_wp2_with fail
    refine quiet_held (fun w' => At w' w'.heap.size (some ⟨b0, o0, none⟩) (tvs l) ∧ Below w.heap.size w w') (by kernel_rfl) (by kernel_rfl) ⟨at_drewE hcw ⟨1, rfl⟩, hbw.drew⟩ ?_
    repeat (first
     | go_big_quiet_skip
     | (simp only [hw1])
     | (go_big_quiet_want; go_big_quiet_op; go_big_quiet_on)
     | (go_big_quiet_want; apply Exists.intro; refine ⟨fun wq hq => ?_, ?_⟩; (focus (obtain ⟨b9, o9, e9, -, d0, d1, d2, d3⟩ := row_cells hq.1 HX.out; cases e9; obtain ⟨b9, o9, e9, -, g0, g1, g2, g3⟩ := row_cells hq.1 HY.out; cases e9; unfold Oper.quietAt; go_simp; all_goals (first | rfl | (refine (ordF_c x y _).mono ?_; rintro e w5 ⟨rfl, hbn⟩; rw [HV.out]; exact ⟨rfl, rows_keep hq hbn⟩)))); simp only [Act.put, List.setIfInBounds_toArray, List.set_cons_zero, List.set_cons_succ]; go_big_quiet_on))
    refine wpQuiet_nil ?_
    intro wq hq
    obtain ⟨-, hwq⟩ := hq
    go_wp2_with fail
    go_ret
    refine ⟨?_, hwq⟩
    rw [← HR.out]
    cases hR : ascB l with
    | false => rfl
    | true =>
     have h := asc_of_drop i hR
     rw [HST.out] at h
     exact absurd (of_decide_eq_true h) (by have := HCM.out; omega)
   ·obtain ⟨d, hd0, hv⟩ : ∃ d : Int, 0 ≤ d ∧ ci (ch x) (ch y) = d := ⟨_, by unfold ci; rw [if_neg hcmp]; split <;> omega, rfl⟩
    have HCM := Lib.hid hcmp
    have HV := Lib.hid hv
    have hdd : decide (d < 0) = false := decide_eq_false (by omega)
    clear hcmp hv
    go_wp2_with fail
    refine quiet_held (fun w' => At w' w'.heap.size (some ⟨b0, o0, none⟩) (tvs l) ∧ Below w.heap.size w w') (by kernel_rfl) (by kernel_rfl) ⟨at_drewE hcw ⟨1, rfl⟩, hbw.drew⟩ ?_
    repeat (first
     | go_big_quiet_skip
     | (simp only [hw1])
     | (go_big_quiet_want; go_big_quiet_op; go_big_quiet_on)
     | (go_big_quiet_want; apply Exists.intro; refine ⟨fun wq hq => ?_, ?_⟩; (focus (obtain ⟨b9, o9, e9, -, d0, d1, d2, d3⟩ := row_cells hq.1 HX.out; cases e9; obtain ⟨b9, o9, e9, -, g0, g1, g2, g3⟩ := row_cells hq.1 HY.out; cases e9; unfold Oper.quietAt; go_simp; all_goals (first | rfl | (refine (ordF_c x y _).mono ?_; rintro e w5 ⟨rfl, hbn⟩; rw [HV.out]; exact ⟨rfl, rows_keep hq hbn⟩)))); simp only [Act.put, List.setIfInBounds_toArray, List.set_cons_zero, List.set_cons_succ]; go_big_quiet_on))
    refine wpQuiet_nil ?_
    intro wq hq
    obtain ⟨-, hwq⟩ := hq
    go_wp2_with fail
    go_roundw
    case rel =>
     refine ⟨(i : Int), by have := HK.out; go_num, by omega, by omega, ?_, hwq⟩
     rw [Int.toNat_natCast, HST.out]
     exact decide_eq_true (by have := HCM.out; omega)
    case measure => simp only [intOf]; have := HK.out; omega
  ·have hjn : ¬ 0 < j := hj0
   have has := HAS.out
   have hz : j.toNat = 0 := by omega
   rw [hz, List.drop_zero] at has
   have HZ := Lib.hid has
   clear has hz HAS
   go_wp2_with fail
   go_ret
   exact ⟨by rw [← HR.out, HZ.out]; rfl, hbw⟩
end Go.Proofs.YtkobmnbjeppnaaaGreat
end
section
namespace Go.Proofs.YtkobmnbjeppnaaaGreat
open Go.RowKit Go.IntWalk
open Fl
set_option maxRecDepth 100000
attribute [local go_sem] Oper.semAt_some
theorem asc_le {l : List Rw} (h : ascB l = true) : ∀ {a b : Nat} {x y : Rw}, a ≤ b → l[a]? = some x → l[b]? = some y → ch x ≤ ch y := by
 intro a b
 induction b with
 | zero =>
  intro x y hab hx hy
  obtain rfl : a = 0 := by omega
  have := hx.symm.trans hy
  cases this
  exact Int.le_refl _
 | succ b ih =>
  intro x y hab hx hy
  by_cases he : a = b + 1
  ·subst he
   have := hx.symm.trans hy
   cases this
   exact Int.le_refl _
  ·obtain ⟨z, hz⟩ := some_at (show b < l.length by have := (List.getElem?_eq_some_iff.1 hy).1; omega)
   have h1 := ih (by omega) hx hz
   have h2 := asc_drop hz hy
   rw [asc_of_drop b h, asc_of_drop (b + 1) h, Bool.and_true] at h2
   have h3 := of_decide_eq_true h2.symm
   omega
/-- what a search by halves finds: all ahead are less, all behind are not -/
structure Cut (l : List Rw) (c : Int) (i : Nat) : Prop where
 le : i ≤ l.length
 lo : ∀ x ∈ l.take i, ch x < c
 hi : ∀ k x, i ≤ k → l[k]? = some x → c ≤ ch x
def BsEnd (l : List Rw) (c : Int) (w : World) (e : Ending) (w' : World) : Prop :=
 ∃ (i : Nat) (b : Bool), e = .returned (.tuple #[.int .i64 (i : Int), .bool b]) ∧ Cut l c i ∧ (b = true ↔ ∃ x, l[i]? = some x ∧ ch x = c) ∧ Below w.heap.size w w'
set_option maxHeartbeats 8000000 in
theorem bsearch_c (A : Option Addr) (cap : Nat) (l : List Rw) (c : Int) (hl : l.length ≤ 100000) (hs : ascB l = true) (w : World) (hc : At w w.heap.size A (tvs l)) :
  Calls Tryz.prog 93 #[.slice A l.length cap, .int .i64 c, .func (.func 94) #[] #[]] w (BsEnd l c w) := by
 have HC := Lib.hid hc
 have HS := Lib.hid hs
 clear hc hs
 go_enter Tryz.func93, Tryz.ntmps93
 go_wp2_with fail
 go_loopw [9, 10] (fun u v wr => ∃ i j : Nat, u = .int .i64 (i : Int) ∧ v = .int .i64 (j : Int) ∧ i ≤ j ∧ j ≤ l.length ∧ (∀ x ∈ l.take i, ch x < c) ∧ (∀ k x, j ≤ k → l[k]? = some x → c ≤ ch x) ∧ Below w.heap.size w wr) (fun u v _ => (intOf v).toNat - (intOf u).toNat)
 case atStart => exact ⟨0, l.length, rfl, rfl, Nat.zero_le _, Nat.le_refl _, (fun x hx => by simp at hx), (fun k x hk hx => by rw [List.getElem?_eq_none hk] at hx; cases hx), Below.refl _ _⟩
 case round =>
  obtain ⟨i, j, rfl, rfl, hij, hj, hlo, hhi, hbw⟩ := hrel
  have HLO := Lib.hid hlo
  have HHI := Lib.hid hhi
  clear hlo hhi
  by_cases hlt : i < j
  ·obtain ⟨h, hh⟩ : ∃ h : Nat, h = (i + j) / 2 := ⟨_, rfl⟩
   have hw1 : IntKind.i64.wrap ((i : Int) + (j : Int)) = (i : Int) + (j : Int) := IntWalk.i64_in _ (by omega)
   have hhf : ((i : Int) + (j : Int)) / 2 = (h : Int) := by omega
   have hhi2 : i ≤ h := by omega
   have hhj : h < j := by omega
   obtain ⟨x, hx⟩ := some_at (show h < l.length by omega)
   have hcw := HC.out.keep hbw
   obtain ⟨b0, o0, rfl, -, c0, c1, c2, c3⟩ := row_cells hcw hx
   have hh0 : (0 : Int) ≤ (h : Int) := by omega
   have hhl : (h : Int) < (l.length : Int) := by omega
   have HX := Lib.hid hx
   have HH := Lib.hid hh
   clear hh hx
   by_cases hcmp : ch x < c
   ·have hv : ci (ch x) c = -1 := by unfold ci; rw [if_pos hcmp]
    have HCM := Lib.hid hcmp
    have hcall := fun W => parF_c x c W
    rw [hv] at hcall
    unfold rv at hcall
    have HCA := Lib.hid hcall
    clear hcmp hv hcall
    go_wp2_with fail
    refine (HCA.out _).mono ?_
    rintro e w1 ⟨rfl, hb1⟩
    have hbw1 := hbw.trans (hb1.mono hbw.size)
    clear hb1
    go_wp2_with fail
    go_roundw
    case rel =>
     refine ⟨h + 1, j, by go_num, rfl, by omega, hj, ?_, HHI.out, hbw1⟩
     intro y hy
     obtain ⟨k, hk, e⟩ := List.mem_iff_getElem.1 hy
     rw [List.length_take] at hk
     have hky : l[k]? = some y := by rw [← e, List.getElem_take]; exact List.getElem?_eq_getElem _
     have := asc_le HS.out (show k ≤ h by omega) hky HX.out
     have := HCM.out
     omega
    case measure => simp only [intOf]; omega
   ·have h0 : 0 ≤ ci (ch x) c := by unfold ci; rw [if_neg hcmp]; split <;> omega
    obtain ⟨d, hd⟩ : ∃ d, ci (ch x) c = d := ⟨_, rfl⟩
    rw [hd] at h0
    have hdd : decide (d < 0) = false := decide_eq_false (by omega)
    have HCM := Lib.hid hcmp
    have hcall := fun W => parF_c x c W
    rw [hd] at hcall
    unfold rv at hcall
    have HCA := Lib.hid hcall
    clear hcmp hcall hd
    go_wp2_with fail
    refine (HCA.out _).mono ?_
    rintro e w1 ⟨rfl, hb1⟩
    have hbw1 := hbw.trans (hb1.mono hbw.size)
    clear hb1
    go_wp2_with fail
    go_roundw
    case rel =>
     refine ⟨i, h, rfl, rfl, by omega, by omega, HLO.out, ?_, hbw1⟩
     intro k y hk hky
     have := asc_le HS.out hk HX.out hky
     have := HCM.out
     omega
    case measure => simp only [intOf]; omega
  ·obtain rfl : j = i := by omega
   have HCUT := Lib.hid (Cut.mk (l := l) (c := c) hj HLO.out HHI.out)
   by_cases hil : j < l.length
   ·obtain ⟨x, hx⟩ := some_at hil
    have hcw := HC.out.keep hbw
    obtain ⟨b0, o0, rfl, -, c0, c1, c2, c3⟩ := row_cells hcw hx
    have hd : decide (j < l.length) = true := decide_eq_true hil
    have hj0 : (0 : Int) ≤ (j : Int) := by omega
    have hjl : (j : Int) < (l.length : Int) := by omega
    obtain ⟨d, hdc⟩ : ∃ d, ci (ch x) c = d := ⟨_, rfl⟩
    obtain ⟨b, hde⟩ : ∃ b, (d == 0) = b := ⟨_, rfl⟩
    have hb : b = true ↔ ch x = c := by
     rw [← hde, ← hdc]
     unfold ci
     split
     ·simp; omega
     ·split
      ·simp; omega
      ·simp; omega
    have hcall := fun W => parF_c x c W
    rw [hdc] at hcall
    unfold rv at hcall
    have HCA := Lib.hid hcall
    have HB := Lib.hid hb
    have HX := Lib.hid hx
    clear hcall hb hx hdc
    go_wp2_with fail
    refine (HCA.out _).mono ?_
    rintro e w1 ⟨rfl, hb1⟩
    have hwq := hbw.trans (hb1.mono hbw.size)
    go_wp2_with fail
    refine bodyPost_ret (v := .tuple #[.int .i64 (j : Int), .bool b]) (by simp [results, Tryz.f93, go_sem]) rfl ?_
    refine ⟨j, b, rfl, HCUT.out, ⟨fun h => ⟨x, HX.out, HB.out.1 h⟩, fun ⟨y, hy, h⟩ => ?_⟩, hwq⟩
    have e := HX.out.symm.trans hy
    cases e
    exact HB.out.2 h
   ·obtain rfl : j = l.length := by omega
    go_wp2_with fail
    refine bodyPost_ret (v := .tuple #[.int .i64 (l.length : Int), .bool false]) (by simp [results, Tryz.f93, go_sem]) rfl ?_
    refine ⟨l.length, false, rfl, HCUT.out, ?_, hbw⟩
    rw [List.getElem?_eq_none (Nat.le_refl _)]
    exact ⟨fun h => (by cases h), fun ⟨y, hy, _⟩ => (by cases hy)⟩
end Go.Proofs.YtkobmnbjeppnaaaGreat
end
section
namespace Go.Proofs.YtkobmnbjeppnaaaGreat
open Go.RowKit Go.IntWalk
open Fl
set_option maxRecDepth 100000
attribute [local go_sem] Oper.semAt_some
theorem cut_fnd {l : List Rw} {c : Int} {i : Nat} (hs : ascB l = true) (h : Cut l c i) : (∃ x, l[i]? = some x ∧ ch x = c ∧ fnd l c = some x) ∨ ((¬ ∃ x, l[i]? = some x ∧ ch x = c) ∧ fnd l c = none) := by
 have hno : ∀ x ∈ l.take i, (ch x == c) = false := fun x hx => by have := h.lo x hx; simp; omega
 have e : fnd l c = (l.drop i).find? (fun r => ch r == c) := by
  unfold fnd
  rw [show l.find? (fun r => ch r == c) = (l.take i ++ l.drop i).find? (fun r => ch r == c) by rw [List.take_append_drop], List.find?_append, List.find?_eq_none.2 (fun x hx => by rw [hno x hx]; simp)]
  rfl
 rw [e]
 by_cases hx : ∃ x, l[i]? = some x ∧ ch x = c
 ·obtain ⟨x, hx, hc⟩ := hx
  refine .inl ⟨x, hx, hc, ?_⟩
  obtain ⟨hi, e2⟩ := List.getElem?_eq_some_iff.1 hx
  rw [List.drop_eq_getElem_cons hi, e2, List.find?_cons_of_pos (by simpa using hc)]
 ·refine .inr ⟨hx, List.find?_eq_none.2 fun y hy => ?_⟩
  obtain ⟨k, hk, e2⟩ := List.mem_iff_getElem.1 hy
  rw [List.length_drop] at hk
  have hky : l[i + k]? = some y := by rw [← List.getElem?_drop, List.getElem?_eq_getElem (by rw [List.length_drop]; exact hk), e2]
  obtain ⟨z, hz⟩ := some_at (show i < l.length by omega)
  have h1 := h.hi i z (Nat.le_refl _) hz
  have h2 := asc_le hs (show i ≤ i + k by omega) hz hky
  intro hc
  exact hx ⟨z, hz, by simp at hc; omega⟩
def parV (l : List Rw) (c : Int) : Int := ((fnd l c).map pa).getD 0
def parB (l : List Rw) (c : Int) : Bool := (fnd l c).isSome
set_option maxHeartbeats 4000000 in
theorem parent_c (A : Option Addr) (cap : Nat) (l : List Rw) (c : Int) (hl : l.length ≤ 100000) (hs : ascB l = true) (w : World) (hc : At w w.heap.size A (tvs l)) :
  Calls Tryz.prog 69 #[.slice A l.length cap, .int .i64 c] w fun e w' => e = .returned (.tuple #[.int .i64 (parV l c), .bool (parB l c)]) ∧ Below w.heap.size w w' := by
 have HC := Lib.hid hc
 have HS := Lib.hid hs
 clear hc hs
 go_enter Tryz.func69, Tryz.ntmps69
 go_wp2_with fail
 refine (bsearch_c A cap l c hl HS.out _ HC.out).mono ?_
 rintro e w1 ⟨i, b, rfl, hcut, hb, hb1⟩
 rcases cut_fnd HS.out hcut with ⟨x, hx, hxc, hf⟩ | ⟨hno, hf⟩
 ·have hbt : b = true := hb.2 ⟨x, hx, hxc⟩
  subst hbt
  have hcw := HC.out.keep hb1
  obtain ⟨b0, o0, rfl, -, c0, c1, -⟩ := row_cells hcw hx
  have hi0 : (0 : Int) ≤ (i : Int) := by omega
  have hil : (i : Int) < (l.length : Int) := by have := (List.getElem?_eq_some_iff.1 hx).1; omega
  have HF := Lib.hid hf
  clear hb hcut hx hxc hf
  go_wp2_with fail
  refine bodyPost_ret (v := .tuple #[.int .i64 (pa x), .bool true]) (by simp [results, Tryz.f69, go_sem]) rfl ?_
  exact ⟨by unfold parV parB; rw [HF.out]; rfl, hb1⟩
 ·have hbf : b = false := by
   cases b with
   | false => rfl
   | true => exact absurd (hb.1 rfl) hno
  subst hbf
  have HF := Lib.hid hf
  clear hb hcut hno hf
  go_wp2_with fail
  refine bodyPost_ret (v := .tuple #[.int .i64 0, .bool false]) (by simp [results, Tryz.f69, go_sem]) rfl ?_
  exact ⟨by unfold parV parB; rw [HF.out]; rfl, hb1⟩
end Go.Proofs.YtkobmnbjeppnaaaGreat
end
