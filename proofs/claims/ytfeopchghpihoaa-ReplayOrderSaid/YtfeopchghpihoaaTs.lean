/-
  The program's order of rows by their children.
  Do rows stand by their children: the program's.
-/
import Derived.Test.YtfeopchghpihoaaTk
import Derived.Test.YtfeopchghpihoaaNa
import Derived.Shelf.Abstract
section
namespace Go.Proofs.Ytfeopchghpihoaa
open Go.RowKit Go.IntWalk
open Fl
set_option maxRecDepth 100000
attribute [local go_sem] Oper.semAt_some

theorem ordF_c (x y : Rw) (w : World) :
    Calls Try.prog 82 #[rv x, rv y] w fun e w' => e = .returned (.int .i64 (ci (ch x) (ch y))) ∧ Below w.heap.size w w' := by
  show Calls Try.prog 82 #[.agg #[.int .i64 (ch x), .int .i64 (pa x), .string (ba (nm x)), .float .f64 (rk x)], .agg #[.int .i64 (ch y), .int .i64 (pa y), .string (ba (nm y)), .float .f64 (rk y)]] w _
  have hb := ((Below.refl w.heap.size w).alloc (Nat.le_refl _) (.cells #[.int .i64 (ch x), .int .i64 (pa x), .string (ba (nm x)), .float .f64 (rk x)] 59)).alloc (by simp) (.cells #[.int .i64 (ch y), .int .i64 (pa y), .string (ba (nm y)), .float .f64 (rk y)] 59)
  go_enter Try.func82, Try.ntmps82
  go_wp2_with fail
  refine (cmpInt_c _ _ _).mono ?_
  rintro e w1 ⟨rfl, rfl⟩
  go_wp2_with fail
  go_ret
  exact ⟨rfl, hb⟩
theorem parF_c (x : Rw) (c : Int) (w : World) :
    Calls Try.prog 103 #[rv x, .int .i64 c] w fun e w' => e = .returned (.int .i64 (ci (ch x) c)) ∧ Below w.heap.size w w' := by
  show Calls Try.prog 103 #[.agg #[.int .i64 (ch x), .int .i64 (pa x), .string (ba (nm x)), .float .f64 (rk x)], .int .i64 c] w _
  have hb := (Below.refl w.heap.size w).alloc (Nat.le_refl _) (.cells #[.int .i64 (ch x), .int .i64 (pa x), .string (ba (nm x)), .float .f64 (rk x)] 59)
  go_enter Try.func103, Try.ntmps103
  go_wp2_with fail
  refine (cmpInt_c _ _ _).mono ?_
  rintro e w1 ⟨rfl, rfl⟩
  go_wp2_with fail
  go_ret
  exact ⟨rfl, hb⟩
end Go.Proofs.Ytfeopchghpihoaa
end

section
namespace Go.Proofs.Ytfeopchghpihoaa
open Go.RowKit Go.IntWalk
open Fl
set_option maxRecDepth 100000
attribute [local go_sem] Oper.semAt_some

/-- no row stands behind one of a greater child -/
def ascB : List Rw → Bool
  | [] => true
  | x :: t => (match t with | [] => true | y :: _ => decide (ch x ≤ ch y)) && ascB t
theorem asc_drop : ∀ {l : List Rw} {j : Nat} {x y : Rw}, l[j]? = some x → l[j + 1]? = some y → ascB (l.drop j) = (decide (ch x ≤ ch y) && ascB (l.drop (j + 1)))
  | a :: t, 0, x, y, hx, hy => by
    simp at hx hy
    subst hx
    cases t with
    | nil => simp at hy
    | cons b t => simp at hy; subst hy; rfl
  | a :: t, j + 1, x, y, hx, hy => by
    simpa using asc_drop (l := t) (j := j) (x := x) (y := y) (by simpa using hx) (by simpa using hy)
  | [], j, x, y, hx, _ => by simp at hx
theorem asc_tail : ∀ {a : Rw} {t : List Rw}, ascB (a :: t) = true → ascB t = true
  | _, [], _ => rfl
  | a, b :: t, h => by
    rw [show ascB (a :: b :: t) = (decide (ch a ≤ ch b) && ascB (b :: t)) from rfl, Bool.and_eq_true] at h
    exact h.2
theorem asc_of_drop : ∀ {l : List Rw} (j : Nat), ascB l = true → ascB (l.drop j) = true
  | l, 0, h => by simpa using h
  | [], j + 1, _ => by simp [ascB]
  | a :: t, j + 1, h => by
    simpa using asc_of_drop (l := t) j (asc_tail h)
theorem asc_last {l : List Rw} {j : Nat} (h : l.length ≤ j + 1) : ascB (l.drop j) = true := by
  cases hd : l.drop j with
  | nil => rfl
  | cons x t =>
    have := congrArg List.length hd
    rw [List.length_drop, List.length_cons] at this
    obtain rfl : t = [] := List.eq_nil_of_length_eq_zero (by omega)
    rfl

set_option maxHeartbeats 8000000 in
theorem sorted_c (A : Option Addr) (cap : Nat) (l : List Rw) (hl : l.length ≤ maxLen) (w : World) (hc : At w w.heap.size A (tvs l)) :
    Calls Try.prog 84 #[.slice A l.length cap, .func (.func 82) #[] #[]] w fun e w' => e = .returned (.bool (ascB l)) ∧ Below w.heap.size w w' := by
  obtain ⟨R, hR⟩ : ∃ R, ascB l = R := ⟨_, rfl⟩
  rw [hR]
  have HR := Lib.hid hR
  have HC := Lib.hid hc
  have HL := Lib.hid hl
  unfold maxLen at hl
  have hw0 : IntKind.i64.wrap ((l.length : Int) - 1) = (l.length : Int) - 1 := IntWalk.i64_in _ (by omega)
  clear hR hc
  go_enter Try.func84, Try.ntmps84
  go_wp2_with fail
  go_loopw [5] (fun i wr => ∃ j : Int, i = .int .i64 j ∧ -1 ≤ j ∧ j ≤ (l.length : Int) - 1 ∧ ascB (l.drop j.toNat) = true ∧ Below w.heap.size w wr) (fun i _ => (intOf i).toNat)
  case atStart => exact ⟨_, rfl, by omega, by omega, asc_last (by omega), Below.refl _ _⟩
  case round =>
    obtain ⟨j, rfl, hj1, hj2, hasc, hbw⟩ := hrel
    have HAS := Lib.hid hasc
    clear hasc
    by_cases hj0 : 0 < j
    · obtain ⟨i, hi⟩ : ∃ i : Nat, j = (i : Int) + 1 := ⟨(j - 1).toNat, by omega⟩
      obtain ⟨x, hx⟩ := some_at (show i + 1 < l.length by omega)
      obtain ⟨y, hy⟩ := some_at (show i < l.length by omega)
      have hst := asc_drop hy hx
      obtain ⟨k, hk⟩ : ∃ k : Nat, k = i + 1 := ⟨_, rfl⟩
      have hjk : j = (k : Int) := by omega
      rw [← hk] at hx hst
      have has := HAS.out
      rw [hjk, Int.toNat_natCast] at has
      rw [has, Bool.and_true] at hst
      subst hjk
      have hcw := HC.out.keep hbw
      obtain ⟨b0, o0, rfl, -, -⟩ := row_cells hcw hx
      have hw1 : IntKind.i64.wrap ((k : Int) - 1) = (i : Int) := by rw [show (k : Int) - 1 = (i : Int) by omega]; exact IntWalk.i64_in _ (by omega)
      have hi0 : (0 : Int) ≤ (i : Int) := by omega
      have hil : (i : Int) < (l.length : Int) := by omega
      have hk0 : (0 : Int) ≤ (k : Int) := by omega
      have hkl : (k : Int) < (l.length : Int) := by omega
      have HX := Lib.hid hx
      have HY := Lib.hid hy
      have HST := Lib.hid hst
      have HK := Lib.hid hk
      clear hx hy hst hk hi has HAS
      by_cases hcmp : ch x < ch y
      · have hv : ci (ch x) (ch y) = -1 := by unfold ci; rw [if_pos hcmp]
        have HCM := Lib.hid hcmp
        have HV := Lib.hid hv
        clear hcmp hv
        go_wp2_with fail
        refine quiet_held (fun w' => At w' w'.heap.size (some ⟨b0, o0, none⟩) (tvs l) ∧ Below w.heap.size w w') (by kernel_rfl) (by kernel_rfl) ⟨at_drewE hcw ⟨1, rfl⟩, hbw.drew⟩ ?_
        repeat (first
          | go_big_quiet_skip
          | (simp only [hw1])
          | (go_big_quiet_want; go_big_quiet_op; go_big_quiet_on)
          | (go_big_quiet_want; apply Exists.intro; refine ⟨fun wq hq => ?_, ?_⟩; (focus (obtain ⟨b9, o9, e9, -, d0, d1, d2, d3⟩ := row_cells hq.1 HX.out; cases e9; obtain ⟨b9, o9, e9, -, g0, g1, g2, g3⟩ := row_cells hq.1 HY.out; cases e9; unfold Oper.quietAt; go_simp; all_goals (first | rfl | (refine (ordF_c x y _).mono ?_; rintro e w5 ⟨rfl, hbn⟩; rw [HV.out]; exact ⟨rfl, rows_keep hq hbn⟩)))); simp only [Act.put, List.setIfInBounds_toArray, List.set_cons_zero, List.set_cons_succ]; go_big_quiet_on))
        refine wpQuiet_nil ?_
        intro wq hq
        obtain ⟨-, hwq⟩ := hq
        go_wp2_with fail
        go_ret
        refine ⟨?_, hwq⟩
        rw [← HR.out]
        cases hR : ascB l with
        | false => rfl
        | true =>
          have h := asc_of_drop i hR
          rw [HST.out] at h
          exact absurd (of_decide_eq_true h) (by have := HCM.out; omega)
      · obtain ⟨d, hd0, hv⟩ : ∃ d : Int, 0 ≤ d ∧ ci (ch x) (ch y) = d := ⟨_, by unfold ci; rw [if_neg hcmp]; split <;> omega, rfl⟩
        have HCM := Lib.hid hcmp
        have HV := Lib.hid hv
        have hdd : decide (d < 0) = false := decide_eq_false (by omega)
        clear hcmp hv
        go_wp2_with fail
        refine quiet_held (fun w' => At w' w'.heap.size (some ⟨b0, o0, none⟩) (tvs l) ∧ Below w.heap.size w w') (by kernel_rfl) (by kernel_rfl) ⟨at_drewE hcw ⟨1, rfl⟩, hbw.drew⟩ ?_
        repeat (first
          | go_big_quiet_skip
          | (simp only [hw1])
          | (go_big_quiet_want; go_big_quiet_op; go_big_quiet_on)
          | (go_big_quiet_want; apply Exists.intro; refine ⟨fun wq hq => ?_, ?_⟩; (focus (obtain ⟨b9, o9, e9, -, d0, d1, d2, d3⟩ := row_cells hq.1 HX.out; cases e9; obtain ⟨b9, o9, e9, -, g0, g1, g2, g3⟩ := row_cells hq.1 HY.out; cases e9; unfold Oper.quietAt; go_simp; all_goals (first | rfl | (refine (ordF_c x y _).mono ?_; rintro e w5 ⟨rfl, hbn⟩; rw [HV.out]; exact ⟨rfl, rows_keep hq hbn⟩)))); simp only [Act.put, List.setIfInBounds_toArray, List.set_cons_zero, List.set_cons_succ]; go_big_quiet_on))
        refine wpQuiet_nil ?_
        intro wq hq
        obtain ⟨-, hwq⟩ := hq
        go_wp2_with fail
        go_roundw
        case rel =>
          refine ⟨(i : Int), by have := HK.out; go_num, by omega, by omega, ?_, hwq⟩
          rw [Int.toNat_natCast, HST.out]
          exact decide_eq_true (by have := HCM.out; omega)
        case measure => simp only [intOf]; have := HK.out; omega
    · have hjn : ¬ 0 < j := hj0
      have has := HAS.out
      have hz : j.toNat = 0 := by omega
      rw [hz, List.drop_zero] at has
      have HZ := Lib.hid has
      clear has hz HAS
      go_wp2_with fail
      go_ret
      exact ⟨by rw [← HR.out, HZ.out]; rfl, hbw⟩
end Go.Proofs.Ytfeopchghpihoaa
end
