/-
 Whether moves may be: the program's.
-/
import Derived.Test.YtojhenpaeedimaaUh
namespace Go.Proofs.Ytojhenpaeedimaa
open Go.RowKit Go.IntWalk
open Wd Fl
set_option maxRecDepth 100000
attribute [local go_sem] Oper.semAt_some
set_option maxHeartbeats 8000000 in
theorem mmay_c (A : Option Addr) (cap : Nat) (l : List Mv) (hl : l.length ≤ maxLen) (hn : ∀ m ∈ l, (nm (mw m)).length ≤ maxLen) (w : World) (hc : At w w.heap.size A (mvs l)) :
  Calls Try.prog 28 #[.slice A l.length cap] w fun e w' => e = .returned (.bool (mayM l)) ∧ Below w.heap.size w w' := by
 obtain ⟨R, hR⟩ : ∃ R, mayM l = R := ⟨_, rfl⟩
 rw [hR]
 have HC := Lib.hid hc
 have HN := Lib.hid hn
 unfold maxLen at hl
 clear hc hn
 by_cases hlong : 2000 < l.length
 ·have hli : (2000 : Int) < (l.length : Int) := by omega
  rw [mayM_long hlong] at hR
  subst hR
  go_enter Try.func28, Try.ntmps28
  go_wp2_with fail
  go_ret
  exact ⟨rfl, Below.refl _ _⟩
 ·rw [mayM_short (by omega)] at hR
  have HR := Lib.hid hR
  clear hR
  go_enter Try.func28, Try.ntmps28
  go_wp2_with fail
  go_loopw [10] (fun i wr => ∃ k : Nat, i = .int .i64 (k : Int) ∧ k ≤ l.length ∧ resM (prvM l k) (l.drop k) = R ∧ Below w.heap.size w wr) (fun i _ => l.length - (Go.RowKit.intOf i).toNat)
  case atStart => exact ⟨0, rfl, Nat.zero_le _, HR.out, Below.refl _ _⟩
  case round =>
   obtain ⟨k, rfl, hk, hres, hbw⟩ := hrel
   by_cases hlt : k < l.length
   ·obtain ⟨m, hm⟩ := some_at hlt
    have hcw := HC.out.keep hbw
    obtain ⟨b0, o0, rfl, hb0, c0, c1, c2, c3, c4, c5⟩ := move_cells hcw hm
    have hnm := HN.out m (mem_at hm)
    have hki : (0 : Int) ≤ (k : Int) := by omega
    have hkl : (k : Int) < (l.length : Int) := by omega
    rw [resM_step hm] at hres
    have HX := Lib.hid hm
    have HRS := Lib.hid hres
    cases ho : oneM m with
    | false =>
     have HO := Lib.hid ho
     clear ho hm hres
     go_wp2_with fail
     refine quiet_held (fun w' => At w' w'.heap.size (some ⟨b0, o0, none⟩) (mvs l) ∧ Is w' wr.heap.size 30 [.int .i64 (mc m), .int .i64 (mr m), .int .i64 (pa (mw m)), .int .i64 (ch (mw m)), .string (ba (nm (mw m))), .float .f64 (rk (mw m))] ∧ Below w.heap.size w w') (by kernel_rfl) (by kernel_rfl) (mbox_start m hcw hbw) ?_
     repeat (first
      | go_big_quiet_skip
      | (go_big_quiet_want; go_big_quiet_op; go_big_quiet_on)
      | (go_big_quiet_want; apply Exists.intro; refine ⟨fun wq hq => ?_, ?_⟩; (focus (obtain ⟨b9, o9, e9, -, d0, d1, d2, d3, d4, d5⟩ := move_cells hq.1 HX.out; cases e9; obtain ⟨p0, p1, p2, p3, p4, p5⟩ := box6 (m := m) hq.2.1; unfold Oper.quietAt; go_simp; all_goals (first | rfl | (refine (mone_k HO.out hnm _).mono ?_; rintro e w5 ⟨rfl, hbn⟩; exact ⟨rfl, mbox_keep hq hbn⟩)))); simp only [Act.put, List.setIfInBounds_toArray, List.set_cons_zero, List.set_cons_succ]; go_big_quiet_on))
     refine wpQuiet_nil ?_
     intro wq hq
     obtain ⟨-, -, hwq⟩ := hq
     have hf : R = false := by rw [← HRS.out, HO.out, Bool.false_and]
     subst hf
     go_wp2_with fail
     go_ret
     exact ⟨rfl, hwq⟩
    | true =>
     have HO := Lib.hid ho
     clear ho hm hres
     by_cases hk0 : k = 0
     ·have hd : decide (0 < k) = false := decide_eq_false (by omega)
      have hrn : resM (prvM l (k + 1)) (l.drop (k + 1)) = R := by
       have h := HRS.out
       subst hk0
       rw [HO.out, Bool.true_and] at h
       exact h
      have HRN := Lib.hid hrn
      clear hk0 hrn HRS
      go_wp2_with fail
      refine quiet_held (fun w' => At w' w'.heap.size (some ⟨b0, o0, none⟩) (mvs l) ∧ Is w' wr.heap.size 30 [.int .i64 (mc m), .int .i64 (mr m), .int .i64 (pa (mw m)), .int .i64 (ch (mw m)), .string (ba (nm (mw m))), .float .f64 (rk (mw m))] ∧ Below w.heap.size w w') (by kernel_rfl) (by kernel_rfl) (mbox_start m hcw hbw) ?_
      repeat (first
       | go_big_quiet_skip
       | (simp only [hd])
       | (go_big_quiet_want; go_big_quiet_op; go_big_quiet_on)
       | (go_big_quiet_want; apply Exists.intro; refine ⟨fun wq hq => ?_, ?_⟩; (focus (obtain ⟨b9, o9, e9, -, d0, d1, d2, d3, d4, d5⟩ := move_cells hq.1 HX.out; cases e9; obtain ⟨p0, p1, p2, p3, p4, p5⟩ := box6 (m := m) hq.2.1; unfold Oper.quietAt; go_simp; all_goals (first | rfl | (refine (mone_k HO.out hnm _).mono ?_; rintro e w5 ⟨rfl, hbn⟩; exact ⟨rfl, mbox_keep hq hbn⟩)))); simp only [Act.put, List.setIfInBounds_toArray, List.set_cons_zero, List.set_cons_succ]; go_big_quiet_on))
      refine wpQuiet_nil ?_
      intro wq hq
      obtain ⟨-, -, hwq⟩ := hq
      go_wp2_with fail
      go_roundw
      case rel => exact ⟨k + 1, by go_num, by omega, HRN.out, hwq⟩
      case measure => simp only [Go.RowKit.intOf]; omega
     ·obtain ⟨i, hi⟩ : ∃ i, k = i + 1 := ⟨k - 1, by omega⟩
      obtain ⟨s, hs⟩ := some_at (show i < l.length by omega)
      have hrs2 : (bm s m && resM (prvM l (k + 1)) (l.drop (k + 1))) = R := by
       have h := HRS.out
       rw [HO.out, Bool.true_and] at h
       rw [← h, hi]
       show _ = ((match l[i]? with | none => true | some q => bm q m) && _)
       rw [hs]
      have hd : decide (0 < k) = true := decide_eq_true (by omega)
      have hwr : IntKind.i64.wrap ((k : Int) - 1) = (i : Int) := by rw [show (k : Int) - 1 = (i : Int) by omega]; exact IntWalk.i64_in _ (by omega)
      have hi0 : (0 : Int) ≤ (i : Int) := by omega
      have hil : (i : Int) < (l.length : Int) := by omega
      have HS := Lib.hid hs
      have HRN := Lib.hid hrs2
      clear hi hk0 hs hrs2 HRS
      cases hbm : bm s m with
      | false =>
       have HB := Lib.hid hbm
       clear hbm
       go_wp2_with fail
       refine quiet_held (fun w' => At w' w'.heap.size (some ⟨b0, o0, none⟩) (mvs l) ∧ Is w' wr.heap.size 30 [.int .i64 (mc m), .int .i64 (mr m), .int .i64 (pa (mw m)), .int .i64 (ch (mw m)), .string (ba (nm (mw m))), .float .f64 (rk (mw m))] ∧ Below w.heap.size w w') (by kernel_rfl) (by kernel_rfl) (mbox_start m hcw hbw) ?_
       repeat (first
        | go_big_quiet_skip
        | (simp only [hd])
        | (simp only [hwr])
        | (go_big_quiet_want; go_big_quiet_op; go_big_quiet_on)
        | (go_big_quiet_want; apply Exists.intro; refine ⟨fun wq hq => ?_, ?_⟩; (focus (obtain ⟨b9, o9, e9, -, d0, d1, d2, d3, d4, d5⟩ := move_cells hq.1 HX.out; cases e9; obtain ⟨p0, p1, p2, p3, p4, p5⟩ := box6 (m := m) hq.2.1; obtain ⟨b9, o9, e9, -, g0, g1, -⟩ := move_cells hq.1 HS.out; cases e9; unfold Oper.quietAt; go_simp; all_goals (first | rfl | (refine (mone_k HO.out hnm _).mono ?_; rintro e w5 ⟨rfl, hbn⟩; exact ⟨rfl, mbox_keep hq hbn⟩) | (refine (bef_k (b := false) HB.out _).mono ?_; rintro e w5 ⟨rfl, hbn⟩; exact ⟨rfl, mbox_keep hq hbn⟩)))); simp only [Act.put, List.setIfInBounds_toArray, List.set_cons_zero, List.set_cons_succ]; go_big_quiet_on))
       refine wpQuiet_nil ?_
       intro wq hq
       obtain ⟨-, -, hwq⟩ := hq
       have hf : R = false := by rw [← HRN.out, HB.out, Bool.false_and]
       subst hf
       go_wp2_with fail
       go_ret
       exact ⟨rfl, hwq⟩
      | true =>
       have HB := Lib.hid hbm
       clear hbm
       go_wp2_with fail
       refine quiet_held (fun w' => At w' w'.heap.size (some ⟨b0, o0, none⟩) (mvs l) ∧ Is w' wr.heap.size 30 [.int .i64 (mc m), .int .i64 (mr m), .int .i64 (pa (mw m)), .int .i64 (ch (mw m)), .string (ba (nm (mw m))), .float .f64 (rk (mw m))] ∧ Below w.heap.size w w') (by kernel_rfl) (by kernel_rfl) (mbox_start m hcw hbw) ?_
       repeat (first
        | go_big_quiet_skip
        | (simp only [hd])
        | (simp only [hwr])
        | (go_big_quiet_want; go_big_quiet_op; go_big_quiet_on)
        | (go_big_quiet_want; apply Exists.intro; refine ⟨fun wq hq => ?_, ?_⟩; (focus (obtain ⟨b9, o9, e9, -, d0, d1, d2, d3, d4, d5⟩ := move_cells hq.1 HX.out; cases e9; obtain ⟨p0, p1, p2, p3, p4, p5⟩ := box6 (m := m) hq.2.1; obtain ⟨b9, o9, e9, -, g0, g1, -⟩ := move_cells hq.1 HS.out; cases e9; unfold Oper.quietAt; go_simp; all_goals (first | rfl | (refine (mone_k HO.out hnm _).mono ?_; rintro e w5 ⟨rfl, hbn⟩; exact ⟨rfl, mbox_keep hq hbn⟩) | (refine (bef_k (b := true) HB.out _).mono ?_; rintro e w5 ⟨rfl, hbn⟩; exact ⟨rfl, mbox_keep hq hbn⟩)))); simp only [Act.put, List.setIfInBounds_toArray, List.set_cons_zero, List.set_cons_succ]; go_big_quiet_on))
       refine wpQuiet_nil ?_
       intro wq hq
       obtain ⟨-, -, hwq⟩ := hq
       go_wp2_with fail
       go_roundw
       case rel => exact ⟨k + 1, by go_num, by omega, by rw [← HRN.out, HB.out, Bool.true_and], hwq⟩
       case measure => simp only [Go.RowKit.intOf]; omega
   ·obtain rfl : k = l.length := by omega
    rw [List.drop_length] at hres
    have hf : R = true := by rw [← hres]; cases prvM l l.length <;> rfl
    subst hf
    clear hres
    go_wp2_with fail
    go_ret
    exact ⟨rfl, hbw⟩
end Go.Proofs.Ytojhenpaeedimaa
