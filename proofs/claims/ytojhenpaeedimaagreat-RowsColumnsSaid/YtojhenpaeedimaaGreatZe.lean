/-
 Whether moves may be: the program's, and the document's.
 Whether moves may be: the program's.
 Encode of package rows, and the document's.
 Encode, the document's.
-/
import Derived.Test.YtojhenpaeedimaaGreatUg
import Derived.Test.YtojhenpaeedimaaGreatZf
import Derived.Test.YtojhenpaeedimaaGreatMg
section
namespace Go.Proofs.YtojhenpaeedimaaGreat
open Go.RowKit Go.IntWalk
open Wd Fl
set_option maxRecDepth 100000
attribute [local go_sem] Oper.semAt_some
theorem mone_k {m : Mv} {b : Bool} (h : oneM m = b) (hn : (nm (mw m)).length ≤ maxLen) (w : World) :
  Calls Tryz.prog 92 #[.agg #[.int .i64 (mc m), .int .i64 (mr m), .int .i64 (pa (mw m)), .int .i64 (ch (mw m)), .string (ba (nm (mw m))), .float .f64 (rk (mw m))]] w fun e w' => e = .returned (.bool b) ∧ Below w.heap.size w w' := by
 subst h
 exact mone_c m hn w
theorem rmone_k {m : Mv} {b : Bool} (h : oneM m = b) (hn : (nm (mw m)).length ≤ maxLen) (w : World) :
  Calls Tryz.prog 75 #[.agg #[.int .i64 (mc m), .int .i64 (mr m), .int .i64 (pa (mw m)), .int .i64 (ch (mw m)), .string (ba (nm (mw m))), .float .f64 (rk (mw m))]] w fun e w' => e = .returned (.bool b) ∧ Below w.heap.size w w' := by
 subst h
 exact rmone_c m hn w
theorem bef_k {c1 r1 c2 r2 : Int} {b : Bool} (h : befT c1 r1 c2 r2 = b) (w : World) :
  Calls Tryz.prog 93 #[.agg #[.int .i64 c1, .int .i64 r1], .agg #[.int .i64 c2, .int .i64 r2]] w fun e w' => e = .returned (.bool b) ∧ Below w.heap.size w w' := by
 subst h
 exact bef_c c1 r1 c2 r2 w
theorem rbef_k {c1 r1 c2 r2 : Int} {b : Bool} (h : befT c1 r1 c2 r2 = b) (w : World) :
  Calls Tryz.prog 84 #[.agg #[.int .i64 c1, .int .i64 r1], .agg #[.int .i64 c2, .int .i64 r2]] w fun e w' => e = .returned (.bool b) ∧ Below w.heap.size w w' := by
 subst h
 exact rbef_c c1 r1 c2 r2 w
theorem moves_keep {A : Option Addr} {l : List Mv} {w w1 w2 : World} (h : At w1 w1.heap.size A (mvs l) ∧ Below w.heap.size w w1) (hb : Below w1.heap.size w1 w2) : At w2 w2.heap.size A (mvs l) ∧ Below w.heap.size w w2 :=
 ⟨h.1.keep hb, h.2.trans (hb.mono h.2.size)⟩
/-- moves, and one of them in a box, are kept -/
theorem mbox_keep {A : Option Addr} {l : List Mv} {w w1 w2 : World} {G : Nat} {vs : List Value} (h : At w1 w1.heap.size A (mvs l) ∧ Is w1 G 51 vs ∧ Below w.heap.size w w1) (hb : Below w1.heap.size w1 w2) : At w2 w2.heap.size A (mvs l) ∧ Is w2 G 51 vs ∧ Below w.heap.size w w2 :=
 ⟨h.1.keep hb, is_below h.2.1 hb (is_lt h.2.1), h.2.2.trans (hb.mono h.2.2.size)⟩
theorem mbox_start {A : Option Addr} {l : List Mv} {w wr : World} (m : Mv) (h : At wr wr.heap.size A (mvs l)) (hb : Below w.heap.size w wr) :
  At (wr.alloc (.cells #[.int .i64 (mc m), .int .i64 (mr m), .int .i64 (pa (mw m)), .int .i64 (ch (mw m)), .string (ba (nm (mw m))), .float .f64 (rk (mw m))] 51)).drew (wr.alloc (.cells #[.int .i64 (mc m), .int .i64 (mr m), .int .i64 (pa (mw m)), .int .i64 (ch (mw m)), .string (ba (nm (mw m))), .float .f64 (rk (mw m))] 51)).drew.heap.size A (mvs l) ∧ Is (wr.alloc (.cells #[.int .i64 (mc m), .int .i64 (mr m), .int .i64 (pa (mw m)), .int .i64 (ch (mw m)), .string (ba (nm (mw m))), .float .f64 (rk (mw m))] 51)).drew wr.heap.size 51 [.int .i64 (mc m), .int .i64 (mr m), .int .i64 (pa (mw m)), .int .i64 (ch (mw m)), .string (ba (nm (mw m))), .float .f64 (rk (mw m))] ∧ Below w.heap.size w (wr.alloc (.cells #[.int .i64 (mc m), .int .i64 (mr m), .int .i64 (pa (mw m)), .int .i64 (ch (mw m)), .string (ba (nm (mw m))), .float .f64 (rk (mw m))] 51)).drew :=
 ⟨h.keep ((Below.refl _ _).alloc (Nat.le_refl _) _).drew, is_new wr 51 [.int .i64 (mc m), .int .i64 (mr m), .int .i64 (pa (mw m)), .int .i64 (ch (mw m)), .string (ba (nm (mw m))), .float .f64 (rk (mw m))], (hb.alloc hb.size _).drew⟩
set_option maxHeartbeats 8000000 in
theorem rmmay_c (A : Option Addr) (cap : Nat) (l : List Mv) (hl : l.length ≤ maxLen) (hn : ∀ m ∈ l, (nm (mw m)).length ≤ maxLen) (w : World) (hc : At w w.heap.size A (mvs l)) :
  Calls Tryz.prog 27 #[.slice A l.length cap] w fun e w' => e = .returned (.bool (mayM l)) ∧ Below w.heap.size w w' := by
 obtain ⟨R, hR⟩ : ∃ R, mayM l = R := ⟨_, rfl⟩
 rw [hR]
 have HC := Lib.hid hc
 have HN := Lib.hid hn
 unfold maxLen at hl
 clear hc hn
 by_cases hlong : 2000 < l.length
 ·have hli : (2000 : Int) < (l.length : Int) := by omega
  rw [mayM_long hlong] at hR
  subst hR
  go_enter Tryz.func27, Tryz.ntmps27
  go_wp2_with fail
  go_ret
  exact ⟨rfl, Below.refl _ _⟩
 ·rw [mayM_short (by omega)] at hR
  have HR := Lib.hid hR
  clear hR
  go_enter Tryz.func27, Tryz.ntmps27
  go_wp2_with fail
  go_loopw [3] (fun i wr => ∃ k : Nat, i = .int .i64 (k : Int) ∧ k ≤ l.length ∧ resM (prvM l k) (l.drop k) = R ∧ Below w.heap.size w wr) (fun i _ => l.length - (Go.RowKit.intOf i).toNat)
  case atStart => exact ⟨0, rfl, Nat.zero_le _, HR.out, Below.refl _ _⟩
  case round =>
   obtain ⟨k, rfl, hk, hres, hbw⟩ := hrel
   by_cases hlt : k < l.length
   ·obtain ⟨m, hm⟩ := some_at hlt
    have hcw := HC.out.keep hbw
    obtain ⟨b0, o0, rfl, hb0, c0, c1, c2, c3, c4, c5⟩ := move_cells hcw hm
    have hnm := HN.out m (mem_at hm)
    have hki : (0 : Int) ≤ (k : Int) := by omega
    have hkl : (k : Int) < (l.length : Int) := by omega
    rw [resM_step hm] at hres
    have HX := Lib.hid hm
    have HRS := Lib.hid hres
    cases ho : oneM m with
    | false =>
     have HO := Lib.hid ho
     clear ho hm hres
     go_wp2_with fail
     refine quiet_held (fun w' => At w' w'.heap.size (some ⟨b0, o0, none⟩) (mvs l) ∧ Below w.heap.size w w') (by kernel_rfl) (by kernel_rfl) (⟨at_drewE hcw ⟨1, rfl⟩, hbw.drew⟩) ?_
     repeat (first
      | go_big_quiet_skip
      | (go_big_quiet_want; go_big_quiet_op; go_big_quiet_on)
      | (go_big_quiet_want; apply Exists.intro; refine ⟨fun wq hq => ?_, ?_⟩; (focus (obtain ⟨b9, o9, e9, -, d0, d1, d2, d3, d4, d5⟩ := move_cells hq.1 HX.out; cases e9; unfold Oper.quietAt; go_simp; all_goals (first | rfl | (refine (rmone_k HO.out hnm _).mono ?_; rintro e w5 ⟨rfl, hbn⟩; exact ⟨rfl, moves_keep hq hbn⟩)))); simp only [Act.put, List.setIfInBounds_toArray, List.set_cons_zero, List.set_cons_succ]; go_big_quiet_on))
     refine wpQuiet_nil ?_
     intro wq hq
     obtain ⟨-, hwq⟩ := hq
     have hf : R = false := by rw [← HRS.out, HO.out, Bool.false_and]
     subst hf
     go_wp2_with fail
     go_ret
     exact ⟨rfl, hwq⟩
    | true =>
     have HO := Lib.hid ho
     clear ho hm hres
     by_cases hk0 : k = 0
     ·have hd : decide (0 < k) = false := decide_eq_false (by omega)
      have hrn : resM (prvM l (k + 1)) (l.drop (k + 1)) = R := by
       have h := HRS.out
       subst hk0
       rw [HO.out, Bool.true_and] at h
       exact h
      have HRN := Lib.hid hrn
      clear hk0 hrn HRS
      go_wp2_with fail
      refine quiet_held (fun w' => At w' w'.heap.size (some ⟨b0, o0, none⟩) (mvs l) ∧ Below w.heap.size w w') (by kernel_rfl) (by kernel_rfl) (⟨at_drewE hcw ⟨1, rfl⟩, hbw.drew⟩) ?_
      repeat (first
       | go_big_quiet_skip
       | (simp only [hd])
       | (go_big_quiet_want; go_big_quiet_op; go_big_quiet_on)
       | (go_big_quiet_want; apply Exists.intro; refine ⟨fun wq hq => ?_, ?_⟩; (focus (obtain ⟨b9, o9, e9, -, d0, d1, d2, d3, d4, d5⟩ := move_cells hq.1 HX.out; cases e9; unfold Oper.quietAt; go_simp; all_goals (first | rfl | (refine (rmone_k HO.out hnm _).mono ?_; rintro e w5 ⟨rfl, hbn⟩; exact ⟨rfl, moves_keep hq hbn⟩)))); simp only [Act.put, List.setIfInBounds_toArray, List.set_cons_zero, List.set_cons_succ]; go_big_quiet_on))
      refine wpQuiet_nil ?_
      intro wq hq
      obtain ⟨-, hwq⟩ := hq
      go_wp2_with fail
      go_roundw
      case rel => exact ⟨k + 1, by go_num, by omega, HRN.out, hwq⟩
      case measure => simp only [Go.RowKit.intOf]; omega
     ·obtain ⟨i, hi⟩ : ∃ i, k = i + 1 := ⟨k - 1, by omega⟩
      obtain ⟨s, hs⟩ := some_at (show i < l.length by omega)
      have hrs2 : (bm s m && resM (prvM l (k + 1)) (l.drop (k + 1))) = R := by
       have h := HRS.out
       rw [HO.out, Bool.true_and] at h
       rw [← h, hi]
       show _ = ((match l[i]? with | none => true | some q => bm q m) && _)
       rw [hs]
      have hd : decide (0 < k) = true := decide_eq_true (by omega)
      have hwr : IntKind.i64.wrap ((k : Int) - 1) = (i : Int) := by rw [show (k : Int) - 1 = (i : Int) by omega]; exact IntWalk.i64_in _ (by omega)
      have hi0 : (0 : Int) ≤ (i : Int) := by omega
      have hil : (i : Int) < (l.length : Int) := by omega
      have HS := Lib.hid hs
      have HRN := Lib.hid hrs2
      clear hi hk0 hs hrs2 HRS
      cases hbm : bm s m with
      | false =>
       have HB := Lib.hid hbm
       clear hbm
       go_wp2_with fail
       refine quiet_held (fun w' => At w' w'.heap.size (some ⟨b0, o0, none⟩) (mvs l) ∧ Below w.heap.size w w') (by kernel_rfl) (by kernel_rfl) (⟨at_drewE hcw ⟨1, rfl⟩, hbw.drew⟩) ?_
       repeat (first
        | go_big_quiet_skip
        | (simp only [hd])
        | (simp only [hwr])
        | (go_big_quiet_want; go_big_quiet_op; go_big_quiet_on)
        | (go_big_quiet_want; apply Exists.intro; refine ⟨fun wq hq => ?_, ?_⟩; (focus (obtain ⟨b9, o9, e9, -, d0, d1, d2, d3, d4, d5⟩ := move_cells hq.1 HX.out; cases e9; obtain ⟨b9, o9, e9, -, g0, g1, -⟩ := move_cells hq.1 HS.out; cases e9; unfold Oper.quietAt; go_simp; all_goals (first | rfl | (refine (rmone_k HO.out hnm _).mono ?_; rintro e w5 ⟨rfl, hbn⟩; exact ⟨rfl, moves_keep hq hbn⟩) | (refine (rbef_k (b := false) HB.out _).mono ?_; rintro e w5 ⟨rfl, hbn⟩; exact ⟨rfl, moves_keep hq hbn⟩)))); simp only [Act.put, List.setIfInBounds_toArray, List.set_cons_zero, List.set_cons_succ]; go_big_quiet_on))
       refine wpQuiet_nil ?_
       intro wq hq
       obtain ⟨-, hwq⟩ := hq
       have hf : R = false := by rw [← HRN.out, HB.out, Bool.false_and]
       subst hf
       go_wp2_with fail
       go_ret
       exact ⟨rfl, hwq⟩
      | true =>
       have HB := Lib.hid hbm
       clear hbm
       go_wp2_with fail
       refine quiet_held (fun w' => At w' w'.heap.size (some ⟨b0, o0, none⟩) (mvs l) ∧ Below w.heap.size w w') (by kernel_rfl) (by kernel_rfl) (⟨at_drewE hcw ⟨1, rfl⟩, hbw.drew⟩) ?_
       repeat (first
        | go_big_quiet_skip
        | (simp only [hd])
        | (simp only [hwr])
        | (go_big_quiet_want; go_big_quiet_op; go_big_quiet_on)
        | (go_big_quiet_want; apply Exists.intro; refine ⟨fun wq hq => ?_, ?_⟩; (focus (obtain ⟨b9, o9, e9, -, d0, d1, d2, d3, d4, d5⟩ := move_cells hq.1 HX.out; cases e9; obtain ⟨b9, o9, e9, -, g0, g1, -⟩ := move_cells hq.1 HS.out; cases e9; unfold Oper.quietAt; go_simp; all_goals (first | rfl | (refine (rmone_k HO.out hnm _).mono ?_; rintro e w5 ⟨rfl, hbn⟩; exact ⟨rfl, moves_keep hq hbn⟩) | (refine (rbef_k (b := true) HB.out _).mono ?_; rintro e w5 ⟨rfl, hbn⟩; exact ⟨rfl, moves_keep hq hbn⟩)))); simp only [Act.put, List.setIfInBounds_toArray, List.set_cons_zero, List.set_cons_succ]; go_big_quiet_on))
       refine wpQuiet_nil ?_
       intro wq hq
       obtain ⟨-, hwq⟩ := hq
       go_wp2_with fail
       go_roundw
       case rel => exact ⟨k + 1, by go_num, by omega, by rw [← HRN.out, HB.out, Bool.true_and], hwq⟩
       case measure => simp only [Go.RowKit.intOf]; omega
   ·obtain rfl : k = l.length := by omega
    rw [List.drop_length] at hres
    have hf : R = true := by rw [← hres]; cases prvM l l.length <;> rfl
    subst hf
    clear hres
    go_wp2_with fail
    go_ret
    exact ⟨rfl, hbw⟩
end Go.Proofs.YtojhenpaeedimaaGreat
end
section
namespace Go.Proofs.YtojhenpaeedimaaGreat
open Go.RowKit Go.IntWalk
open Wd Fl
set_option maxRecDepth 100000
attribute [local go_sem] Oper.semAt_some
set_option maxHeartbeats 8000000 in
theorem mmay_c (A : Option Addr) (cap : Nat) (l : List Mv) (hl : l.length ≤ maxLen) (hn : ∀ m ∈ l, (nm (mw m)).length ≤ maxLen) (w : World) (hc : At w w.heap.size A (mvs l)) :
  Calls Tryz.prog 31 #[.slice A l.length cap] w fun e w' => e = .returned (.bool (mayM l)) ∧ Below w.heap.size w w' := by
 obtain ⟨R, hR⟩ : ∃ R, mayM l = R := ⟨_, rfl⟩
 rw [hR]
 have HC := Lib.hid hc
 have HN := Lib.hid hn
 unfold maxLen at hl
 clear hc hn
 by_cases hlong : 2000 < l.length
 ·have hli : (2000 : Int) < (l.length : Int) := by omega
  rw [mayM_long hlong] at hR
  subst hR
  go_enter Tryz.func31, Tryz.ntmps31
  go_wp2_with fail
  go_ret
  exact ⟨rfl, Below.refl _ _⟩
 ·rw [mayM_short (by omega)] at hR
  have HR := Lib.hid hR
  clear hR
  go_enter Tryz.func31, Tryz.ntmps31
  go_wp2_with fail
  go_loopw [10] (fun i wr => ∃ k : Nat, i = .int .i64 (k : Int) ∧ k ≤ l.length ∧ resM (prvM l k) (l.drop k) = R ∧ Below w.heap.size w wr) (fun i _ => l.length - (Go.RowKit.intOf i).toNat)
  case atStart => exact ⟨0, rfl, Nat.zero_le _, HR.out, Below.refl _ _⟩
  case round =>
   obtain ⟨k, rfl, hk, hres, hbw⟩ := hrel
   by_cases hlt : k < l.length
   ·obtain ⟨m, hm⟩ := some_at hlt
    have hcw := HC.out.keep hbw
    obtain ⟨b0, o0, rfl, hb0, c0, c1, c2, c3, c4, c5⟩ := move_cells hcw hm
    have hnm := HN.out m (mem_at hm)
    have hki : (0 : Int) ≤ (k : Int) := by omega
    have hkl : (k : Int) < (l.length : Int) := by omega
    rw [resM_step hm] at hres
    have HX := Lib.hid hm
    have HRS := Lib.hid hres
    cases ho : oneM m with
    | false =>
     have HO := Lib.hid ho
     clear ho hm hres
     go_wp2_with fail
     refine quiet_held (fun w' => At w' w'.heap.size (some ⟨b0, o0, none⟩) (mvs l) ∧ Is w' wr.heap.size 51 [.int .i64 (mc m), .int .i64 (mr m), .int .i64 (pa (mw m)), .int .i64 (ch (mw m)), .string (ba (nm (mw m))), .float .f64 (rk (mw m))] ∧ Below w.heap.size w w') (by kernel_rfl) (by kernel_rfl) (mbox_start m hcw hbw) ?_
     repeat (first
      | go_big_quiet_skip
      | (go_big_quiet_want; go_big_quiet_op; go_big_quiet_on)
      | (go_big_quiet_want; apply Exists.intro; refine ⟨fun wq hq => ?_, ?_⟩; (focus (obtain ⟨b9, o9, e9, -, d0, d1, d2, d3, d4, d5⟩ := move_cells hq.1 HX.out; cases e9; obtain ⟨p0, p1, p2, p3, p4, p5⟩ := box6 (m := m) hq.2.1; unfold Oper.quietAt; go_simp; all_goals (first | rfl | (refine (mone_k HO.out hnm _).mono ?_; rintro e w5 ⟨rfl, hbn⟩; exact ⟨rfl, mbox_keep hq hbn⟩)))); simp only [Act.put, List.setIfInBounds_toArray, List.set_cons_zero, List.set_cons_succ]; go_big_quiet_on))
     refine wpQuiet_nil ?_
     intro wq hq
     obtain ⟨-, -, hwq⟩ := hq
     have hf : R = false := by rw [← HRS.out, HO.out, Bool.false_and]
     subst hf
     go_wp2_with fail
     go_ret
     exact ⟨rfl, hwq⟩
    | true =>
     have HO := Lib.hid ho
     clear ho hm hres
     by_cases hk0 : k = 0
     ·have hd : decide (0 < k) = false := decide_eq_false (by omega)
      have hrn : resM (prvM l (k + 1)) (l.drop (k + 1)) = R := by
       have h := HRS.out
       subst hk0
       rw [HO.out, Bool.true_and] at h
       exact h
      have HRN := Lib.hid hrn
      clear hk0 hrn HRS
      go_wp2_with fail
      refine quiet_held (fun w' => At w' w'.heap.size (some ⟨b0, o0, none⟩) (mvs l) ∧ Is w' wr.heap.size 51 [.int .i64 (mc m), .int .i64 (mr m), .int .i64 (pa (mw m)), .int .i64 (ch (mw m)), .string (ba (nm (mw m))), .float .f64 (rk (mw m))] ∧ Below w.heap.size w w') (by kernel_rfl) (by kernel_rfl) (mbox_start m hcw hbw) ?_
      repeat (first
       | go_big_quiet_skip
       | (simp only [hd])
       | (go_big_quiet_want; go_big_quiet_op; go_big_quiet_on)
       | (go_big_quiet_want; apply Exists.intro; refine ⟨fun wq hq => ?_, ?_⟩; (focus (obtain ⟨b9, o9, e9, -, d0, d1, d2, d3, d4, d5⟩ := move_cells hq.1 HX.out; cases e9; obtain ⟨p0, p1, p2, p3, p4, p5⟩ := box6 (m := m) hq.2.1; unfold Oper.quietAt; go_simp; all_goals (first | rfl | (refine (mone_k HO.out hnm _).mono ?_; rintro e w5 ⟨rfl, hbn⟩; exact ⟨rfl, mbox_keep hq hbn⟩)))); simp only [Act.put, List.setIfInBounds_toArray, List.set_cons_zero, List.set_cons_succ]; go_big_quiet_on))
      refine wpQuiet_nil ?_
      intro wq hq
      obtain ⟨-, -, hwq⟩ := hq
      go_wp2_with fail
      go_roundw
      case rel => exact ⟨k + 1, by go_num, by omega, HRN.out, hwq⟩
      case measure => simp only [Go.RowKit.intOf]; omega
     ·obtain ⟨i, hi⟩ : ∃ i, k = i + 1 := ⟨k - 1, by omega⟩
      obtain ⟨s, hs⟩ := some_at (show i < l.length by omega)
      have hrs2 : (bm s m && resM (prvM l (k + 1)) (l.drop (k + 1))) = R := by
       have h := HRS.out
       rw [HO.out, Bool.true_and] at h
       rw [← h, hi]
       show _ = ((match l[i]? with | none => true | some q => bm q m) && _)
       rw [hs]
      have hd : decide (0 < k) = true := decide_eq_true (by omega)
      have hwr : IntKind.i64.wrap ((k : Int) - 1) = (i : Int) := by rw [show (k : Int) - 1 = (i : Int) by omega]; exact IntWalk.i64_in _ (by omega)
      have hi0 : (0 : Int) ≤ (i : Int) := by omega
      have hil : (i : Int) < (l.length : Int) := by omega
      have HS := Lib.hid hs
      have HRN := Lib.hid hrs2
      clear hi hk0 hs hrs2 HRS
      cases hbm : bm s m with
      | false =>
       have HB := Lib.hid hbm
       clear hbm
       go_wp2_with fail
       refine quiet_held (fun w' => At w' w'.heap.size (some ⟨b0, o0, none⟩) (mvs l) ∧ Is w' wr.heap.size 51 [.int .i64 (mc m), .int .i64 (mr m), .int .i64 (pa (mw m)), .int .i64 (ch (mw m)), .string (ba (nm (mw m))), .float .f64 (rk (mw m))] ∧ Below w.heap.size w w') (by kernel_rfl) (by kernel_rfl) (mbox_start m hcw hbw) ?_
       repeat (first
        | go_big_quiet_skip
        | (simp only [hd])
        | (simp only [hwr])
        | (go_big_quiet_want; go_big_quiet_op; go_big_quiet_on)
        | (go_big_quiet_want; apply Exists.intro; refine ⟨fun wq hq => ?_, ?_⟩; (focus (obtain ⟨b9, o9, e9, -, d0, d1, d2, d3, d4, d5⟩ := move_cells hq.1 HX.out; cases e9; obtain ⟨p0, p1, p2, p3, p4, p5⟩ := box6 (m := m) hq.2.1; obtain ⟨b9, o9, e9, -, g0, g1, -⟩ := move_cells hq.1 HS.out; cases e9; unfold Oper.quietAt; go_simp; all_goals (first | rfl | (refine (mone_k HO.out hnm _).mono ?_; rintro e w5 ⟨rfl, hbn⟩; exact ⟨rfl, mbox_keep hq hbn⟩) | (refine (bef_k (b := false) HB.out _).mono ?_; rintro e w5 ⟨rfl, hbn⟩; exact ⟨rfl, mbox_keep hq hbn⟩)))); simp only [Act.put, List.setIfInBounds_toArray, List.set_cons_zero, List.set_cons_succ]; go_big_quiet_on))
       refine wpQuiet_nil ?_
       intro wq hq
       obtain ⟨-, -, hwq⟩ := hq
       have hf : R = false := by rw [← HRN.out, HB.out, Bool.false_and]
       subst hf
       go_wp2_with fail
       go_ret
       exact ⟨rfl, hwq⟩
      | true =>
       have HB := Lib.hid hbm
       clear hbm
       go_wp2_with fail
       refine quiet_held (fun w' => At w' w'.heap.size (some ⟨b0, o0, none⟩) (mvs l) ∧ Is w' wr.heap.size 51 [.int .i64 (mc m), .int .i64 (mr m), .int .i64 (pa (mw m)), .int .i64 (ch (mw m)), .string (ba (nm (mw m))), .float .f64 (rk (mw m))] ∧ Below w.heap.size w w') (by kernel_rfl) (by kernel_rfl) (mbox_start m hcw hbw) ?_
       repeat (first
        | go_big_quiet_skip
        | (simp only [hd])
        | (simp only [hwr])
        | (go_big_quiet_want; go_big_quiet_op; go_big_quiet_on)
        | (go_big_quiet_want; apply Exists.intro; refine ⟨fun wq hq => ?_, ?_⟩; (focus (obtain ⟨b9, o9, e9, -, d0, d1, d2, d3, d4, d5⟩ := move_cells hq.1 HX.out; cases e9; obtain ⟨p0, p1, p2, p3, p4, p5⟩ := box6 (m := m) hq.2.1; obtain ⟨b9, o9, e9, -, g0, g1, -⟩ := move_cells hq.1 HS.out; cases e9; unfold Oper.quietAt; go_simp; all_goals (first | rfl | (refine (mone_k HO.out hnm _).mono ?_; rintro e w5 ⟨rfl, hbn⟩; exact ⟨rfl, mbox_keep hq hbn⟩) | (refine (bef_k (b := true) HB.out _).mono ?_; rintro e w5 ⟨rfl, hbn⟩; exact ⟨rfl, mbox_keep hq hbn⟩)))); simp only [Act.put, List.setIfInBounds_toArray, List.set_cons_zero, List.set_cons_succ]; go_big_quiet_on))
       refine wpQuiet_nil ?_
       intro wq hq
       obtain ⟨-, -, hwq⟩ := hq
       go_wp2_with fail
       go_roundw
       case rel => exact ⟨k + 1, by go_num, by omega, by rw [← HRN.out, HB.out, Bool.true_and], hwq⟩
       case measure => simp only [Go.RowKit.intOf]; omega
   ·obtain rfl : k = l.length := by omega
    rw [List.drop_length] at hres
    have hf : R = true := by rw [← hres]; cases prvM l l.length <;> rfl
    subst hf
    clear hres
    go_wp2_with fail
    go_ret
    exact ⟨rfl, hbw⟩
end Go.Proofs.YtojhenpaeedimaaGreat
end
section
namespace Go.Proofs.YtojhenpaeedimaaGreat
open Go.RowKit Go.IntWalk
open Pk Rf Fl
set_option maxRecDepth 100000
attribute [local go_sem] Oper.semAt_some
theorem hadd_v (a b : List UInt8) (h : a.length + b.length ≤ 9223372036854775807) (w : World) : (Op.stringOp .add (ba a) (ba b)).run Tryz.prog w = .ok (.string (ba (a ++ b))) w := by
 have e : ba a ++ ba b = ba (a ++ b) := by
  apply ByteArray.ext
  simp [ba]
 rw [run_string_add_sum w (ba a) (ba b) (by rw [ba_size, ba_size]; exact h), e]
/-- such moves as may come -/
def Mok (l : List Mv) : Prop := ∀ m ∈ l, rk (mw m) < 18446744073709551616 ∧ (nm (mw m)).length ≤ 100000
def encN (l : List Mv) (k : Nat) : List UInt8 := startB ++ (put l.length ++ (l.take k).flatMap oneB)
theorem encN_step {l : List Mv} {k : Nat} {m : Mv} (h : l[k]? = some m) : encN l (k + 1) = encN l k ++ oneB m := by
 unfold encN; rw [List.take_add_one, h]; simp
theorem encN_zero (l : List Mv) : encN l 0 = startB ++ put l.length := by simp [encN]
theorem encN_all (l : List Mv) : encN l l.length = encB l := by unfold encN encB; rw [List.take_length]
theorem one_len2 {m : Mv} (h : (nm (mw m)).length ≤ 100000) : (oneB m).length ≤ 100058 := by
 rcases one_len m with h1 | h1 <;> omega
theorem flat_len {l : List Mv} (h : Mok l) : (l.flatMap oneB).length ≤ l.length * 100058 := by
 induction l with
 | nil => simp
 | cons m t ih =>
  rw [List.flatMap_cons, List.length_append, List.length_cons]
  have h1 := one_len2 (h m (List.mem_cons_self ..)).2
  have h2 := ih fun x hx => h x (List.mem_cons_of_mem _ hx)
  omega
theorem encN_len {l : List Mv} (h : Mok l) (hl : l.length ≤ 10000) (k : Nat) : (encN l k).length ≤ 1100000000 := by
 have h1 := flat_len (l := l.take k) fun x hx => h x (List.mem_of_mem_take hx)
 have h2 := put_len10 (n := l.length) (by omega)
 have h3 : (l.take k).length ≤ 10000 := by rw [List.length_take]; omega
 have h4 : (l.take k).length * 100058 ≤ 10000 * 100058 := Nat.mul_le_mul_right _ h3
 unfold encN
 rw [List.length_append, List.length_append, show startB.length = 5 from rfl]
 omega
theorem bbyte_v {w0 : World} {B b : Nat} {L : List UInt8} {W : World} (h : Bd w0 B b L W) (hl : L.length ≤ 1000) :
  Calls Tryz.prog 193 #[.pointer (some ⟨b, 0, none⟩), .int .u8 1] W fun e w' => e = .returned .nilIface ∧ Bd w0 B b (L ++ [1]) w' := by
 have hw := Ck.writeByte_c B b L 1 W h.bld (by omega) h.sz
 exact hw.mono fun e w' hh => ⟨hh.1, hh.2.1, h.but.trans hh.2.2, Nat.le_trans h.sz hh.2.2.size, h.lt⟩
set_option maxHeartbeats 4000000 in
theorem join0_c (w : World) :
  Calls Tryz.prog 152 #[.int .i64 1, .slice none 0 0] w fun e w' => e = .returned (.tuple #[.string (ba startB), .int .i64 0]) ∧ Below w.heap.size w w' := by
 obtain ⟨W1, hW1⟩ : ∃ W1, W1 = w.alloc (.cells #[.pointer none, .slice none 0 0] 111) := ⟨_, rfl⟩
 have hd := Bd.start (w := w) (w0 := W1) (by rw [hW1]; exact Below.refl _ _)
 have hb : Below w.heap.size w W1 := by rw [hW1]; exact (Below.refl _ _).alloc (Nat.le_refl _) _
 have HD := Lib.hid hd
 have HB := Lib.hid hb
 have HW := Lib.hid hW1
 have hsz : W1.heap.size = w.heap.size + 1 := by rw [hW1]; simp
 clear hd hb hW1
 go_enter Tryz.func152, Tryz.ntmps152
 go_wp2_with fail
 rw [← HW.out]
 refine (bwrite_v (s := [66, 78, 83, 73]) HD.out (by simp)).mono ?_
 rintro e w2 ⟨rfl, hd2⟩
 have HD2 := Lib.hid hd2
 clear hd2
 go_wp2_with fail
 refine (bbyte_v HD2.out (by simp)).mono ?_
 rintro e w3 ⟨rfl, hd3⟩
 have HD3 := Lib.hid hd3
 clear hd3
 go_wp2_with fail
 refine wp_loop_rounds 1 ?_
 rw [rounds_succ]
 go_wp2_with fail
 refine (bstring_v HD3.out).mono ?_
 rintro e w4 ⟨rfl, hb4⟩
 have HB4 := Lib.hid hb4
 clear hb4
 go_wp2_with fail
 go_ret2
 exact ⟨rfl, (HD3.out.below HB.out (by omega) (Nat.le_refl _)).trans HB4.out⟩
theorem start_c (w : World) :
  Calls Tryz.prog 87 #[] w fun e w' => e = .returned (.string (ba startB)) ∧ Below w.heap.size w w' := by
 go_enter Tryz.func87, Tryz.ntmps87
 go_wp2_with fail
 refine (join0_c _).mono ?_
 rintro e w1 ⟨rfl, hb⟩
 have HB := Lib.hid hb
 clear hb
 go_wp2_with fail
 go_ret
 exact ⟨rfl, HB.out⟩
set_option maxHeartbeats 8000000 in
theorem pencode_c (A : Option Addr) (cap : Nat) (l : List Mv) (hl : l.length ≤ 10000) (ho : Mok l) (w : World) (hc : At w w.heap.size A (mvs l)) :
  Calls Tryz.prog 29 #[.slice A l.length cap] w fun e w' => e = .returned (.tuple #[.string (ba (encT l)), .int .i64 (encE l)]) ∧ Below w.heap.size w w' := by
 have HC := Lib.hid hc
 have HO := Lib.hid ho
 have hmx : l.length ≤ maxLen := by unfold maxLen; omega
 have HN := Lib.hid (show ∀ m ∈ l, (nm (mw m)).length ≤ maxLen from fun m hm => by have := (ho m hm).2; unfold maxLen; omega)
 have HEL := Lib.hid (fun k => encN_len ho hl k)
 have hwu : IntKind.u64.wrap (l.length : Int) = (l.length : Int) := by rw [IntKind.wrap_u64]; omega
 have hp10 := put_len10 (n := l.length) (by omega)
 clear hc ho
 cases hm : mayM l with
 | false =>
  have he : encT l = [] ∧ encE l = 1 := by unfold encT encE; rw [hm]; exact ⟨rfl, rfl⟩
  have HE := Lib.hid he
  have HM := Lib.hid hm
  clear hm he
  go_enter Tryz.func29, Tryz.ntmps29
  go_wp2_with fail
  refine (mmay_c A cap l hmx HN.out _ HC.out).mono ?_
  rintro e w1 ⟨rfl, hb⟩
  rw [HM.out]
  have HB := Lib.hid hb
  clear hb
  go_wp2_with fail
  go_ret2
  rw [HE.out.1, HE.out.2]
  exact ⟨rfl, HB.out⟩
 | true =>
  have he : encT l = encB l ∧ encE l = 0 := by unfold encT encE; rw [hm]; exact ⟨rfl, rfl⟩
  have HE := Lib.hid he
  have HM := Lib.hid hm
  clear hm he
  go_enter Tryz.func29, Tryz.ntmps29
  go_wp2_with fail
  refine (mmay_c A cap l hmx HN.out _ HC.out).mono ?_
  rintro e w1 ⟨rfl, hb⟩
  rw [HM.out]
  obtain ⟨W1, hW1⟩ : ∃ W1, W1 = w1.alloc (.cells #[.pointer none, .slice none 0 0] 111) := ⟨_, rfl⟩
  have hd := Bd.start (w := w1) (w0 := W1) (by rw [hW1]; exact Below.refl _ _)
  have hb1 : Below w.heap.size w W1 := by rw [hW1]; exact hb.alloc hb.size _
  have hsz : W1.heap.size = w1.heap.size + 1 := by rw [hW1]; simp
  have hs1 := hb.size
  have HD := Lib.hid hd
  have HB1 := Lib.hid hb1
  have HW := Lib.hid hW1
  clear hd hb1 hW1 hb
  go_wp2_with fail
  rw [← HW.out]
  refine (start_c _).mono ?_
  rintro e w2 ⟨rfl, hb2⟩
  have HD2 := Lib.hid (HD.out.step hb2)
  clear hb2
  go_wp2_with fail
  refine (bwrite_v HD2.out (by show 0 + startB.length ≤ _; rw [show startB.length = 5 from rfl]; omega)).mono ?_
  rintro e w3 ⟨rfl, hd3⟩
  have HD3 := Lib.hid hd3
  clear hd3
  go_wp2_with fail
  refine (put_c l.length (by omega) _).mono ?_
  rintro e w4 ⟨rfl, hb4⟩
  have HD4 := Lib.hid (HD3.out.step hb4)
  clear hb4
  go_wp2_with fail
  refine (bwrite_v HD4.out (by rw [List.nil_append, show startB.length = 5 from rfl]; omega)).mono ?_
  rintro e w5 ⟨rfl, hd5⟩
  rw [List.nil_append, ← encN_zero] at hd5
  have HD5 := Lib.hid hd5
  clear hd5 HD HD2 HD3 HD4
  go_wp2_with fail
  go_loopw [19] (fun i wr => ∃ k : Nat, i = .int .i64 (k : Int) ∧ k ≤ l.length ∧ Bd W1 W1.heap.size w1.heap.size (encN l k) wr) (fun i _ => l.length - (Go.RowKit.intOf i).toNat)
  case atStart => exact ⟨0, rfl, Nat.zero_le _, HD5.out⟩
  case round =>
   clear HD5
   obtain ⟨k, rfl, hk, hd⟩ := hrel
   have hel := HEL.out k
   have HDK := Lib.hid hd
   have hat := hd.at_ HB1.out hs1 HC.out
   clear hd
   by_cases hlt : k < l.length
   ·obtain ⟨m, hmk⟩ := some_at hlt
    have hki : (0 : Int) ≤ (k : Int) := by omega
    have hkl : (k : Int) < (l.length : Int) := by omega
    obtain ⟨b0, o0, rfl, hb0, c0, c1, c2, c3, c4, c5⟩ := move_cells hat hmk
    have hmo := HO.out m (List.mem_of_getElem? hmk)
    have hol := one_len2 hmo.2
    have HMK := Lib.hid hmk
    have HMO := Lib.hid hmo
    obtain ⟨W2, hW2⟩ : ∃ W2, W2 = wr.alloc (.cells #[.int .i64 (mc m), .int .i64 (mr m), .int .i64 (pa (mw m)), .int .i64 (ch (mw m)), .string (ba (nm (mw m))), .float .f64 (rk (mw m))] 51) := ⟨_, rfl⟩
    have HDW := Lib.hid (HDK.out.step (show Below wr.heap.size wr W2 by rw [hW2]; exact (Below.refl _ _).alloc (Nat.le_refl _) _))
    have HW2 := Lib.hid hW2
    clear hmk hmo hat hW2
    go_wp2_with fail
    rw [← HW2.out]
    refine (pone_c m HMO.out.1 HMO.out.2 _).mono ?_
    rintro e w6 ⟨rfl, hb6⟩
    have HD6 := Lib.hid (HDW.out.step hb6)
    clear hb6 c0 c1 c2 c3 c4 c5
    go_wp2_with fail
    refine (bwrite_v HD6.out (by omega)).mono ?_
    rintro e w7 ⟨rfl, hd7⟩
    have HD7 := Lib.hid hd7
    clear hd7
    go_wp2_with fail
    go_roundw
    case rel => exact ⟨k + 1, by go_num, by omega, by rw [encN_step HMK.out]; exact HD7.out⟩
    case measure => simp only [Go.RowKit.intOf]; omega
   ·obtain rfl : k = l.length := by omega
    have hall := encN_all l
    rw [hall] at HDK
    clear hat hall
    go_wp2_with fail
    refine (bstring_v HDK.out).mono ?_
    rintro e w6 ⟨rfl, hb6⟩
    have HB6 := Lib.hid hb6
    clear hb6
    go_wp2_with fail
    go_ret2
    rw [HE.out.1, HE.out.2]
    exact ⟨rfl, (HDK.out.below HB1.out (by omega) hs1).trans (HB6.out.mono hs1)⟩
end Go.Proofs.YtojhenpaeedimaaGreat
end
section
namespace Go.Proofs.YtojhenpaeedimaaGreat
open Go.RowKit Go.IntWalk
open Pk Rf Fl
set_option maxRecDepth 100000
attribute [local go_sem] Oper.semAt_some
end Go.Proofs.YtojhenpaeedimaaGreat
end
