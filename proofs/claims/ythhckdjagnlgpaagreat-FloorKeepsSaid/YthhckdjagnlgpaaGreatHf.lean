/-
 Those since a time: the program's, and the document's.
 Moves held against each other: the program's.
 The moves of steps, and the rows that stood ahead of them: the program's, and the document's.
-/
import Derived.Test.YthhckdjagnlgpaaGreatUh
import Derived.Test.YthhckdjagnlgpaaGreatTp
import Derived.Test.YthhckdjagnlgpaaGreatHc
section
namespace Go.Proofs.YthhckdjagnlgpaaGreat
open Go.RowKit Go.IntWalk
open Wd Fl
set_option maxRecDepth 100000
attribute [local go_sem] Oper.semAt_some
theorem mbef_k {c r : Int} {m : Mv} {b : Bool} (h : befM c r m = b) (w : World) :
  Calls Tryz.prog 153 #[.agg #[.int .i64 c, .int .i64 r], .agg #[.int .i64 (mc m), .int .i64 (mr m), .int .i64 (pa (mw m)), .int .i64 (ch (mw m)), .string (ba (nm (mw m))), .float .f64 (rk (mw m))]] w fun e w' => e = .returned (.bool b) ∧ Below w.heap.size w w' := by
 subst h
 exact mbefore_c c r m w
theorem sinM_yes {l : List Mv} {k : Nat} {m : Mv} {c r : Int} (h : l[k]? = some m) (hb : befM c r m = true) : sinM (l.take (k + 1)) c r = sinM (l.take k) c r ++ [m] := by
 unfold sinM
 rw [List.take_add_one, h, List.filter_append]
 simp [hb]
theorem sinM_no {l : List Mv} {k : Nat} {m : Mv} {c r : Int} (h : l[k]? = some m) (hb : befM c r m = false) : sinM (l.take (k + 1)) c r = sinM (l.take k) c r := by
 unfold sinM
 rw [List.take_add_one, h, List.filter_append]
 simp [hb]
theorem sinM_len (l : List Mv) (c r : Int) : (sinM l c r).length ≤ l.length := List.length_filter_le _ _
theorem at_boxM (w : World) (m : Mv) : At (w.alloc (.cells #[.int .i64 (mc m), .int .i64 (mr m), .int .i64 (pa (mw m)), .int .i64 (ch (mw m)), .string (ba (nm (mw m))), .float .f64 (rk (mw m))] 57)) (w.heap.size + 1) (some ⟨w.heap.size, 0, none⟩) (mvs [m]) := fun i v hv =>
 ⟨w.heap.size, 0, rfl, Nat.lt_succ_self _, by rw [Nat.zero_add]; exact (is_cell (is_new w 57 (mvs [m])) i).trans hv⟩
theorem box2 {w : World} {G : Nat} {t : TypeId} {c r : Int} (h : Is w G t [.int .i64 c, .int .i64 r]) : w.cell? ⟨G, 0, none⟩ = some (.int .i64 c) ∧ w.cell? ⟨G, 1, none⟩ = some (.int .i64 r) := ⟨is_cell h 0, is_cell h 1⟩
/-- a row of the call's own, that grows behind a block B, leaves that block -/
theorem is_grownB {w1 w2 : World} {B n size : Nat} {e t : TypeId} {v : Value} {xs vs : List Value} (h : Is w1 B t vs) (hown : w1.ownsRow (B + 1) e size v n xs) (hg : w1.grownBy w2 v.ownBlock) : Is w2 B t vs := by
 refine is_kept h hg (fun e => ?_)
 have := (hown.lt B e.symm).1
 omega
set_option maxHeartbeats 8000000 in
theorem msince_c (A : Option Addr) (cap : Nat) (l : List Mv) (c r : Int) (hl : l.length ≤ 100000) (w : World) (hc : At w w.heap.size A (mvs l)) :
  Calls Tryz.prog 95 #[.slice A l.length cap, .agg #[.int .i64 c, .int .i64 r]] w (FreshM (sinM l c r) w) := by
 have hbx := (Below.refl w.heap.size w).alloc (Nat.le_refl _) (.cells #[.int .i64 c, .int .i64 r] 51)
 have hI0 : Is (w.alloc (.cells #[.int .i64 c, .int .i64 r] 51)) w.heap.size 51 [.int .i64 c, .int .i64 r] := is_new w 51 [.int .i64 c, .int .i64 r]
 have HC := Lib.hid hc
 have HBX := Lib.hid hbx
 have HI0 := Lib.hid hI0
 clear hc hbx hI0
 go_enter Tryz.func95, Tryz.ntmps95
 go_wp2_with fail
 go_loopw [5, 10] (fun v i wr => ∃ k : Nat, i = .int .i64 (k : Int) ∧ k ≤ l.length ∧ wr.ownsRow (w.heap.size + 1) 57 6 v (sinM (l.take k) c r).length (mvs (sinM (l.take k) c r)) ∧ Is wr w.heap.size 51 [.int .i64 c, .int .i64 r] ∧ Below w.heap.size w wr) (fun _ i _ => l.length - (intOf i).toNat)
 case atStart => exact ⟨0, rfl, Nat.zero_le _, World.ownsRow_nil _ _ _ _, HI0.out, HBX.out⟩
 case round =>
  obtain ⟨k, rfl, hk, hown, hI, hbw⟩ := hrel
  obtain ⟨Av, cv, rfl, -, -, -⟩ := own_at hown
  have HOWN := Lib.hid hown
  have HI := Lib.hid hI
  clear hown hI
  by_cases hlt : k < l.length
  ·obtain ⟨m, hm⟩ := some_at hlt
   have hcw := HC.out.keep hbw
   obtain ⟨b0, o0, rfl, hb0, c0, c1, c2, c3, c4, c5⟩ := move_cells hcw hm
   have hki : (0 : Int) ≤ (k : Int) := by omega
   have hkl : (k : Int) < (l.length : Int) := by omega
   have hsl := sinM_len (l.take k) c r
   rw [List.length_take] at hsl
   have HX := Lib.hid hm
   have HCW := Lib.hid hcw
   cases hq : befM c r m with
   | false =>
    have HQ := Lib.hid hq
    clear hq
    have hIa : Is (wr.alloc (.cells #[.int .i64 (mc m), .int .i64 (mr m), .int .i64 (pa (mw m)), .int .i64 (ch (mw m)), .string (ba (nm (mw m))), .float .f64 (rk (mw m))] 57)) w.heap.size 51 [.int .i64 c, .int .i64 r] := is_below HI.out ((Below.refl _ _).alloc (Nat.le_refl _) _) (is_lt HI.out)
    obtain ⟨t0, t1⟩ := box2 hIa
    go_wp2_with fail
    refine (mbef_k HQ.out _).mono ?_
    rintro e w1 ⟨rfl, hb1⟩
    have hbr : Below wr.heap.size wr w1 := ((Below.refl _ _).alloc (Nat.le_refl _) _).trans (hb1.mono (by simp))
    have hbm := is_below (is_new wr 57 [.int .i64 (mc m), .int .i64 (mr m), .int .i64 (pa (mw m)), .int .i64 (ch (mw m)), .string (ba (nm (mw m))), .float .f64 (rk (mw m))]) hb1 (by simp)
    have hbw1 := hbw.trans (hbr.mono hbw.size)
    have hI1 := is_below HI.out hbr (is_lt HI.out)
    have hown1 := below_ownI HOWN.out hbr
    have HO1 := Lib.hid hown1
    have HI1 := Lib.hid hI1
    clear hown1 hI1 hbm
    go_wp2_with fail
    go_roundw
    case rel => exact ⟨k + 1, by go_num, by omega, by rw [sinM_no HX.out HQ.out]; exact HO1.out, HI1.out, hbw1⟩
    case measure => simp only [intOf]; omega
   | true =>
    have HQ := Lib.hid hq
    clear hq
    have hIa : Is (wr.alloc (.cells #[.int .i64 (mc m), .int .i64 (mr m), .int .i64 (pa (mw m)), .int .i64 (ch (mw m)), .string (ba (nm (mw m))), .float .f64 (rk (mw m))] 57)) w.heap.size 51 [.int .i64 c, .int .i64 r] := is_below HI.out ((Below.refl _ _).alloc (Nat.le_refl _) _) (is_lt HI.out)
    obtain ⟨t0, t1⟩ := box2 hIa
    go_wp2_with fail
    refine (mbef_k HQ.out _).mono ?_
    rintro e w1 ⟨rfl, hb1⟩
    have hbr : Below wr.heap.size wr w1 := ((Below.refl _ _).alloc (Nat.le_refl _) _).trans (hb1.mono (by simp))
    have hbm := is_below (is_new wr 57 [.int .i64 (mc m), .int .i64 (mr m), .int .i64 (pa (mw m)), .int .i64 (ch (mw m)), .string (ba (nm (mw m))), .float .f64 (rk (mw m))]) hb1 (by simp)
    have hbw1 := hbw.trans (hbr.mono hbw.size)
    have hI1 := is_below HI.out hbr (is_lt HI.out)
    have hown1 := below_ownI HOWN.out hbr
    obtain ⟨k0, k1, k2, k3, k4, k5⟩ := box6 (m := m) hbm
    clear hbm
    have HO1 := Lib.hid hown1
    have HI1 := Lib.hid hI1
    have hs1 := hbw1.size
    have hl1 := is_lt HI1.out
    clear hown1 hI1
    go_wp2_with (at_builtin; refine append_optM _ rfl _ _ rfl (w.heap.size + 1) _ _ _ rfl (HO1.out.alloc (.cells #[.int .i64 (mc m), .int .i64 (mr m), .int .i64 (pa (mw m)), .int .i64 (ch (mw m)), .string (ba (nm (mw m))), .float .f64 (rk (mw m))] 57)) (some ⟨w1.heap.size, 0, none⟩) 1 [m] rfl (fun h => by cases h) (by simp) (w1.heap.size + 1) (at_boxM w1 m) (by simp <;> omega) (by simp <;> omega) ?_)
    intro v2 w2 hown2 hgrow
    have hb2 := below_own (hbw1.alloc hbw1.size (.cells #[.int .i64 (mc m), .int .i64 (mr m), .int .i64 (pa (mw m)), .int .i64 (ch (mw m)), .string (ba (nm (mw m))), .float .f64 (rk (mw m))] 57)) (by simp <;> omega) (ownsRow_low (HO1.out.alloc (.cells #[.int .i64 (mc m), .int .i64 (mr m), .int .i64 (pa (mw m)), .int .i64 (ch (mw m)), .string (ba (nm (mw m))), .float .f64 (rk (mw m))] 57)) (Nat.le_succ _)) hgrow
    have hI2 := is_grownB (is_below HI1.out ((Below.refl _ _).alloc (Nat.le_refl _) (.cells #[.int .i64 (mc m), .int .i64 (mr m), .int .i64 (pa (mw m)), .int .i64 (ch (mw m)), .string (ba (nm (mw m))), .float .f64 (rk (mw m))] 57)) hl1) (HO1.out.alloc (.cells #[.int .i64 (mc m), .int .i64 (mr m), .int .i64 (pa (mw m)), .int .i64 (ch (mw m)), .string (ba (nm (mw m))), .float .f64 (rk (mw m))] 57)) hgrow
    have HO2 := Lib.hid hown2
    have HI2 := Lib.hid hI2
    obtain ⟨A2, c2, rfl, -, -, -⟩ := own_at hown2
    clear hown2 hgrow hI2
    go_wp2_with fail
    go_roundw
    case rel => exact ⟨k + 1, by go_num, by omega, by rw [sinM_yes HX.out HQ.out, List.length_append]; exact HO2.out, HI2.out, hb2⟩
    case measure => simp only [intOf]; omega
  ·obtain rfl : k = l.length := by omega
   go_wp2_with fail
   go_ret
   have h := HOWN.out
   rw [List.take_length] at h ⊢
   exact ⟨Av, cv, rfl, ownsRow_low h (Nat.le_succ _), hbw⟩
set_option maxHeartbeats 8000000 in
theorem rmsince_c (A : Option Addr) (cap : Nat) (l : List Mv) (c r : Int) (hl : l.length ≤ 100000) (w : World) (hc : At w w.heap.size A (mvs l)) :
  Calls Tryz.prog 99 #[.slice A l.length cap, .agg #[.int .i64 c, .int .i64 r]] w (FreshM (sinM l c r) w) := by
 have hbx := (Below.refl w.heap.size w).alloc (Nat.le_refl _) (.cells #[.int .i64 c, .int .i64 r] 51)
 have hI0 : Is (w.alloc (.cells #[.int .i64 c, .int .i64 r] 51)) w.heap.size 51 [.int .i64 c, .int .i64 r] := is_new w 51 [.int .i64 c, .int .i64 r]
 have HC := Lib.hid hc
 have HBX := Lib.hid hbx
 have HI0 := Lib.hid hI0
 clear hc hbx hI0
 go_enter Tryz.func99, Tryz.ntmps99
 go_wp2_with fail
 go_loopw [5, 6] (fun v i wr => ∃ k : Nat, i = .int .i64 (k : Int) ∧ k ≤ l.length ∧ wr.ownsRow (w.heap.size + 1) 57 6 v (sinM (l.take k) c r).length (mvs (sinM (l.take k) c r)) ∧ Is wr w.heap.size 51 [.int .i64 c, .int .i64 r] ∧ Below w.heap.size w wr) (fun _ i _ => l.length - (intOf i).toNat)
 case atStart => exact ⟨0, rfl, Nat.zero_le _, World.ownsRow_nil _ _ _ _, HI0.out, HBX.out⟩
 case round =>
  obtain ⟨k, rfl, hk, hown, hI, hbw⟩ := hrel
  obtain ⟨Av, cv, rfl, -, -, -⟩ := own_at hown
  have HOWN := Lib.hid hown
  have HI := Lib.hid hI
  clear hown hI
  by_cases hlt : k < l.length
  ·obtain ⟨m, hm⟩ := some_at hlt
   have hcw := HC.out.keep hbw
   obtain ⟨b0, o0, rfl, hb0, c0, c1, c2, c3, c4, c5⟩ := move_cells hcw hm
   have hki : (0 : Int) ≤ (k : Int) := by omega
   have hkl : (k : Int) < (l.length : Int) := by omega
   have hsl := sinM_len (l.take k) c r
   rw [List.length_take] at hsl
   have HX := Lib.hid hm
   have HCW := Lib.hid hcw
   cases hq : befM c r m with
   | false =>
    have HQ := Lib.hid hq
    clear hq
    go_wp2_with fail
    refine quiet_held (fun w' => Below wr.heap.size wr w') (by kernel_rfl) (by kernel_rfl) (Below.refl _ _).drew ?_
    repeat (first
     | go_big_quiet_skip
     | (go_big_quiet_want; go_big_quiet_op; go_big_quiet_on)
     | (go_big_quiet_want; apply Exists.intro; refine ⟨fun wq hq => ?_, ?_⟩; (focus (obtain ⟨b9, o9, e9, -, d0, d1, d2, d3, d4, d5⟩ := move_cells (HCW.out.keep hq) HX.out; cases e9; obtain ⟨t0, t1⟩ := box2 (is_below HI.out hq (is_lt HI.out)); unfold Oper.quietAt; go_simp; all_goals (first | rfl | (refine (rbef_k HQ.out _).mono ?_; rintro e w5 ⟨rfl, hbn⟩; exact ⟨rfl, hq.trans (hbn.mono hq.size)⟩)))); simp only [Act.put, List.setIfInBounds_toArray, List.set_cons_zero, List.set_cons_succ]; go_big_quiet_on))
    refine wpQuiet_nil ?_
    intro w1 hbr
    have hbw1 := hbw.trans (hbr.mono hbw.size)
    have hI1 := is_below HI.out hbr (is_lt HI.out)
    have hown1 := below_ownI HOWN.out hbr
    have HO1 := Lib.hid hown1
    have HI1 := Lib.hid hI1
    clear hown1 hI1
    go_wp2_with fail
    go_roundw
    case rel => exact ⟨k + 1, by go_num, by omega, by rw [sinM_no HX.out HQ.out]; exact HO1.out, HI1.out, hbw1⟩
    case measure => simp only [intOf]; omega
   | true =>
    have HQ := Lib.hid hq
    clear hq
    go_wp2_with fail
    refine quiet_held (fun w' => Below wr.heap.size wr w') (by kernel_rfl) (by kernel_rfl) (Below.refl _ _).drew ?_
    repeat (first
     | go_big_quiet_skip
     | (go_big_quiet_want; go_big_quiet_op; go_big_quiet_on)
     | (go_big_quiet_want; apply Exists.intro; refine ⟨fun wq hq => ?_, ?_⟩; (focus (obtain ⟨b9, o9, e9, -, d0, d1, d2, d3, d4, d5⟩ := move_cells (HCW.out.keep hq) HX.out; cases e9; obtain ⟨t0, t1⟩ := box2 (is_below HI.out hq (is_lt HI.out)); unfold Oper.quietAt; go_simp; all_goals (first | rfl | (refine (rbef_k HQ.out _).mono ?_; rintro e w5 ⟨rfl, hbn⟩; exact ⟨rfl, hq.trans (hbn.mono hq.size)⟩)))); simp only [Act.put, List.setIfInBounds_toArray, List.set_cons_zero, List.set_cons_succ]; go_big_quiet_on))
    refine wpQuiet_nil ?_
    intro w1 hbr
    have hbw1 := hbw.trans (hbr.mono hbw.size)
    have hI1 := is_below HI.out hbr (is_lt HI.out)
    have hown1 := below_ownI HOWN.out hbr
    clear c0 c1 c2 c3 c4 c5
    obtain ⟨b9, o9, e9, -, c0, c1, c2, c3, c4, c5⟩ := move_cells (HCW.out.keep hbr) HX.out
    cases e9
    have HO1 := Lib.hid hown1
    have HI1 := Lib.hid hI1
    have hs1 := hbw1.size
    have hl1 := is_lt HI1.out
    clear hown1 hI1
    go_wp2_with (at_builtin; refine append_optM _ rfl _ _ rfl (w.heap.size + 1) _ _ _ rfl (HO1.out.alloc (.cells #[.int .i64 (mc m), .int .i64 (mr m), .int .i64 (pa (mw m)), .int .i64 (ch (mw m)), .string (ba (nm (mw m))), .float .f64 (rk (mw m))] 57)) (some ⟨w1.heap.size, 0, none⟩) 1 [m] rfl (fun h => by cases h) (by simp) (w1.heap.size + 1) (at_boxM w1 m) (by simp <;> omega) (by simp <;> omega) ?_)
    intro v2 w2 hown2 hgrow
    have hb2 := below_own (hbw1.alloc hbw1.size (.cells #[.int .i64 (mc m), .int .i64 (mr m), .int .i64 (pa (mw m)), .int .i64 (ch (mw m)), .string (ba (nm (mw m))), .float .f64 (rk (mw m))] 57)) (by simp <;> omega) (ownsRow_low (HO1.out.alloc (.cells #[.int .i64 (mc m), .int .i64 (mr m), .int .i64 (pa (mw m)), .int .i64 (ch (mw m)), .string (ba (nm (mw m))), .float .f64 (rk (mw m))] 57)) (Nat.le_succ _)) hgrow
    have hI2 := is_grownB (is_below HI1.out ((Below.refl _ _).alloc (Nat.le_refl _) (.cells #[.int .i64 (mc m), .int .i64 (mr m), .int .i64 (pa (mw m)), .int .i64 (ch (mw m)), .string (ba (nm (mw m))), .float .f64 (rk (mw m))] 57)) hl1) (HO1.out.alloc (.cells #[.int .i64 (mc m), .int .i64 (mr m), .int .i64 (pa (mw m)), .int .i64 (ch (mw m)), .string (ba (nm (mw m))), .float .f64 (rk (mw m))] 57)) hgrow
    have HO2 := Lib.hid hown2
    have HI2 := Lib.hid hI2
    obtain ⟨A2, c2, rfl, -, -, -⟩ := own_at hown2
    clear hown2 hgrow hI2
    go_wp2_with fail
    go_roundw
    case rel => exact ⟨k + 1, by go_num, by omega, by rw [sinM_yes HX.out HQ.out, List.length_append]; exact HO2.out, HI2.out, hb2⟩
    case measure => simp only [intOf]; omega
  ·obtain rfl : k = l.length := by omega
   go_wp2_with fail
   go_ret
   have h := HOWN.out
   rw [List.take_length] at h ⊢
   exact ⟨Av, cv, rfl, ownsRow_low h (Nat.le_succ _), hbw⟩
end Go.Proofs.YthhckdjagnlgpaaGreat
end
section
namespace Go.Proofs.YthhckdjagnlgpaaGreat
open Go.RowKit Go.IntWalk
open Wd Fl
set_option maxRecDepth 100000
attribute [local go_sem] Oper.semAt_some
def sameT : List Mv → List Mv → Bool
 | [], [] => true
 | a :: l, b :: m => isT (mc a) (mr a) b && sameT l m
 | _, _ => false
theorem sameT_len : ∀ {l m : List Mv}, l.length ≠ m.length → sameT l m = false
 | [], [], h => by simp at h
 | [], _ :: _, _ => rfl
 | _ :: _, [], _ => rfl
 | a :: l, b :: m, h => by rw [sameT, sameT_len (l := l) (m := m) (by simpa using h), Bool.and_false]
theorem sameT_step {l m : List Mv} {k : Nat} {a b : Mv} (ha : l[k]? = some a) (hb : m[k]? = some b) : sameT (l.drop k) (m.drop k) = (isT (mc a) (mr a) b && sameT (l.drop (k + 1)) (m.drop (k + 1))) := by
 have h1 := (List.getElem?_eq_some_iff.1 ha).1
 have h2 := (List.getElem?_eq_some_iff.1 ha).2
 have h3 := (List.getElem?_eq_some_iff.1 hb).1
 have h4 := (List.getElem?_eq_some_iff.1 hb).2
 rw [List.drop_eq_getElem_cons h1, List.drop_eq_getElem_cons h3, h2, h4, sameT]
theorem isT_time (a b : Mv) : isT (mc a) (mr a) b = timeEq a b := by
 unfold isT timeEq
 rw [show decide (mc b = mc a) = decide (mc a = mc b) from decide_eq_decide.2 ⟨Eq.symm, Eq.symm⟩, show decide (mr b = mr a) = decide (mr a = mr b) from decide_eq_decide.2 ⟨Eq.symm, Eq.symm⟩]
theorem sameM_parts : ∀ (a b : List Mv), sameM a b = (sameT a b && sameP (a.map mw) (b.map mw))
 | [], [] => rfl
 | [], _ :: _ => rfl
 | _ :: _, [] => rfl
 | a :: l, b :: m => by
  simp only [sameM, sameT, List.map_cons, sameP, sameM_parts l m, isT_time, alikeM]
  cases timeEq a b <;> cases alikeP (mw a) (mw b) <;> cases sameT l m <;> simp
theorem msameF_c (m n : Mv) (w : World) :
  Calls Tryz.prog 156 #[mv m, mv n] w fun e w' => e = .returned (.bool (isT (mc m) (mr m) n)) ∧ Below w.heap.size w w' := by
 obtain ⟨c, r, k, p, nn, f⟩ := m
 obtain ⟨c2, r2, k2, p2, n2, f2⟩ := n
 show Calls Tryz.prog 156 #[.agg #[.int .i64 c, .int .i64 r, .int .i64 p, .int .i64 k, .string (ba nn), .float .f64 f], .agg #[.int .i64 c2, .int .i64 r2, .int .i64 p2, .int .i64 k2, .string (ba n2), .float .f64 f2]] w fun e w' => e = .returned (.bool (decide (c2 = c) && decide (r2 = r))) ∧ _
 have hq := fun w => eql_times c r c2 r2 w
 obtain ⟨q, hqq⟩ : ∃ q, (decide (c2 = c) && decide (r2 = r)) = q := ⟨_, rfl⟩
 rw [hqq] at hq ⊢
 clear hqq
 have hg := time_guard
 go_enter Tryz.func156, Tryz.ntmps156
 go_wp2
 go_ret
 exact ⟨rfl, by go_grown⟩
set_option maxHeartbeats 4000000 in
theorem mequalFunc_c (A1 A2 : Option Addr) (c1 c2 : Nat) (xs ys : List Mv) (hx : xs.length ≤ maxLen) (hy : ys.length ≤ maxLen) (w : World) (h1 : At w w.heap.size A1 (mvs xs)) (h2 : At w w.heap.size A2 (mvs ys)) :
  Calls Tryz.prog 157 #[.slice A1 xs.length c1, .slice A2 ys.length c2, .func (.func 156) #[] #[]] w fun e w' => e = .returned (.bool (sameT xs ys)) ∧ Below w.heap.size w w' := by
 unfold maxLen at hx hy
 have H1 := Lib.hid h1
 have H2 := Lib.hid h2
 clear h1 h2
 by_cases hl : xs.length = ys.length
 ·obtain ⟨n, hn⟩ : ∃ n, n = ys.length := ⟨_, rfl⟩
  have hn1 : xs.length = n := by omega
  obtain ⟨R, hR⟩ : ∃ R, sameT xs ys = R := ⟨_, rfl⟩
  rw [hR]
  have HR := Lib.hid hR
  rw [← hn, hn1]
  rw [hn1] at hx hl
  rw [← hn] at hy hl
  have HN := Lib.hid hn
  have HN1 := Lib.hid hn1
  clear hn hn1 hR hl
  go_enter Tryz.func157, Tryz.ntmps157
  go_wp2_with fail
  go_loopw [17] (fun i wr => ∃ k : Nat, i = .int .i64 (k : Int) ∧ k ≤ n ∧ sameT (xs.drop k) (ys.drop k) = R ∧ Below w.heap.size w wr) (fun i _ => n - (intOf i).toNat)
  case atStart => exact ⟨0, rfl, Nat.zero_le _, HR.out, Below.refl _ _⟩
  case round =>
   obtain ⟨k, rfl, hk, heq, hb⟩ := hrel
   have hbs := hb.size
   have HE := Lib.hid heq
   clear heq
   by_cases hlt : k < n
   ·obtain ⟨x, hxk⟩ := some_at (show k < xs.length by rw [HN1.out]; exact hlt)
    obtain ⟨y, hyk⟩ := some_at (show k < ys.length by rw [← HN.out]; exact hlt)
    obtain ⟨b1, o1, rfl, hb1, x0, x1, x2, x3, x4, x5⟩ := move_cells (H1.out.below hb) hxk
    obtain ⟨b2, o2, rfl, hb2, y0, y1, y2, y3, y4, y5⟩ := move_cells (H2.out.below hb) hyk
    have hst := sameT_step hxk hyk
    rw [HE.out] at hst
    have hba := (hb.alloc hbs (.cells #[.int .i64 (mc x), .int .i64 (mr x), .int .i64 (pa (mw x)), .int .i64 (ch (mw x)), .string (ba (nm (mw x))), .float .f64 (rk (mw x))] 57)).alloc (by simp; omega) (.cells #[.int .i64 (mc y), .int .i64 (mr y), .int .i64 (pa (mw y)), .int .i64 (ch (mw y)), .string (ba (nm (mw y))), .float .f64 (rk (mw y))] 57)
    have e0 : (wr.alloc (.cells #[.int .i64 (mc x), .int .i64 (mr x), .int .i64 (pa (mw x)), .int .i64 (ch (mw x)), .string (ba (nm (mw x))), .float .f64 (rk (mw x))] 57)).cell? ⟨b2, o2 + k * 6, none⟩ = some (.int .i64 (mc y)) := keep_cell ((Below.refl _ _).alloc (Nat.le_refl _) _) y0
    have e1 : (wr.alloc (.cells #[.int .i64 (mc x), .int .i64 (mr x), .int .i64 (pa (mw x)), .int .i64 (ch (mw x)), .string (ba (nm (mw x))), .float .f64 (rk (mw x))] 57)).cell? ⟨b2, o2 + k * 6 + 1, none⟩ = some (.int .i64 (mr y)) := keep_cell ((Below.refl _ _).alloc (Nat.le_refl _) _) y1
    have e2 : (wr.alloc (.cells #[.int .i64 (mc x), .int .i64 (mr x), .int .i64 (pa (mw x)), .int .i64 (ch (mw x)), .string (ba (nm (mw x))), .float .f64 (rk (mw x))] 57)).cell? ⟨b2, o2 + k * 6 + 2, none⟩ = some (.int .i64 (pa (mw y))) := keep_cell ((Below.refl _ _).alloc (Nat.le_refl _) _) y2
    have e3 : (wr.alloc (.cells #[.int .i64 (mc x), .int .i64 (mr x), .int .i64 (pa (mw x)), .int .i64 (ch (mw x)), .string (ba (nm (mw x))), .float .f64 (rk (mw x))] 57)).cell? ⟨b2, o2 + k * 6 + 3, none⟩ = some (.int .i64 (ch (mw y))) := keep_cell ((Below.refl _ _).alloc (Nat.le_refl _) _) y3
    have e4 : (wr.alloc (.cells #[.int .i64 (mc x), .int .i64 (mr x), .int .i64 (pa (mw x)), .int .i64 (ch (mw x)), .string (ba (nm (mw x))), .float .f64 (rk (mw x))] 57)).cell? ⟨b2, o2 + k * 6 + 4, none⟩ = some (.string (ba (nm (mw y)))) := keep_cell ((Below.refl _ _).alloc (Nat.le_refl _) _) y4
    have e5 : (wr.alloc (.cells #[.int .i64 (mc x), .int .i64 (mr x), .int .i64 (pa (mw x)), .int .i64 (ch (mw x)), .string (ba (nm (mw x))), .float .f64 (rk (mw x))] 57)).cell? ⟨b2, o2 + k * 6 + 5, none⟩ = some (.float .f64 (rk (mw y))) := keep_cell ((Below.refl _ _).alloc (Nat.le_refl _) _) y5
    have HST := Lib.hid hst
    have hcall := fun W => msameF_c x y W
    unfold mv at hcall
    obtain ⟨q, hq⟩ : ∃ q, isT (mc x) (mr x) y = q := ⟨_, rfl⟩
    rw [hq] at hcall
    have HQ := Lib.hid hq
    have HCALL := Lib.hid hcall
    clear hst hxk hyk hq hcall
    cases q
    ·go_wp2_with fail
     refine (HCALL.out _).mono ?_
     rintro e w5 ⟨rfl, hm⟩
     go_wp2_with fail
     go_ret
     refine ⟨ret_bool ?_, hba.trans (hm.mono hba.size)⟩
     rw [HST.out, HQ.out]; rfl
    ·go_wp2_with fail
     refine (HCALL.out _).mono ?_
     rintro e w5 ⟨rfl, hm⟩
     go_wp2_with fail
     go_roundw
     case rel => exact ⟨k + 1, by go_num, by omega, by rw [HST.out, HQ.out]; rfl, hba.trans (hm.mono hba.size)⟩
     case measure => simp only [intOf]; omega
   ·obtain rfl : k = n := by omega
    have h := HE.out
    rw [List.drop_of_length_le (by rw [HN1.out]; exact Nat.le_refl _), List.drop_of_length_le (by rw [← HN.out]; exact Nat.le_refl _)] at h
    have HH := Lib.hid h
    clear h
    go_wp2_with fail
    go_ret
    exact ⟨ret_bool HH.out, hb⟩
 ·have hs := sameT_len hl
  have ht : ((xs.length : Int) != (ys.length : Int)) = true := by simp only [bne_iff_ne, ne_eq]; omega
  have HS := Lib.hid hs
  clear hl hs
  go_enter Tryz.func157, Tryz.ntmps157
  go_wp2_with fail
  go_ret
  exact ⟨ret_bool HS.out.symm, Below.refl _ _⟩
/-- zero rows -/
theorem made_rows (n : Nat) : (madeCells (Value.agg #[.int .i64 0, .int .i64 0, .string ByteArray.empty, .float .f64 0]).cells (n * 4)).toList = tvs (List.replicate n zr) := by
 refine List.ext_getElem? fun j => ?_
 by_cases hj : j < n * 4
 ·obtain ⟨k, i, hi, rfl⟩ : ∃ k i, i < 4 ∧ j = k * 4 + i := ⟨j / 4, j % 4, Nat.mod_lt _ (by omega), by omega⟩
  have hk : (List.replicate n zr)[k]? = some zr := by rw [List.getElem?_replicate, if_pos (by omega)]
  obtain ⟨h0, h1, h2, h3⟩ := tvs_at hk
  have hl : (madeCells (Value.agg #[.int .i64 0, .int .i64 0, .string ByteArray.empty, .float .f64 0]).cells (n * 4)).toList[k * 4 + i]? = some ((Value.agg #[.int .i64 0, .int .i64 0, .string ByteArray.empty, .float .f64 0]).cells[i]!) := by
   unfold madeCells
   rw [Array.getElem?_toList, Array.getElem?_map, Array.getElem?_eq_getElem (by simpa using hj)]
   have hm : (k * 4 + i) % (Value.agg #[.int .i64 0, .int .i64 0, .string ByteArray.empty, .float .f64 0]).cells.size = i := by
    show (k * 4 + i) % 4 = i
    omega
   simp only [Option.map_some, Array.getElem_range, hm]
  rw [hl]
  match i, hi with
  | 0, _ => exact h0.symm
  | 1, _ => exact h1.symm
  | 2, _ => exact h2.symm
  | 3, _ => exact h3.symm
 ·rw [List.getElem?_eq_none (by rw [Array.length_toList, size_madeCells]; omega), List.getElem?_eq_none (by rw [tvs_len, List.length_replicate]; omega)]
theorem fill_step {l : List Mv} {k : Nat} {m : Mv} (h : l[k]? = some m) : ((l.take k).map mw ++ List.replicate (l.length - k) zr).set k (mw m) = (l.take (k + 1)).map mw ++ List.replicate (l.length - (k + 1)) zr := by
 have hk := (List.getElem?_eq_some_iff.1 h).1
 have e : l.length - k = (l.length - (k + 1)) + 1 := by omega
 rw [e, List.replicate_succ, List.take_add_one, h, List.set_append_right _ _ (by simp; omega)]
 simp [show k - min k l.length = 0 by omega]
theorem own_set4n {w : World} {B g cap k n : Nat} {l : List Rw} (r : Rw) (h : w.ownsRow B 28 4 (.slice (some ⟨g, 0, none⟩) n cap) n (tvs l)) (hn : n = l.length) (hk : k < n) :
  ((((w.setCell ⟨g, k * 4, none⟩ (.int .i64 (ch r))).setCell ⟨g, k * 4 + 1, none⟩ (.int .i64 (pa r))).setCell ⟨g, k * 4 + 2, none⟩ (.string (ba (nm r)))).setCell ⟨g, k * 4 + 3, none⟩ (.float .f64 (rk r))).ownsRow B 28 4 (.slice (some ⟨g, 0, none⟩) n cap) n (tvs (l.set k r)) := by
 subst hn
 exact own_set4 r h hk
theorem mrow_k (m : Mv) (w : World) :
  Calls Tryz.prog 201 #[.agg #[.int .i64 (mc m), .int .i64 (mr m), .int .i64 (pa (mw m)), .int .i64 (ch (mw m)), .string (ba (nm (mw m))), .float .f64 (rk (mw m))]] w fun e w' => e = .returned (.agg #[.int .i64 (ch (mw m)), .int .i64 (pa (mw m)), .string (ba (nm (mw m))), .float .f64 (rk (mw m))]) ∧ Below w.heap.size w w' := mrow_c m w
set_option maxHeartbeats 4000000 in
theorem mrows_c (A : Option Addr) (cap : Nat) (l : List Mv) (hl : l.length ≤ 100000) (w : World) (hc : At w w.heap.size A (mvs l)) :
  Calls Tryz.prog 158 #[.slice A l.length cap] w (Fresh_ (l.map mw) w) := by
 obtain ⟨i0, hi, hz0, hz1, hz2⟩ := info_parts Tryz.info28
 have HC := Lib.hid hc
 have hbx : i0.bytes * l.length ≤ 281474976710656 := by rw [hz2]; omega
 have hmx : l.length ≤ maxLen := by unfold maxLen; omega
 clear hc
 go_enter Tryz.func158, Tryz.ntmps158
 go_wp2_with (at_make; refine wpList_make_full _ rfl _ _ 22 rfl w.heap.size 28 i0 _ 4 Tryz.underlying22 hi hz0 hz1 .i64 .i64 _ _ l.length rfl rfl rfl rfl hbx hmx (Nat.le_refl _) ?_; intro w1 hown1 hgrow1)
 rw [made_rows] at hown1
 have HO1 := Lib.hid hown1
 have HG1 := Lib.hid ((Below.refl w.heap.size w).grown hgrow1 (Nat.le_refl _) (fun k hk => by cases hk))
 clear hown1 hgrow1
 go_wp2_with fail
 go_loopw [11] (fun i wr => ∃ k : Nat, i = .int .i64 (k : Int) ∧ k ≤ l.length ∧ wr.ownsRow w.heap.size 28 4 (.slice (some ⟨w.heap.size, 0, none⟩) l.length l.length) l.length (tvs ((l.take k).map mw ++ List.replicate (l.length - k) zr)) ∧ Below w.heap.size w wr) (fun i _ => l.length - (intOf i).toNat)
 case atStart => exact ⟨0, rfl, Nat.zero_le _, by simpa using HO1.out, HG1.out⟩
 case round =>
  obtain ⟨k, rfl, hk, hown, hbw⟩ := hrel
  by_cases hlt : k < l.length
  ·obtain ⟨m, hm⟩ := some_at hlt
   obtain ⟨b0, o0, rfl, hb0, c0, c1, c2, c3, c4, c5⟩ := move_cells (HC.out.below hbw) hm
   have hki : (0 : Int) ≤ (k : Int) := by omega
   have hkl : (k : Int) < (l.length : Int) := by omega
   have HX := Lib.hid hm
   have HOWN := Lib.hid hown
   clear hm hown
   go_wp2_with fail
   refine (mrow_k m _).mono ?_
   rintro e w2 ⟨rfl, hb2⟩
   have hbr : Below wr.heap.size wr w2 := ((Below.refl _ _).alloc (Nat.le_refl _) _).trans (hb2.mono (by simp))
   have hbw2 := hbw.trans (hbr.mono hbw.size)
   have hown2 := below_ownI HOWN.out hbr
   obtain ⟨g, c2, hv, hg, -, -, hfz, hcl⟩ := own_some hown2 (show 0 < l.length by omega)
   cases hv
   have hlen : ((l.take k).map mw ++ List.replicate (l.length - k) zr).length = l.length := by simp; omega
   obtain ⟨x, hx⟩ := some_at (show k < ((l.take k).map mw ++ List.replicate (l.length - k) zr).length by rw [hlen]; exact hlt)
   obtain ⟨q0, q1, q2, q3⟩ := tvs_at hx
   have d0 := hcl _ _ q0
   have d1 := hcl _ _ q1
   have d2 := hcl _ _ q2
   have d3 := hcl _ _ q3
   have f0 := hfz (k * 4)
   have f1 := hfz (k * 4 + 1)
   have f2 := hfz (k * 4 + 2)
   have f3 := hfz (k * 4 + 3)
   have HO2 := Lib.hid (own_set4n (mw m) hown2 hlen.symm hlt)
   clear hown2 hcl hfz q0 q1 q2 q3 hx hlen
   go_wp2_with fail
   have hgg : w.heap.size ≤ w.heap.size := Nat.le_refl _
   have hb4 := (((hbw2.setCell (p := ⟨w.heap.size, k * 4, none⟩) hgg (.int .i64 (ch (mw m)))).setCell (p := ⟨w.heap.size, k * 4 + 1, none⟩) hgg (.int .i64 (pa (mw m)))).setCell (p := ⟨w.heap.size, k * 4 + 2, none⟩) hgg (.string (ba (nm (mw m))))).setCell (p := ⟨w.heap.size, k * 4 + 3, none⟩) hgg (.float .f64 (rk (mw m)))
   go_roundw
   case rel => exact ⟨k + 1, by go_num, by omega, by rw [← fill_step HX.out]; exact HO2.out, hb4⟩
   case measure => simp only [intOf]; omega
  ·obtain rfl : k = l.length := by omega
   have HOWN := Lib.hid hown
   clear hown
   go_wp2_with fail
   go_ret
   have h := HOWN.out
   rw [List.take_length, Nat.sub_self, List.replicate_zero, List.append_nil] at h
   refine ⟨some ⟨w.heap.size, 0, none⟩, l.length, by rw [List.length_map]; rfl, ?_, hbw⟩
   rw [List.length_map]
   exact h
theorem Fresh_.at {l : List Rw} {w w' : World} {e : Ending} (h : Fresh_ l w e w') : ∃ A cap, e = .returned (.slice A l.length cap) ∧ At w' w'.heap.size A (tvs l) ∧ (A = none → cap = 0) ∧ l.length ≤ cap ∧ Below w.heap.size w w' := by
 obtain ⟨A, cap, rfl, hown, hb⟩ := h
 obtain ⟨A', cap', he, ha, hn, hc, _⟩ := own_toldR hown hb
 cases he
 exact ⟨A, cap, rfl, ha, hn, hc, hb⟩
set_option maxHeartbeats 4000000 in
theorem mmsame_c (A1 A2 : Option Addr) (c1 c2 : Nat) (xs ys : List Mv) (hx : xs.length ≤ 100000) (hy : ys.length ≤ 100000) (hwx : Moves_ xs) (hwy : Moves_ ys) (w : World) (h1 : At w w.heap.size A1 (mvs xs)) (h2 : At w w.heap.size A2 (mvs ys)) :
  Calls Tryz.prog 117 #[.slice A1 xs.length c1, .slice A2 ys.length c2] w fun e w' => e = .returned (.bool (sameM xs ys)) ∧ Below w.heap.size w w' := by
 rw [sameM_parts]
 have hxm : xs.length ≤ maxLen := by unfold maxLen; omega
 have hym : ys.length ≤ maxLen := by unfold maxLen; omega
 have hrx : Rows_ (xs.map mw) := fun r hr => by obtain ⟨m, hm, rfl⟩ := List.mem_map.1 hr; exact hwx m hm
 have hry : Rows_ (ys.map mw) := fun r hr => by obtain ⟨m, hm, rfl⟩ := List.mem_map.1 hr; exact hwy m hm
 have HE := Lib.hid (mequalFunc_c A1 A2 c1 c2 xs ys hxm hym w h1 h2)
 have H1 := Lib.hid h1
 have H2 := Lib.hid h2
 have HRX := Lib.hid hrx
 have HRY := Lib.hid hry
 clear h1 h2 hwx hwy hrx hry
 obtain ⟨q, hq⟩ : ∃ q, sameT xs ys = q := ⟨_, rfl⟩
 have he := HE.out
 rw [hq] at he ⊢
 have HE2 := Lib.hid he
 clear he HE hq
 cases q
 ·rw [Bool.false_and]
  go_enter Tryz.func117, Tryz.ntmps117
  go_wp2_with fail
  refine HE2.out.mono ?_
  rintro e w1 ⟨rfl, hb1⟩
  go_wp2_with fail
  go_ret
  exact ⟨rfl, hb1⟩
 ·rw [Bool.true_and]
  obtain ⟨R, hR⟩ : ∃ R, sameP (xs.map mw) (ys.map mw) = R := ⟨_, rfl⟩
  rw [hR]
  have HR := Lib.hid hR
  clear hR
  go_enter Tryz.func117, Tryz.ntmps117
  go_wp2_with fail
  refine HE2.out.mono ?_
  rintro e w1 ⟨rfl, hb1⟩
  go_wp2_with fail
  refine (mrows_c A1 c1 xs hx _ (H1.out.keep hb1)).mono ?_
  intro e w2 hf2
  obtain ⟨A3, c3, rfl, ha3, hn3, hc3, hb2⟩ := hf2.at
  have hbw2 := hb1.trans (hb2.mono hb1.size)
  have HA3 := Lib.hid ha3
  clear hf2 ha3 hn3 hc3
  go_wp2_with fail
  refine (mrows_c A2 c2 ys hy _ (H2.out.keep hbw2)).mono ?_
  intro e w3 hf3
  obtain ⟨A4, c4, rfl, ha4, hn4, hc4, hb3⟩ := hf3.at
  have hbw3 := hbw2.trans (hb3.mono hbw2.size)
  have HA4 := Lib.hid ha4
  have HA3b := Lib.hid (HA3.out.keep hb3)
  clear hf3 ha4 hn4 hc4
  go_wp2_with fail
  have hs := tsame_c A3 A4 c3 c4 (xs.map mw) (ys.map mw) (by rw [List.length_map]; exact hxm) (by rw [List.length_map]; exact hym) HRX.out HRY.out w3 HA3b.out HA4.out
  rw [HR.out, List.length_map, List.length_map] at hs
  refine hs.mono ?_
  rintro e w4 ⟨rfl, hb4⟩
  go_wp2_with fail
  go_ret
  exact ⟨rfl, hbw3.trans (hb4.mono hbw3.size)⟩
end Go.Proofs.YthhckdjagnlgpaaGreat
end
section
namespace Go.Proofs.YthhckdjagnlgpaaGreat
open Go.RowKit Go.IntWalk
open Gr
set_option maxRecDepth 100000
attribute [local go_sem] Oper.semAt_some
end Go.Proofs.YthhckdjagnlgpaaGreat
end
