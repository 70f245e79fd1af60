/-
  Those since a time: the program's, and the document's.
-/
import Derived.Test.YtfeopchghpihoaaUg
import Derived.Test.YtfeopchghpihoaaTo
namespace Go.Proofs.Ytfeopchghpihoaa
open Go.RowKit Go.IntWalk
open Wd Fl
set_option maxRecDepth 100000
attribute [local go_sem] Oper.semAt_some

theorem mbef_k {c r : Int} {m : Mv} {b : Bool} (h : befM c r m = b) (w : World) :
    Calls Try.prog 54 #[.agg #[.int .i64 c, .int .i64 r], .agg #[.int .i64 (mc m), .int .i64 (mr m), .int .i64 (pa (mw m)), .int .i64 (ch (mw m)), .string (ba (nm (mw m))), .float .f64 (rk (mw m))]] w fun e w' => e = .returned (.bool b) ∧ Below w.heap.size w w' := by
  subst h
  exact mbefore_c c r m w
theorem sinM_yes {l : List Mv} {k : Nat} {m : Mv} {c r : Int} (h : l[k]? = some m) (hb : befM c r m = true) : sinM (l.take (k + 1)) c r = sinM (l.take k) c r ++ [m] := by
  unfold sinM
  rw [List.take_add_one, h, List.filter_append]
  simp [hb]
theorem sinM_no {l : List Mv} {k : Nat} {m : Mv} {c r : Int} (h : l[k]? = some m) (hb : befM c r m = false) : sinM (l.take (k + 1)) c r = sinM (l.take k) c r := by
  unfold sinM
  rw [List.take_add_one, h, List.filter_append]
  simp [hb]
theorem sinM_len (l : List Mv) (c r : Int) : (sinM l c r).length ≤ l.length := List.length_filter_le _ _
theorem at_boxM (w : World) (m : Mv) : At (w.alloc (.cells #[.int .i64 (mc m), .int .i64 (mr m), .int .i64 (pa (mw m)), .int .i64 (ch (mw m)), .string (ba (nm (mw m))), .float .f64 (rk (mw m))] 38)) (w.heap.size + 1) (some ⟨w.heap.size, 0, none⟩) (mvs [m]) := fun i v hv =>
  ⟨w.heap.size, 0, rfl, Nat.lt_succ_self _, by rw [Nat.zero_add]; exact (is_cell (is_new w 38 (mvs [m])) i).trans hv⟩
theorem box2 {w : World} {G : Nat} {t : TypeId} {c r : Int} (h : Is w G t [.int .i64 c, .int .i64 r]) : w.cell? ⟨G, 0, none⟩ = some (.int .i64 c) ∧ w.cell? ⟨G, 1, none⟩ = some (.int .i64 r) := ⟨is_cell h 0, is_cell h 1⟩
/-- a row of the call's own, that grows behind a block B, leaves that block -/
theorem is_grownB {w1 w2 : World} {B n size : Nat} {e t : TypeId} {v : Value} {xs vs : List Value} (h : Is w1 B t vs) (hown : w1.ownsRow (B + 1) e size v n xs) (hg : w1.grownBy w2 v.ownBlock) : Is w2 B t vs := by
  refine is_kept h hg (fun e => ?_)
  have := (hown.lt B e.symm).1
  omega

set_option maxHeartbeats 8000000 in
theorem rmsince_c (A : Option Addr) (cap : Nat) (l : List Mv) (c r : Int) (hl : l.length ≤ 100000) (w : World) (hc : At w w.heap.size A (mvs l)) :
    Calls Try.prog 30 #[.slice A l.length cap, .agg #[.int .i64 c, .int .i64 r]] w (FreshM (sinM l c r) w) := by
  have hbx := (Below.refl w.heap.size w).alloc (Nat.le_refl _) (.cells #[.int .i64 c, .int .i64 r] 35)
  have hI0 : Is (w.alloc (.cells #[.int .i64 c, .int .i64 r] 35)) w.heap.size 35 [.int .i64 c, .int .i64 r] := is_new w 35 [.int .i64 c, .int .i64 r]
  have HC := Lib.hid hc
  have HBX := Lib.hid hbx
  have HI0 := Lib.hid hI0
  clear hc hbx hI0
  go_enter Try.func30, Try.ntmps30
  go_wp2_with fail
  go_loopw [5, 6] (fun v i wr => ∃ k : Nat, i = .int .i64 (k : Int) ∧ k ≤ l.length ∧ wr.ownsRow (w.heap.size + 1) 38 6 v (sinM (l.take k) c r).length (mvs (sinM (l.take k) c r)) ∧ Is wr w.heap.size 35 [.int .i64 c, .int .i64 r] ∧ Below w.heap.size w wr) (fun _ i _ => l.length - (intOf i).toNat)
  case atStart => exact ⟨0, rfl, Nat.zero_le _, World.ownsRow_nil _ _ _ _, HI0.out, HBX.out⟩
  case round =>
    obtain ⟨k, rfl, hk, hown, hI, hbw⟩ := hrel
    obtain ⟨Av, cv, rfl, -, -, -⟩ := own_at hown
    have HOWN := Lib.hid hown
    have HI := Lib.hid hI
    clear hown hI
    by_cases hlt : k < l.length
    · obtain ⟨m, hm⟩ := some_at hlt
      have hcw := HC.out.keep hbw
      obtain ⟨b0, o0, rfl, hb0, c0, c1, c2, c3, c4, c5⟩ := move_cells hcw hm
      have hki : (0 : Int) ≤ (k : Int) := by omega
      have hkl : (k : Int) < (l.length : Int) := by omega
      have hsl := sinM_len (l.take k) c r
      rw [List.length_take] at hsl
      have HX := Lib.hid hm
      have HCW := Lib.hid hcw
      cases hq : befM c r m with
      | false =>
        have HQ := Lib.hid hq
        clear hq
        go_wp2_with fail
        refine quiet_held (fun w' => Below wr.heap.size wr w') (by kernel_rfl) (by kernel_rfl) (Below.refl _ _).drew ?_
        repeat (first
          | go_big_quiet_skip
          | (go_big_quiet_want; go_big_quiet_op; go_big_quiet_on)
          | (go_big_quiet_want; apply Exists.intro; refine ⟨fun wq hq => ?_, ?_⟩; (focus (obtain ⟨b9, o9, e9, -, d0, d1, d2, d3, d4, d5⟩ := move_cells (HCW.out.keep hq) HX.out; cases e9; obtain ⟨t0, t1⟩ := box2 (is_below HI.out hq (is_lt HI.out)); unfold Oper.quietAt; go_simp; all_goals (first | rfl | (refine (rbef_k HQ.out _).mono ?_; rintro e w5 ⟨rfl, hbn⟩; exact ⟨rfl, hq.trans (hbn.mono hq.size)⟩)))); simp only [Act.put, List.setIfInBounds_toArray, List.set_cons_zero, List.set_cons_succ]; go_big_quiet_on))
        refine wpQuiet_nil ?_
        intro w1 hbr
        have hbw1 := hbw.trans (hbr.mono hbw.size)
        have hI1 := is_below HI.out hbr (is_lt HI.out)
        have hown1 := below_ownI HOWN.out hbr
        have HO1 := Lib.hid hown1
        have HI1 := Lib.hid hI1
        clear hown1 hI1
        go_wp2_with fail
        go_roundw
        case rel => exact ⟨k + 1, by go_num, by omega, by rw [sinM_no HX.out HQ.out]; exact HO1.out, HI1.out, hbw1⟩
        case measure => simp only [intOf]; omega
      | true =>
        have HQ := Lib.hid hq
        clear hq
        go_wp2_with fail
        refine quiet_held (fun w' => Below wr.heap.size wr w') (by kernel_rfl) (by kernel_rfl) (Below.refl _ _).drew ?_
        repeat (first
          | go_big_quiet_skip
          | (go_big_quiet_want; go_big_quiet_op; go_big_quiet_on)
          | (go_big_quiet_want; apply Exists.intro; refine ⟨fun wq hq => ?_, ?_⟩; (focus (obtain ⟨b9, o9, e9, -, d0, d1, d2, d3, d4, d5⟩ := move_cells (HCW.out.keep hq) HX.out; cases e9; obtain ⟨t0, t1⟩ := box2 (is_below HI.out hq (is_lt HI.out)); unfold Oper.quietAt; go_simp; all_goals (first | rfl | (refine (rbef_k HQ.out _).mono ?_; rintro e w5 ⟨rfl, hbn⟩; exact ⟨rfl, hq.trans (hbn.mono hq.size)⟩)))); simp only [Act.put, List.setIfInBounds_toArray, List.set_cons_zero, List.set_cons_succ]; go_big_quiet_on))
        refine wpQuiet_nil ?_
        intro w1 hbr
        have hbw1 := hbw.trans (hbr.mono hbw.size)
        have hI1 := is_below HI.out hbr (is_lt HI.out)
        have hown1 := below_ownI HOWN.out hbr
        clear c0 c1 c2 c3 c4 c5
        obtain ⟨b9, o9, e9, -, c0, c1, c2, c3, c4, c5⟩ := move_cells (HCW.out.keep hbr) HX.out
        cases e9
        have HO1 := Lib.hid hown1
        have HI1 := Lib.hid hI1
        have hs1 := hbw1.size
        have hl1 := is_lt HI1.out
        clear hown1 hI1
        go_wp2_with (at_builtin; refine append_optM _ rfl _ _ rfl (w.heap.size + 1) _ _ _ rfl (HO1.out.alloc (.cells #[.int .i64 (mc m), .int .i64 (mr m), .int .i64 (pa (mw m)), .int .i64 (ch (mw m)), .string (ba (nm (mw m))), .float .f64 (rk (mw m))] 38)) (some ⟨w1.heap.size, 0, none⟩) 1 [m] rfl (fun h => by cases h) (by simp) (w1.heap.size + 1) (at_boxM w1 m) (by simp <;> omega) (by simp <;> omega) ?_)
        intro v2 w2 hown2 hgrow
        have hb2 := below_own (hbw1.alloc hbw1.size (.cells #[.int .i64 (mc m), .int .i64 (mr m), .int .i64 (pa (mw m)), .int .i64 (ch (mw m)), .string (ba (nm (mw m))), .float .f64 (rk (mw m))] 38)) (by simp <;> omega) (ownsRow_low (HO1.out.alloc (.cells #[.int .i64 (mc m), .int .i64 (mr m), .int .i64 (pa (mw m)), .int .i64 (ch (mw m)), .string (ba (nm (mw m))), .float .f64 (rk (mw m))] 38)) (Nat.le_succ _)) hgrow
        have hI2 := is_grownB (is_below HI1.out ((Below.refl _ _).alloc (Nat.le_refl _) (.cells #[.int .i64 (mc m), .int .i64 (mr m), .int .i64 (pa (mw m)), .int .i64 (ch (mw m)), .string (ba (nm (mw m))), .float .f64 (rk (mw m))] 38)) hl1) (HO1.out.alloc (.cells #[.int .i64 (mc m), .int .i64 (mr m), .int .i64 (pa (mw m)), .int .i64 (ch (mw m)), .string (ba (nm (mw m))), .float .f64 (rk (mw m))] 38)) hgrow
        have HO2 := Lib.hid hown2
        have HI2 := Lib.hid hI2
        obtain ⟨A2, c2, rfl, -, -, -⟩ := own_at hown2
        clear hown2 hgrow hI2
        go_wp2_with fail
        go_roundw
        case rel => exact ⟨k + 1, by go_num, by omega, by rw [sinM_yes HX.out HQ.out, List.length_append]; exact HO2.out, HI2.out, hb2⟩
        case measure => simp only [intOf]; omega
    · obtain rfl : k = l.length := by omega
      go_wp2_with fail
      go_ret
      have h := HOWN.out
      rw [List.take_length] at h ⊢
      exact ⟨Av, cv, rfl, ownsRow_low h (Nat.le_succ _), hbw⟩
end Go.Proofs.Ytfeopchghpihoaa
