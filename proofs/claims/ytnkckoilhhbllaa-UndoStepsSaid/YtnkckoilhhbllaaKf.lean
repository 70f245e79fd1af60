/-
  The walk of UndoSteps.
-/
import Derived.Test.YtnkckoilhhbllaaKc
namespace Go.Proofs.Ytnkckoilhhbllaa
open Go.RowKit Go.IntWalk
open Gr
set_option maxRecDepth 100000
attribute [local go_sem] Oper.semAt_some

theorem box_x {w : World} {G : Nat} {x0 x1 x2 x3 x4 x5 x6 x7 x8 x9 x10 x11 : Value} (h : Is w G 51 [x0, x1, x2, x3, x4, x5, x6, x7, x8, x9, x10, x11]) : w.cell? ⟨G, 6, none⟩ = some x6 ∧ w.cell? ⟨G, 7, none⟩ = some x7 ∧ w.cell? ⟨G, 8, none⟩ = some x8 ∧ w.cell? ⟨G, 9, none⟩ = some x9 ∧ w.cell? ⟨G, 10, none⟩ = some x10 ∧ w.cell? ⟨G, 11, none⟩ = some x11 :=
  ⟨is_cell h 6, is_cell h 7, is_cell h 8, is_cell h 9, is_cell h 10, is_cell h 11⟩
theorem alike_t {r : Rw} (h : rk r < 18446744073709551616) (w : World) :
    Calls Try.prog 33 #[.agg #[.int .i64 (ch r), .int .i64 (pa r), .string (ba (nm r)), .float .f64 (rk r)], .agg #[.int .i64 (ch r), .int .i64 (pa r), .string (ba (nm r)), .float .f64 (rk r)]] w fun e w' => e = .returned (.bool true) ∧ Below w.heap.size w w' := by
  have := alike_c r r h h w
  rwa [alikeP_refl] at this

namespace undoSteps
set_option maxHeartbeats 32000000 in
theorem walk (A : Option Addr) (cap : Nat) (l : List Rw) (m : Mv) (hA : A = none → cap = 0) (hcap : l.length ≤ cap) (hl : l.length ≤ maxLen) (hM : Rows_ l) (hm1 : rk (mw m) < 18446744073709551616) (hm2 : (nm (mw m)).length ≤ maxLen) (w : World) (hc : At w w.heap.size A (tvs l)) :
    Calls Try.prog 10 #[.slice A l.length cap, .agg #[.int .i64 (mc m), .int .i64 (mr m), .int .i64 (pa (mw m)), .int .i64 (ch (mw m)), .string (ba (nm (mw m))), .float .f64 (rk (mw m))]] w fun e w' => e = .returned (.bool true) ∧ Below w.heap.size w w' := by
  obtain ⟨w0, hw0⟩ : ∃ w0, w0 = w.alloc (.cells #[.int .i64 (mc m), .int .i64 (mr m), .int .i64 (pa (mw m)), .int .i64 (ch (mw m)), .string (ba (nm (mw m))), .float .f64 (rk (mw m))] 27) := ⟨_, rfl⟩
  have HBX := Lib.hid (show Below w.heap.size w w0 by rw [hw0]; exact (Below.refl w.heap.size w).alloc (Nat.le_refl _) _)
  have HI := Lib.hid (show Is w0 w.heap.size 27 [.int .i64 (mc m), .int .i64 (mr m), .int .i64 (pa (mw m)), .int .i64 (ch (mw m)), .string (ba (nm (mw m))), .float .f64 (rk (mw m))] by rw [hw0]; exact is_new w 27 [.int .i64 (mc m), .int .i64 (mr m), .int .i64 (pa (mw m)), .int .i64 (ch (mw m)), .string (ba (nm (mw m))), .float .f64 (rk (mw m))])
  have HC := Lib.hid (hc.keep HBX.out)
  have HA := Lib.hid hA
  have HM := Lib.hid hM
  have HM2 := Lib.hid (And.intro hm1 hm2)
  have HL := Lib.hid hl
  have HW := Lib.hid hw0
  have hsz := ba_size (nm (mw m))
  obtain ⟨g0, g1, g2, g3, g4, g5⟩ := box6 (m := m) HI.out
  unfold maxLen at hm2
  clear hc hA hM hl hm1 hw0
  cases hf : few l with
  | false =>
    have HF := Lib.hid hf
    clear hf
    go_enter Try.func10, Try.ntmps10
    go_wp2_with fail
    rw [← HW.out]
    refine (few_c A cap l HL.out _ HC.out).mono ?_
    rintro e w1 ⟨rfl, rfl⟩
    rw [HF.out]
    go_wp2_with fail
    refine (live15_c _).mono ?_
    rintro e w2 ⟨rfl, hb⟩
    go_wp2_with fail
    go_ret
    exact ⟨rfl, HBX.out.trans (hb.mono HBX.out.size)⟩
  | true =>
    obtain ⟨hl60, -⟩ := few_in hf
    have HF := Lib.hid hf
    clear hf
    by_cases hlong : 100 < (nm (mw m)).length
    · have hd1 : decide (100 < (nm (mw m)).length) = true := decide_eq_true hlong
      go_enter Try.func10, Try.ntmps10
      go_wp2_with fail
      rw [← HW.out]
      refine (few_c A cap l HL.out _ HC.out).mono ?_
      rintro e w1 ⟨rfl, rfl⟩
      rw [HF.out]
      go_wp2_with fail
      refine (live15_c _).mono ?_
      rintro e w2 ⟨rfl, hb⟩
      go_wp2_with fail
      go_ret
      exact ⟨rfl, HBX.out.trans (hb.mono HBX.out.size)⟩
    · have hd1 : decide (100 < (nm (mw m)).length) = false := decide_eq_false hlong
      cases hmay : mayB l with
      | false =>
        have HMY := Lib.hid hmay
        clear hmay
        go_enter Try.func10, Try.ntmps10
        go_wp2_with fail
        rw [← HW.out]
        refine (few_c A cap l HL.out _ HC.out).mono ?_
        rintro e w1 ⟨rfl, rfl⟩
        rw [HF.out]
        go_wp2_with fail
        refine (rmay_c A cap l HL.out (fun r hr => (HM.out r hr).2) _ HC.out).mono ?_
        rintro e w1 ⟨rfl, hb1⟩
        rw [HMY.out]
        go_wp2_with fail
        refine (live15_c _).mono ?_
        rintro e w2 ⟨rfl, hb⟩
        go_wp2_with fail
        go_ret
        exact ⟨rfl, HBX.out.trans ((hb1.trans (hb.mono hb1.size)).mono HBX.out.size)⟩
      | true =>
        have HMY := Lib.hid hmay
        clear hmay
        have hl' : l.length ≤ 100000 := by omega
        have hst : stepP l m = if barP l m then (m, false, false, zr) else (m, true, (fnd l (ch (mw m))).isSome, (fnd l (ch (mw m))).getD zr) := rfl
        cases hq : barP l m with
        | true =>
          rw [hq, if_pos rfl] at hst
          have HST := Lib.hid hst
          have HQ := Lib.hid hq
          obtain ⟨r, hr⟩ : ∃ r, (fnd l (ch (mw m))).getD zr = r := ⟨_, rfl⟩
          obtain ⟨u, hu⟩ : ∃ u, (fnd l (ch (mw m))).isSome = u := ⟨_, rfl⟩
          have HFD := Lib.hid (And.intro hr hu)
          clear hst hq hr hu
          cases u <;>
          · skip
            go_enter Try.func10, Try.ntmps10
            go_wp2_with fail
            rw [← HW.out]
            refine (few_c A cap l HL.out _ HC.out).mono ?_
            rintro e w1 ⟨rfl, rfl⟩
            rw [HF.out]
            go_wp2_with fail
            refine (rmay_c A cap l HL.out (fun r hr => (HM.out r hr).2) _ HC.out).mono ?_
            rintro e w1 ⟨rfl, hb1⟩
            rw [HMY.out]
            have HB1 := Lib.hid hb1
            have HI1 := Lib.hid (is_below HI.out hb1 (is_lt HI.out))
            have HC1 := Lib.hid (HC.out.keep hb1)
            clear hb1 g0 g1 g2 g3 g4 g5
            obtain ⟨g0, g1, g2, g3, g4, g5⟩ := box6 (m := m) HI1.out
            go_wp2_with fail
            refine (mudo_c A cap l m hl' HA.out hcap (fun a b W h => above_any hl' A cap a b W h) _ HC1.out).mono ?_
            rintro e w3 ⟨A3, c3, rfl, p3, n3, k3, hb3, -⟩
            rw [show pv (stepP l m) = .agg #[.int .i64 (mc m), .int .i64 (mr m), .int .i64 (pa (mw m)), .int .i64 (ch (mw m)), .string (ba (nm (mw m))), .float .f64 (rk (mw m)), .bool false, .bool false, .int .i64 0, .int .i64 0, .string ⟨#[]⟩, .float .f64 0] by rw [HST.out]; rfl]
            obtain ⟨w4, hw4⟩ : ∃ w4, w4 = w3.alloc (.cells #[.int .i64 (mc m), .int .i64 (mr m), .int .i64 (pa (mw m)), .int .i64 (ch (mw m)), .string (ba (nm (mw m))), .float .f64 (rk (mw m)), .bool false, .bool false, .int .i64 0, .int .i64 0, .string ⟨#[]⟩, .float .f64 0] 51) := ⟨_, rfl⟩
            have hb34 : Below w3.heap.size w3 w4 := by rw [hw4]; exact (Below.refl _ _).alloc (Nat.le_refl _) _
            have hb14 := hb3.trans (hb34.mono hb3.size)
            have HI4 := Lib.hid (is_below HI1.out hb14 (is_lt HI1.out))
            have HX4 := Lib.hid (show Is w4 w3.heap.size 51 [.int .i64 (mc m), .int .i64 (mr m), .int .i64 (pa (mw m)), .int .i64 (ch (mw m)), .string (ba (nm (mw m))), .float .f64 (rk (mw m)), .bool false, .bool false, .int .i64 0, .int .i64 0, .string ⟨#[]⟩, .float .f64 0] by rw [hw4]; exact is_new w3 51 [.int .i64 (mc m), .int .i64 (mr m), .int .i64 (pa (mw m)), .int .i64 (ch (mw m)), .string (ba (nm (mw m))), .float .f64 (rk (mw m)), .bool false, .bool false, .int .i64 0, .int .i64 0, .string ⟨#[]⟩, .float .f64 0])
            have HC4 := Lib.hid (HC1.out.keep hb14)
            have HB4 := Lib.hid (HB1.out.trans (hb14.mono HB1.out.size))
            have P3 := Lib.hid (p3.keep hb34)
            have HN3 := Lib.hid n3
            have HW4 := Lib.hid hw4
            clear g0 g1 g2 g3 g4 g5
            obtain ⟨g0, g1, g2, g3, g4, g5⟩ := box6 (m := m) HI4.out
            rw [hw4] at g0 g1 g2 g3 g4 g5
            clear hb3 hb34 hb14 p3 hw4 n3
            go_wp2_with fail
            rw [← HW4.out]
            refine (find_c A cap l (ch (mw m)) HL.out _ HC4.out).mono ?_
            rintro e w5 ⟨rfl, hb5⟩
            rw [HFD.out.1, HFD.out.2, show rv r = .agg #[.int .i64 (ch r), .int .i64 (pa r), .string (ba (nm r)), .float .f64 (rk r)] from rfl]
            obtain ⟨w6, hw6⟩ : ∃ w6, w6 = w5.alloc (.cells #[.int .i64 (ch r), .int .i64 (pa r), .string (ba (nm r)), .float .f64 (rk r)] 43) := ⟨_, rfl⟩
            have hb56 : Below w5.heap.size w5 w6 := by rw [hw6]; exact (Below.refl _ _).alloc (Nat.le_refl _) _
            have hb46 := hb5.trans (hb56.mono hb5.size)
            have HI6 := Lib.hid (is_below HI4.out hb46 (is_lt HI4.out))
            have HX6 := Lib.hid (is_below HX4.out hb46 (is_lt HX4.out))
            have HR6 := Lib.hid (show Is w6 w5.heap.size 43 [.int .i64 (ch r), .int .i64 (pa r), .string (ba (nm r)), .float .f64 (rk r)] by rw [hw6]; exact is_new w5 43 [.int .i64 (ch r), .int .i64 (pa r), .string (ba (nm r)), .float .f64 (rk r)])
            have HC6 := Lib.hid (HC4.out.keep hb46)
            have HB6 := Lib.hid (HB4.out.trans (hb46.mono HB4.out.size))
            have P3b := Lib.hid (P3.out.keep hb46)
            have HW6 := Lib.hid hw6
            clear hb5 hb56 hb46 hw6 g0 g1 g2 g3 g4 g5
            go_wp2_with fail
            rw [← HW6.out]
            refine quiet_held (fun w' => Below w6.heap.size w6 w') (by kernel_rfl) (by kernel_rfl) (Below.refl _ _).drew ?_
            repeat (first
              | go_big_quiet_skip
              | (go_big_quiet_want; go_big_quiet_op; go_big_quiet_on)
              | (go_big_quiet_want; apply Exists.intro; refine ⟨fun wq hq => ?_, ?_⟩; (focus (obtain ⟨g0, g1, g2, g3, g4, g5⟩ := box6 (m := m) (is_below HI6.out hq (is_lt HI6.out)); obtain ⟨x6, x7, x8, x9, x10, x11⟩ := box_x (is_below HX6.out hq (is_lt HX6.out)); obtain ⟨y0, y1, y2, y3⟩ := box4 (is_below HR6.out hq (is_lt HR6.out)); unfold Oper.quietAt; go_simp; all_goals (first | rfl | (refine (mbarred_k (q := true) HQ.out hl' (HC6.out.keep hq)).mono ?_; rintro e w7 ⟨rfl, hbn⟩; exact ⟨rfl, hq.trans (hbn.mono hq.size)⟩) | (refine (alike_t (r := zr) zr_ok.1 _).mono ?_; rintro e w7 ⟨rfl, hbn⟩; exact ⟨rfl, hq.trans (hbn.mono hq.size)⟩)))); simp only [Act.put, List.setIfInBounds_toArray, List.set_cons_zero, List.set_cons_succ]; go_big_quiet_on))
            refine wpQuiet_nil ?_
            intro w7 hb7
            have HI7 := Lib.hid (is_below HI6.out hb7 (is_lt HI6.out))
            have HX7 := Lib.hid (is_below HX6.out hb7 (is_lt HX6.out))
            have HC7 := Lib.hid (HC6.out.keep hb7)
            have HB7 := Lib.hid (HB6.out.trans (hb7.mono HB6.out.size))
            have P3c := Lib.hid (P3b.out.keep hb7)
            clear hb7
            obtain ⟨g0, g1, g2, g3, g4, g5⟩ := box6 (m := m) HI7.out
            have z0 := is_cell HX7.out 0
            have z1 := is_cell HX7.out 1
            have z2 := is_cell HX7.out 2
            have z3 := is_cell HX7.out 3
            have z4 := is_cell HX7.out 4
            have z5 := is_cell HX7.out 5
            have z6 := is_cell HX7.out 6
            have z7 := is_cell HX7.out 7
            have z8 := is_cell HX7.out 8
            have z9 := is_cell HX7.out 9
            have z10 := is_cell HX7.out 10
            have z11 := is_cell HX7.out 11
            simp only [List.getElem?_cons_zero, List.getElem?_cons_succ] at z0 z1 z2 z3 z4 z5 z6 z7 z8 z9 z10 z11
            go_wp2_with fail
            refine (rmalike_k (alikeM_refl m) HM2.out.1 HM2.out.1 _).mono ?_
            rintro e w8 ⟨rfl, hb8⟩
            have HX8 := Lib.hid (is_below HX7.out hb8 (is_lt HX7.out))
            have HC8 := Lib.hid (HC7.out.keep hb8)
            have HB8 := Lib.hid (HB7.out.trans (hb8.mono HB7.out.size))
            have P3d := Lib.hid (P3c.out.keep hb8)
            clear hb8 g0 g1 g2 g3 g4 g5 z0 z1 z2 z3 z4 z5 z6 z7 z8 z9 z10 z11
            have z0 := is_cell HX8.out 0
            have z1 := is_cell HX8.out 1
            have z2 := is_cell HX8.out 2
            have z3 := is_cell HX8.out 3
            have z4 := is_cell HX8.out 4
            have z5 := is_cell HX8.out 5
            have z6 := is_cell HX8.out 6
            have z7 := is_cell HX8.out 7
            have z8 := is_cell HX8.out 8
            have z9 := is_cell HX8.out 9
            have z10 := is_cell HX8.out 10
            have z11 := is_cell HX8.out 11
            simp only [List.getElem?_cons_zero, List.getElem?_cons_succ] at z0 z1 z2 z3 z4 z5 z6 z7 z8 z9 z10 z11
            have hud := mundo_c A3 c3 (doP l m) (stepP l m) (by have := doP_len l m; omega) HN3.out k3 w8 P3d.out
            rw [undo_do] at hud
            have HUD := Lib.hid hud
            rw [show pv (stepP l m) = .agg #[.int .i64 (mc m), .int .i64 (mr m), .int .i64 (pa (mw m)), .int .i64 (ch (mw m)), .string (ba (nm (mw m))), .float .f64 (rk (mw m)), .bool false, .bool false, .int .i64 0, .int .i64 0, .string ⟨#[]⟩, .float .f64 0] by rw [HST.out]; rfl] at HUD
            clear hud
            go_wp2_with fail
            refine HUD.out.mono ?_
            rintro e w9 ⟨A9, c9, rfl, p9, -, -, hb9⟩
            have HB9 := Lib.hid (HB8.out.trans (hb9.mono HB8.out.size))
            have P9 := Lib.hid p9
            have HC9 := Lib.hid (HC8.out.keep hb9)
            clear hb9 p9 z0 z1 z2 z3 z4 z5 z6 z7 z8 z9 z10 z11
            go_wp2_with fail
            refine (rsame_t HL.out HM.out P9.out HC9.out).mono ?_
            rintro e w10 ⟨rfl, hb10⟩
            have HB10 := Lib.hid (HB9.out.trans (hb10.mono HB9.out.size))
            clear hb10
            go_wp2_with fail
            refine (live15_c _).mono ?_
            rintro e w11 ⟨rfl, hb11⟩
            go_wp2_with fail
            go_ret
            exact ⟨rfl, HBX.out.trans ((HB10.out.trans (hb11.mono HB10.out.size)).mono HBX.out.size)⟩
        | false =>
          rw [hq, if_neg Bool.false_ne_true] at hst
          have HQ := Lib.hid hq
          clear hq
          cases hfd : fnd l (ch (mw m)) with
          | some r =>
            rw [hfd] at hst
            have HST := Lib.hid hst
            have HFD := Lib.hid (show (fnd l (ch (mw m))).getD zr = r ∧ (fnd l (ch (mw m))).isSome = true by rw [hfd]; exact ⟨rfl, rfl⟩)
            have HRR := Lib.hid (HM.out r (fnd_mem hfd)).1
            clear hst hfd
            go_enter Try.func10, Try.ntmps10
            go_wp2_with fail
            rw [← HW.out]
            refine (few_c A cap l HL.out _ HC.out).mono ?_
            rintro e w1 ⟨rfl, rfl⟩
            rw [HF.out]
            go_wp2_with fail
            refine (rmay_c A cap l HL.out (fun r hr => (HM.out r hr).2) _ HC.out).mono ?_
            rintro e w1 ⟨rfl, hb1⟩
            rw [HMY.out]
            have HB1 := Lib.hid hb1
            have HI1 := Lib.hid (is_below HI.out hb1 (is_lt HI.out))
            have HC1 := Lib.hid (HC.out.keep hb1)
            clear hb1 g0 g1 g2 g3 g4 g5
            obtain ⟨g0, g1, g2, g3, g4, g5⟩ := box6 (m := m) HI1.out
            go_wp2_with fail
            refine (mudo_c A cap l m hl' HA.out hcap (fun a b W h => above_any hl' A cap a b W h) _ HC1.out).mono ?_
            rintro e w3 ⟨A3, c3, rfl, p3, n3, k3, hb3, -⟩
            rw [show pv (stepP l m) = .agg #[.int .i64 (mc m), .int .i64 (mr m), .int .i64 (pa (mw m)), .int .i64 (ch (mw m)), .string (ba (nm (mw m))), .float .f64 (rk (mw m)), .bool true, .bool true, .int .i64 (ch r), .int .i64 (pa r), .string (ba (nm r)), .float .f64 (rk r)] by rw [HST.out]; rfl]
            obtain ⟨w4, hw4⟩ : ∃ w4, w4 = w3.alloc (.cells #[.int .i64 (mc m), .int .i64 (mr m), .int .i64 (pa (mw m)), .int .i64 (ch (mw m)), .string (ba (nm (mw m))), .float .f64 (rk (mw m)), .bool true, .bool true, .int .i64 (ch r), .int .i64 (pa r), .string (ba (nm r)), .float .f64 (rk r)] 51) := ⟨_, rfl⟩
            have hb34 : Below w3.heap.size w3 w4 := by rw [hw4]; exact (Below.refl _ _).alloc (Nat.le_refl _) _
            have hb14 := hb3.trans (hb34.mono hb3.size)
            have HI4 := Lib.hid (is_below HI1.out hb14 (is_lt HI1.out))
            have HX4 := Lib.hid (show Is w4 w3.heap.size 51 [.int .i64 (mc m), .int .i64 (mr m), .int .i64 (pa (mw m)), .int .i64 (ch (mw m)), .string (ba (nm (mw m))), .float .f64 (rk (mw m)), .bool true, .bool true, .int .i64 (ch r), .int .i64 (pa r), .string (ba (nm r)), .float .f64 (rk r)] by rw [hw4]; exact is_new w3 51 [.int .i64 (mc m), .int .i64 (mr m), .int .i64 (pa (mw m)), .int .i64 (ch (mw m)), .string (ba (nm (mw m))), .float .f64 (rk (mw m)), .bool true, .bool true, .int .i64 (ch r), .int .i64 (pa r), .string (ba (nm r)), .float .f64 (rk r)])
            have HC4 := Lib.hid (HC1.out.keep hb14)
            have HB4 := Lib.hid (HB1.out.trans (hb14.mono HB1.out.size))
            have P3 := Lib.hid (p3.keep hb34)
            have HN3 := Lib.hid n3
            have HW4 := Lib.hid hw4
            clear g0 g1 g2 g3 g4 g5
            obtain ⟨g0, g1, g2, g3, g4, g5⟩ := box6 (m := m) HI4.out
            rw [hw4] at g0 g1 g2 g3 g4 g5
            clear hb3 hb34 hb14 p3 hw4 n3
            go_wp2_with fail
            rw [← HW4.out]
            refine (find_c A cap l (ch (mw m)) HL.out _ HC4.out).mono ?_
            rintro e w5 ⟨rfl, hb5⟩
            rw [HFD.out.1, HFD.out.2, show rv r = .agg #[.int .i64 (ch r), .int .i64 (pa r), .string (ba (nm r)), .float .f64 (rk r)] from rfl]
            obtain ⟨w6, hw6⟩ : ∃ w6, w6 = w5.alloc (.cells #[.int .i64 (ch r), .int .i64 (pa r), .string (ba (nm r)), .float .f64 (rk r)] 43) := ⟨_, rfl⟩
            have hb56 : Below w5.heap.size w5 w6 := by rw [hw6]; exact (Below.refl _ _).alloc (Nat.le_refl _) _
            have hb46 := hb5.trans (hb56.mono hb5.size)
            have HI6 := Lib.hid (is_below HI4.out hb46 (is_lt HI4.out))
            have HX6 := Lib.hid (is_below HX4.out hb46 (is_lt HX4.out))
            have HR6 := Lib.hid (show Is w6 w5.heap.size 43 [.int .i64 (ch r), .int .i64 (pa r), .string (ba (nm r)), .float .f64 (rk r)] by rw [hw6]; exact is_new w5 43 [.int .i64 (ch r), .int .i64 (pa r), .string (ba (nm r)), .float .f64 (rk r)])
            have HC6 := Lib.hid (HC4.out.keep hb46)
            have HB6 := Lib.hid (HB4.out.trans (hb46.mono HB4.out.size))
            have P3b := Lib.hid (P3.out.keep hb46)
            have HW6 := Lib.hid hw6
            clear hb5 hb56 hb46 hw6 g0 g1 g2 g3 g4 g5
            go_wp2_with fail
            rw [← HW6.out]
            refine quiet_held (fun w' => Below w6.heap.size w6 w') (by kernel_rfl) (by kernel_rfl) (Below.refl _ _).drew ?_
            repeat (first
              | go_big_quiet_skip
              | (go_big_quiet_want; go_big_quiet_op; go_big_quiet_on)
              | (go_big_quiet_want; apply Exists.intro; refine ⟨fun wq hq => ?_, ?_⟩; (focus (obtain ⟨g0, g1, g2, g3, g4, g5⟩ := box6 (m := m) (is_below HI6.out hq (is_lt HI6.out)); obtain ⟨x6, x7, x8, x9, x10, x11⟩ := box_x (is_below HX6.out hq (is_lt HX6.out)); obtain ⟨y0, y1, y2, y3⟩ := box4 (is_below HR6.out hq (is_lt HR6.out)); unfold Oper.quietAt; go_simp; all_goals (first | rfl | (refine (mbarred_k (q := false) HQ.out hl' (HC6.out.keep hq)).mono ?_; rintro e w7 ⟨rfl, hbn⟩; exact ⟨rfl, hq.trans (hbn.mono hq.size)⟩) | (refine (alike_t (r := r) HRR.out _).mono ?_; rintro e w7 ⟨rfl, hbn⟩; exact ⟨rfl, hq.trans (hbn.mono hq.size)⟩)))); simp only [Act.put, List.setIfInBounds_toArray, List.set_cons_zero, List.set_cons_succ]; go_big_quiet_on))
            refine wpQuiet_nil ?_
            intro w7 hb7
            have HI7 := Lib.hid (is_below HI6.out hb7 (is_lt HI6.out))
            have HX7 := Lib.hid (is_below HX6.out hb7 (is_lt HX6.out))
            have HC7 := Lib.hid (HC6.out.keep hb7)
            have HB7 := Lib.hid (HB6.out.trans (hb7.mono HB6.out.size))
            have P3c := Lib.hid (P3b.out.keep hb7)
            clear hb7
            obtain ⟨g0, g1, g2, g3, g4, g5⟩ := box6 (m := m) HI7.out
            have z0 := is_cell HX7.out 0
            have z1 := is_cell HX7.out 1
            have z2 := is_cell HX7.out 2
            have z3 := is_cell HX7.out 3
            have z4 := is_cell HX7.out 4
            have z5 := is_cell HX7.out 5
            have z6 := is_cell HX7.out 6
            have z7 := is_cell HX7.out 7
            have z8 := is_cell HX7.out 8
            have z9 := is_cell HX7.out 9
            have z10 := is_cell HX7.out 10
            have z11 := is_cell HX7.out 11
            simp only [List.getElem?_cons_zero, List.getElem?_cons_succ] at z0 z1 z2 z3 z4 z5 z6 z7 z8 z9 z10 z11
            go_wp2_with fail
            refine (rmalike_k (alikeM_refl m) HM2.out.1 HM2.out.1 _).mono ?_
            rintro e w8 ⟨rfl, hb8⟩
            have HX8 := Lib.hid (is_below HX7.out hb8 (is_lt HX7.out))
            have HC8 := Lib.hid (HC7.out.keep hb8)
            have HB8 := Lib.hid (HB7.out.trans (hb8.mono HB7.out.size))
            have P3d := Lib.hid (P3c.out.keep hb8)
            clear hb8 g0 g1 g2 g3 g4 g5 z0 z1 z2 z3 z4 z5 z6 z7 z8 z9 z10 z11
            have z0 := is_cell HX8.out 0
            have z1 := is_cell HX8.out 1
            have z2 := is_cell HX8.out 2
            have z3 := is_cell HX8.out 3
            have z4 := is_cell HX8.out 4
            have z5 := is_cell HX8.out 5
            have z6 := is_cell HX8.out 6
            have z7 := is_cell HX8.out 7
            have z8 := is_cell HX8.out 8
            have z9 := is_cell HX8.out 9
            have z10 := is_cell HX8.out 10
            have z11 := is_cell HX8.out 11
            simp only [List.getElem?_cons_zero, List.getElem?_cons_succ] at z0 z1 z2 z3 z4 z5 z6 z7 z8 z9 z10 z11
            have hud := mundo_c A3 c3 (doP l m) (stepP l m) (by have := doP_len l m; omega) HN3.out k3 w8 P3d.out
            rw [undo_do] at hud
            have HUD := Lib.hid hud
            rw [show pv (stepP l m) = .agg #[.int .i64 (mc m), .int .i64 (mr m), .int .i64 (pa (mw m)), .int .i64 (ch (mw m)), .string (ba (nm (mw m))), .float .f64 (rk (mw m)), .bool true, .bool true, .int .i64 (ch r), .int .i64 (pa r), .string (ba (nm r)), .float .f64 (rk r)] by rw [HST.out]; rfl] at HUD
            clear hud
            go_wp2_with fail
            refine HUD.out.mono ?_
            rintro e w9 ⟨A9, c9, rfl, p9, -, -, hb9⟩
            have HB9 := Lib.hid (HB8.out.trans (hb9.mono HB8.out.size))
            have P9 := Lib.hid p9
            have HC9 := Lib.hid (HC8.out.keep hb9)
            clear hb9 p9 z0 z1 z2 z3 z4 z5 z6 z7 z8 z9 z10 z11
            go_wp2_with fail
            refine (rsame_t HL.out HM.out P9.out HC9.out).mono ?_
            rintro e w10 ⟨rfl, hb10⟩
            have HB10 := Lib.hid (HB9.out.trans (hb10.mono HB9.out.size))
            clear hb10
            go_wp2_with fail
            refine (live15_c _).mono ?_
            rintro e w11 ⟨rfl, hb11⟩
            go_wp2_with fail
            go_ret
            exact ⟨rfl, HBX.out.trans ((HB10.out.trans (hb11.mono HB10.out.size)).mono HBX.out.size)⟩
          | none =>
            rw [hfd] at hst
            obtain ⟨r, hr⟩ : ∃ r : Rw, r = zr := ⟨_, rfl⟩
            have HST := Lib.hid (show stepP l m = (m, true, false, zr) from hst)
            have HFD := Lib.hid (show (fnd l (ch (mw m))).getD zr = r ∧ (fnd l (ch (mw m))).isSome = false by rw [hfd, hr]; exact ⟨rfl, rfl⟩)
            clear hst hfd hr
            go_enter Try.func10, Try.ntmps10
            go_wp2_with fail
            rw [← HW.out]
            refine (few_c A cap l HL.out _ HC.out).mono ?_
            rintro e w1 ⟨rfl, rfl⟩
            rw [HF.out]
            go_wp2_with fail
            refine (rmay_c A cap l HL.out (fun r hr => (HM.out r hr).2) _ HC.out).mono ?_
            rintro e w1 ⟨rfl, hb1⟩
            rw [HMY.out]
            have HB1 := Lib.hid hb1
            have HI1 := Lib.hid (is_below HI.out hb1 (is_lt HI.out))
            have HC1 := Lib.hid (HC.out.keep hb1)
            clear hb1 g0 g1 g2 g3 g4 g5
            obtain ⟨g0, g1, g2, g3, g4, g5⟩ := box6 (m := m) HI1.out
            go_wp2_with fail
            refine (mudo_c A cap l m hl' HA.out hcap (fun a b W h => above_any hl' A cap a b W h) _ HC1.out).mono ?_
            rintro e w3 ⟨A3, c3, rfl, p3, n3, k3, hb3, -⟩
            rw [show pv (stepP l m) = .agg #[.int .i64 (mc m), .int .i64 (mr m), .int .i64 (pa (mw m)), .int .i64 (ch (mw m)), .string (ba (nm (mw m))), .float .f64 (rk (mw m)), .bool true, .bool false, .int .i64 0, .int .i64 0, .string ⟨#[]⟩, .float .f64 0] by rw [HST.out]; rfl]
            obtain ⟨w4, hw4⟩ : ∃ w4, w4 = w3.alloc (.cells #[.int .i64 (mc m), .int .i64 (mr m), .int .i64 (pa (mw m)), .int .i64 (ch (mw m)), .string (ba (nm (mw m))), .float .f64 (rk (mw m)), .bool true, .bool false, .int .i64 0, .int .i64 0, .string ⟨#[]⟩, .float .f64 0] 51) := ⟨_, rfl⟩
            have hb34 : Below w3.heap.size w3 w4 := by rw [hw4]; exact (Below.refl _ _).alloc (Nat.le_refl _) _
            have hb14 := hb3.trans (hb34.mono hb3.size)
            have HI4 := Lib.hid (is_below HI1.out hb14 (is_lt HI1.out))
            have HX4 := Lib.hid (show Is w4 w3.heap.size 51 [.int .i64 (mc m), .int .i64 (mr m), .int .i64 (pa (mw m)), .int .i64 (ch (mw m)), .string (ba (nm (mw m))), .float .f64 (rk (mw m)), .bool true, .bool false, .int .i64 0, .int .i64 0, .string ⟨#[]⟩, .float .f64 0] by rw [hw4]; exact is_new w3 51 [.int .i64 (mc m), .int .i64 (mr m), .int .i64 (pa (mw m)), .int .i64 (ch (mw m)), .string (ba (nm (mw m))), .float .f64 (rk (mw m)), .bool true, .bool false, .int .i64 0, .int .i64 0, .string ⟨#[]⟩, .float .f64 0])
            have HC4 := Lib.hid (HC1.out.keep hb14)
            have HB4 := Lib.hid (HB1.out.trans (hb14.mono HB1.out.size))
            have P3 := Lib.hid (p3.keep hb34)
            have HN3 := Lib.hid n3
            have HW4 := Lib.hid hw4
            clear g0 g1 g2 g3 g4 g5
            obtain ⟨g0, g1, g2, g3, g4, g5⟩ := box6 (m := m) HI4.out
            rw [hw4] at g0 g1 g2 g3 g4 g5
            clear hb3 hb34 hb14 p3 hw4 n3
            go_wp2_with fail
            rw [← HW4.out]
            refine (find_c A cap l (ch (mw m)) HL.out _ HC4.out).mono ?_
            rintro e w5 ⟨rfl, hb5⟩
            rw [HFD.out.1, HFD.out.2, show rv r = .agg #[.int .i64 (ch r), .int .i64 (pa r), .string (ba (nm r)), .float .f64 (rk r)] from rfl]
            obtain ⟨w6, hw6⟩ : ∃ w6, w6 = w5.alloc (.cells #[.int .i64 (ch r), .int .i64 (pa r), .string (ba (nm r)), .float .f64 (rk r)] 43) := ⟨_, rfl⟩
            have hb56 : Below w5.heap.size w5 w6 := by rw [hw6]; exact (Below.refl _ _).alloc (Nat.le_refl _) _
            have hb46 := hb5.trans (hb56.mono hb5.size)
            have HI6 := Lib.hid (is_below HI4.out hb46 (is_lt HI4.out))
            have HX6 := Lib.hid (is_below HX4.out hb46 (is_lt HX4.out))
            have HR6 := Lib.hid (show Is w6 w5.heap.size 43 [.int .i64 (ch r), .int .i64 (pa r), .string (ba (nm r)), .float .f64 (rk r)] by rw [hw6]; exact is_new w5 43 [.int .i64 (ch r), .int .i64 (pa r), .string (ba (nm r)), .float .f64 (rk r)])
            have HC6 := Lib.hid (HC4.out.keep hb46)
            have HB6 := Lib.hid (HB4.out.trans (hb46.mono HB4.out.size))
            have P3b := Lib.hid (P3.out.keep hb46)
            have HW6 := Lib.hid hw6
            clear hb5 hb56 hb46 hw6 g0 g1 g2 g3 g4 g5
            go_wp2_with fail
            rw [← HW6.out]
            refine quiet_held (fun w' => Below w6.heap.size w6 w') (by kernel_rfl) (by kernel_rfl) (Below.refl _ _).drew ?_
            repeat (first
              | go_big_quiet_skip
              | (go_big_quiet_want; go_big_quiet_op; go_big_quiet_on)
              | (go_big_quiet_want; apply Exists.intro; refine ⟨fun wq hq => ?_, ?_⟩; (focus (obtain ⟨g0, g1, g2, g3, g4, g5⟩ := box6 (m := m) (is_below HI6.out hq (is_lt HI6.out)); obtain ⟨x6, x7, x8, x9, x10, x11⟩ := box_x (is_below HX6.out hq (is_lt HX6.out)); obtain ⟨y0, y1, y2, y3⟩ := box4 (is_below HR6.out hq (is_lt HR6.out)); unfold Oper.quietAt; go_simp; all_goals (first | rfl | (refine (mbarred_k (q := false) HQ.out hl' (HC6.out.keep hq)).mono ?_; rintro e w7 ⟨rfl, hbn⟩; exact ⟨rfl, hq.trans (hbn.mono hq.size)⟩) | (refine (alike_t (r := zr) zr_ok.1 _).mono ?_; rintro e w7 ⟨rfl, hbn⟩; exact ⟨rfl, hq.trans (hbn.mono hq.size)⟩)))); simp only [Act.put, List.setIfInBounds_toArray, List.set_cons_zero, List.set_cons_succ]; go_big_quiet_on))
            refine wpQuiet_nil ?_
            intro w7 hb7
            have HI7 := Lib.hid (is_below HI6.out hb7 (is_lt HI6.out))
            have HX7 := Lib.hid (is_below HX6.out hb7 (is_lt HX6.out))
            have HC7 := Lib.hid (HC6.out.keep hb7)
            have HB7 := Lib.hid (HB6.out.trans (hb7.mono HB6.out.size))
            have P3c := Lib.hid (P3b.out.keep hb7)
            clear hb7
            obtain ⟨g0, g1, g2, g3, g4, g5⟩ := box6 (m := m) HI7.out
            have z0 := is_cell HX7.out 0
            have z1 := is_cell HX7.out 1
            have z2 := is_cell HX7.out 2
            have z3 := is_cell HX7.out 3
            have z4 := is_cell HX7.out 4
            have z5 := is_cell HX7.out 5
            have z6 := is_cell HX7.out 6
            have z7 := is_cell HX7.out 7
            have z8 := is_cell HX7.out 8
            have z9 := is_cell HX7.out 9
            have z10 := is_cell HX7.out 10
            have z11 := is_cell HX7.out 11
            simp only [List.getElem?_cons_zero, List.getElem?_cons_succ] at z0 z1 z2 z3 z4 z5 z6 z7 z8 z9 z10 z11
            go_wp2_with fail
            refine (rmalike_k (alikeM_refl m) HM2.out.1 HM2.out.1 _).mono ?_
            rintro e w8 ⟨rfl, hb8⟩
            have HX8 := Lib.hid (is_below HX7.out hb8 (is_lt HX7.out))
            have HC8 := Lib.hid (HC7.out.keep hb8)
            have HB8 := Lib.hid (HB7.out.trans (hb8.mono HB7.out.size))
            have P3d := Lib.hid (P3c.out.keep hb8)
            clear hb8 g0 g1 g2 g3 g4 g5 z0 z1 z2 z3 z4 z5 z6 z7 z8 z9 z10 z11
            have z0 := is_cell HX8.out 0
            have z1 := is_cell HX8.out 1
            have z2 := is_cell HX8.out 2
            have z3 := is_cell HX8.out 3
            have z4 := is_cell HX8.out 4
            have z5 := is_cell HX8.out 5
            have z6 := is_cell HX8.out 6
            have z7 := is_cell HX8.out 7
            have z8 := is_cell HX8.out 8
            have z9 := is_cell HX8.out 9
            have z10 := is_cell HX8.out 10
            have z11 := is_cell HX8.out 11
            simp only [List.getElem?_cons_zero, List.getElem?_cons_succ] at z0 z1 z2 z3 z4 z5 z6 z7 z8 z9 z10 z11
            have hud := mundo_c A3 c3 (doP l m) (stepP l m) (by have := doP_len l m; omega) HN3.out k3 w8 P3d.out
            rw [undo_do] at hud
            have HUD := Lib.hid hud
            rw [show pv (stepP l m) = .agg #[.int .i64 (mc m), .int .i64 (mr m), .int .i64 (pa (mw m)), .int .i64 (ch (mw m)), .string (ba (nm (mw m))), .float .f64 (rk (mw m)), .bool true, .bool false, .int .i64 0, .int .i64 0, .string ⟨#[]⟩, .float .f64 0] by rw [HST.out]; rfl] at HUD
            clear hud
            go_wp2_with fail
            refine HUD.out.mono ?_
            rintro e w9 ⟨A9, c9, rfl, p9, -, -, hb9⟩
            have HB9 := Lib.hid (HB8.out.trans (hb9.mono HB8.out.size))
            have P9 := Lib.hid p9
            have HC9 := Lib.hid (HC8.out.keep hb9)
            clear hb9 p9 z0 z1 z2 z3 z4 z5 z6 z7 z8 z9 z10 z11
            go_wp2_with fail
            refine (rsame_t HL.out HM.out P9.out HC9.out).mono ?_
            rintro e w10 ⟨rfl, hb10⟩
            have HB10 := Lib.hid (HB9.out.trans (hb10.mono HB9.out.size))
            clear hb10
            go_wp2_with fail
            refine (live15_c _).mono ?_
            rintro e w11 ⟨rfl, hb11⟩
            go_wp2_with fail
            go_ret
            exact ⟨rfl, HBX.out.trans ((HB10.out.trans (hb11.mono HB10.out.size)).mono HBX.out.size)⟩
end undoSteps
end Go.Proofs.Ytnkckoilhhbllaa
