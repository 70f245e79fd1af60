/-
 What is told of any row, and of any rows: a walk.
-/
import Derived.Test.YtkobmnbjeppnaaaGreatYf
import Derived.Test.YtkobmnbjeppnaaaGreatXl
import Derived.Deep.DeepCutAuto
namespace Go.Proofs.YtkobmnbjeppnaaaGreat
open Go.RowKit Go.IntWalk
open Fl Gr
set_option maxRecDepth 100000
attribute [local go_sem] Oper.semAt_some
namespace treeTells
set_option maxHeartbeats 16000000 in
theorem walk (A : Option Addr) (cap : Nat) (l : List Rw) (hA : A = none → cap = 0) (hcap : l.length ≤ cap) (hmx : l.length ≤ maxLen) (hrw : Rows_ l) (B : Option Addr) (cap2 : Nat) (m : List Rw) (hmx2 : m.length ≤ maxLen) (hrw2 : Rows_ m) (c : Int) (w : World) (hc : At w w.heap.size A (tvs l)) (hc2 : At w w.heap.size B (tvs m)) :
  Calls Tryz.prog 3 #[.slice A l.length cap, .slice B m.length cap2, .int .i64 c] w fun e w' => e = .returned (.bool true) ∧ Below w.heap.size w w' := by
 have S0 := Lib.hid (((Bed.start w).addR (A := A) (l := l) hc).addR (A := B) (l := m) hc2)
 have HRW := Lib.hid hrw
 have HRW2 := Lib.hid hrw2
 have HCAP := Lib.hid (show Cap A l.length cap from ⟨hA, hcap⟩)
 clear hc hc2 hrw hrw2 hA hcap
 go_enter Tryz.func3, Tryz.ntmps3
 cases hfew : few l with
 | false =>
  go_wp2_with fail
  refine (few_v hfew hmx (S0.out.rows (.tail _ (.head _)))).mono ?_
  rintro e w1 ⟨rfl, hb⟩
  have S1 := Lib.hid (S0.out.step hb)
  clear hb
  go_wp2_with fail
  refine (live12_c _).mono ?_
  rintro e w2 ⟨rfl, hb⟩
  have S2 := Lib.hid (S1.out.step hb)
  clear hb
  go_wp2_with fail
  go_ret
  exact ⟨rfl, S2.out.bel⟩
 | true =>
  go_wp2_with fail
  refine (few_v hfew hmx (S0.out.rows (.tail _ (.head _)))).mono ?_
  rintro e w1 ⟨rfl, hb⟩
  have S1 := Lib.hid (S0.out.step hb)
  clear hb
  have hl60 := (few_in hfew).1
  have hl5 : l.length ≤ 100000 := by omega
  clear hfew
  cases hfew2 : few m with
  | false =>
   go_wp2_with fail
   refine (few_v hfew2 hmx2 (S1.out.rows (.head _))).mono ?_
   rintro e w2 ⟨rfl, hb⟩
   have S2 := Lib.hid (S1.out.step hb)
   clear hb
   go_wp2_with fail
   refine (live12_c _).mono ?_
   rintro e w3 ⟨rfl, hb⟩
   have S3 := Lib.hid (S2.out.step hb)
   clear hb
   go_wp2_with fail
   go_ret
   exact ⟨rfl, S3.out.bel⟩
  | true =>
   go_wp2_with fail
   refine (few_v hfew2 hmx2 (S1.out.rows (.head _))).mono ?_
   rintro e w2 ⟨rfl, hb⟩
   have S2 := Lib.hid (S1.out.step hb)
   clear hb
   clear hfew2
   go_wp2_with fail
   go_loopw [7] (fun i wr => ∃ k : Nat, i = .int .i64 (k : Int) ∧ k ≤ l.length ∧ Bed w wr [rowsAt B m, rowsAt A l]) (fun i _ => l.length - (Go.RowKit.intOf i).toNat)
   case atStart => exact ⟨0, rfl, Nat.zero_le _, S2.out⟩
   case round =>
    obtain ⟨k, rfl, hk, hbed⟩ := hrel
    have SR := Lib.hid hbed
    clear hbed
    by_cases hlt : k < l.length
    ·obtain ⟨r, hr⟩ := some_at hlt
     have hrr := HRW.out r (List.mem_of_getElem? hr)
     obtain ⟨b0, o0, hAe, hb0, c0, c1, c2, c3⟩ := row_cells (SR.out.rows (.tail _ (.head _))) hr
     subst hAe
     have hki : (0 : Int) ≤ (k : Int) := by omega
     have hkl : (k : Int) < (l.length : Int) := by omega
     have HC := Lib.hid (And.intro c0 (And.intro c1 (And.intro c2 c3)))
     have HB0 := Lib.hid hb0
     have HR := Lib.hid hrr
     clear c0 c1 c2 c3 hb0 hr hrr
     obtain ⟨x, hx⟩ : ∃ x, oneP r = x := ⟨_, rfl⟩
     have HX := Lib.hid hx
     clear hx
     cases x with
     | false =>
      go_wp2_with fail
      refine quiet_held (fun w' => Below wr.heap.size wr w') (by kernel_rfl) (by kernel_rfl) (Below.refl _ _).drew ?_
      repeat (first
       | go_big_quiet_skip
       | (go_big_quiet_want; go_big_quiet_op; go_big_quiet_on)
       | (go_big_quiet_want; apply Exists.intro; refine ⟨fun wq hq => ?_, ?_⟩; (focus (have z0 := (hq.cell (p := ⟨b0, o0 + k * 4, none⟩) HB0.out).trans HC.out.1; have z1 := (hq.cell (p := ⟨b0, o0 + k * 4 + 1, none⟩) HB0.out).trans HC.out.2.1; have z2 := (hq.cell (p := ⟨b0, o0 + k * 4 + 2, none⟩) HB0.out).trans HC.out.2.2.1; have z3 := (hq.cell (p := ⟨b0, o0 + k * 4 + 3, none⟩) HB0.out).trans HC.out.2.2.2; unfold Oper.quietAt; go_simp; all_goals (first | rfl | exact ⟨rfl, rfl⟩ | (with_reducible refine (one_v HX.out HR.out.2).mono ?_; rintro e w9 ⟨rfl, hbn⟩; exact ⟨rfl, hq.trans (hbn.mono hq.size)⟩) | (with_reducible refine (rone_v HX.out HR.out.2).mono ?_; rintro e w9 ⟨rfl, hbn⟩; exact ⟨rfl, hq.trans (hbn.mono hq.size)⟩)))); simp only [Act.put, List.setIfInBounds_toArray, List.set_cons_zero, List.set_cons_succ]; go_big_quiet_on))
      refine wpQuiet_nil ?_
      intro w3 hb
      have S3 := Lib.hid (SR.out.step hb)
      clear hb
      go_wp2_with fail
      go_roundw
      case rel => exact ⟨k + 1, by go_num, by omega, S3.out⟩
      case measure => simp only [Go.RowKit.intOf]; omega
     | true =>
      go_wp2_with fail
      refine quiet_held (fun w' => Below wr.heap.size wr w') (by kernel_rfl) (by kernel_rfl) (Below.refl _ _).drew ?_
      repeat (first
       | go_big_quiet_skip
       | (go_big_quiet_want; go_big_quiet_op; go_big_quiet_on)
       | (go_big_quiet_want; apply Exists.intro; refine ⟨fun wq hq => ?_, ?_⟩; (focus (have z0 := (hq.cell (p := ⟨b0, o0 + k * 4, none⟩) HB0.out).trans HC.out.1; have z1 := (hq.cell (p := ⟨b0, o0 + k * 4 + 1, none⟩) HB0.out).trans HC.out.2.1; have z2 := (hq.cell (p := ⟨b0, o0 + k * 4 + 2, none⟩) HB0.out).trans HC.out.2.2.1; have z3 := (hq.cell (p := ⟨b0, o0 + k * 4 + 3, none⟩) HB0.out).trans HC.out.2.2.2; unfold Oper.quietAt; go_simp; all_goals (first | rfl | exact ⟨rfl, rfl⟩ | (with_reducible refine (one_v HX.out HR.out.2).mono ?_; rintro e w9 ⟨rfl, hbn⟩; exact ⟨rfl, hq.trans (hbn.mono hq.size)⟩) | (with_reducible refine (rone_v HX.out HR.out.2).mono ?_; rintro e w9 ⟨rfl, hbn⟩; exact ⟨rfl, hq.trans (hbn.mono hq.size)⟩)))); simp only [Act.put, List.setIfInBounds_toArray, List.set_cons_zero, List.set_cons_succ]; go_big_quiet_on))
      refine wpQuiet_nil ?_
      intro w3 hb
      have S3 := Lib.hid (SR.out.step hb)
      clear hb
      go_wp2_with fail
      go_roundw
      case rel => exact ⟨k + 1, by go_num, by omega, S3.out⟩
      case measure => simp only [Go.RowKit.intOf]; omega
    ·obtain rfl : k = l.length := by omega
     obtain ⟨x, hx⟩ : ∃ x, (fnd l c).getD zr = x := ⟨_, rfl⟩
     obtain ⟨y, hy⟩ : ∃ y, (fnd l c).isSome = y := ⟨_, rfl⟩
     have hxo := fnd_ok HRW.out c
     rw [hx] at hxo
     have HXO := Lib.hid hxo
     have HX := Lib.hid hx
     have HY := Lib.hid hy
     obtain ⟨d, hd⟩ : ∃ d, dropP l c = d := ⟨_, rfl⟩
     have hdl : d.length ≤ l.length := by rw [← hd]; exact dropP_len l c
     have hdm : d.length ≤ maxLen := by omega
     have hdr : Rows_ d := by rw [← hd]; exact fun z hz => HRW.out z (dropP_mem hz)
     have HD := Lib.hid hd
     have HDR := Lib.hid hdr
     clear hx hy hd hdr hxo hdl
     go_wp2_with fail
     refine (find_v (v := .agg #[.int .i64 (ch x), .int .i64 (pa x), .string (ba (nm x)), .float .f64 (rk x)]) (x := y) (by rw [HX.out]; rfl) HY.out hmx (SR.out.rows (.tail _ (.head _)))).mono ?_
     rintro e w3 ⟨rfl, hb⟩
     have S3 := Lib.hid (SR.out.step hb)
     clear hb
     obtain ⟨w4, hw⟩ : ∃ w4, w4 = w3.alloc (.cells #[.int .i64 (ch x), .int .i64 (pa x), .string (ba (nm x)), .float .f64 (rk x)] 28) := ⟨_, rfl⟩
     have hb : Below w3.heap.size w3 w4 := by rw [hw]; exact (Below.refl _ _).alloc (Nat.le_refl _) _
     have S4 := Lib.hid ((S3.out.step hb).addB (g := w3.heap.size) (t := 28) (vs := [.int .i64 (ch x), .int .i64 (pa x), .string (ba (nm x)), .float .f64 (rk x)]) (by rw [hw]; exact is_new w3 28 _))
     have HW4 := Lib.hid hw
     clear hw hb
     go_wp2_with fail
     rw [← HW4.out]
     refine (rfind_v (v := .agg #[.int .i64 (ch x), .int .i64 (pa x), .string (ba (nm x)), .float .f64 (rk x)]) (x := y) (by rw [HX.out]; rfl) HY.out hmx (S4.out.rows (.tail _ (.tail _ (.head _))))).mono ?_
     rintro e w5 ⟨rfl, hb⟩
     have S5 := Lib.hid (S4.out.step hb)
     clear hb
     obtain ⟨w6, hw⟩ : ∃ w6, w6 = w5.alloc (.cells #[.int .i64 (ch x), .int .i64 (pa x), .string (ba (nm x)), .float .f64 (rk x)] 28) := ⟨_, rfl⟩
     have hb : Below w5.heap.size w5 w6 := by rw [hw]; exact (Below.refl _ _).alloc (Nat.le_refl _) _
     have S6 := Lib.hid ((S5.out.step hb).addB (g := w5.heap.size) (t := 28) (vs := [.int .i64 (ch x), .int .i64 (pa x), .string (ba (nm x)), .float .f64 (rk x)]) (by rw [hw]; exact is_new w5 28 _))
     have HW6 := Lib.hid hw
     clear hw hb
     obtain ⟨x1, hx1⟩ : ∃ x, mayB l = x := ⟨_, rfl⟩
     obtain ⟨x2, hx2⟩ : ∃ x, sameP l m = x := ⟨_, rfl⟩
     go_wp2_with fail
     rw [← HW6.out]
     refine (may_v hx1 (show l.length ≤ 1000 by omega) HRW.out (S6.out.rows (.tail _ (.tail _ (.tail _ (.head _)))))).mono ?_
     rintro e w7 ⟨rfl, hb⟩
     have S7 := Lib.hid (S6.out.step hb)
     clear hb
     go_wp2_with fail
     refine (rmay_v hx1 hmx HRW.out (S7.out.rows (.tail _ (.tail _ (.tail _ (.head _)))))).mono ?_
     rintro e w8 ⟨rfl, hb⟩
     have S8 := Lib.hid (S7.out.step hb)
     clear hb
     go_wp2_with fail
     refine (same_v hx2 hmx hmx2 HRW.out HRW2.out (S8.out.rows (.tail _ (.tail _ (.tail _ (.head _))))) (S8.out.rows (.tail _ (.tail _ (.head _))))).mono ?_
     rintro e w9 ⟨rfl, hb⟩
     have S9 := Lib.hid (S8.out.step hb)
     clear hb
     go_wp2_with fail
     refine (rsame_v hx2 hmx hmx2 HRW.out HRW2.out (S9.out.rows (.tail _ (.tail _ (.tail _ (.head _))))) (S9.out.rows (.tail _ (.tail _ (.head _))))).mono ?_
     rintro e w10 ⟨rfl, hb⟩
     have S10 := Lib.hid (S9.out.step hb)
     clear hb
     have hx := (S10.out.box (.tail _ (.head _)))
     have y1_0 := is_cell hx 0
     have y1_1 := is_cell hx 1
     have y1_2 := is_cell hx 2
     have y1_3 := is_cell hx 3
     simp only [List.getElem?_cons_zero, List.getElem?_cons_succ] at y1_0 y1_1 y1_2 y1_3
     clear hx
     have hx := (S10.out.box (.head _))
     have y2_0 := is_cell hx 0
     have y2_1 := is_cell hx 1
     have y2_2 := is_cell hx 2
     have y2_3 := is_cell hx 3
     simp only [List.getElem?_cons_zero, List.getElem?_cons_succ] at y2_0 y2_1 y2_2 y2_3
     clear hx
     go_wp2_with fail
     refine (alike_v (alike_one x) HXO.out.1 HXO.out.1).mono ?_
     rintro e w11 ⟨rfl, hb⟩
     have S11 := Lib.hid (S10.out.step hb)
     clear y1_0 y1_1 y1_2 y1_3 y2_0 y2_1 y2_2 y2_3
     clear hb
     go_wp2_with fail
     refine (drop_v HD.out rfl hl5 HCAP.out (S11.out.rows (.tail _ (.tail _ (.tail _ (.head _)))))).mono ?_
     rintro e w12 ⟨AD, cD, rfl, hat, hcap, hb⟩
     have S12 := Lib.hid ((S11.out.step hb).addR (A := AD) (l := d) hat)
     have CPAD := Lib.hid hcap
     clear hb hat hcap
     go_wp2_with fail
     refine (rdrop_v HD.out rfl hl5 HCAP.out (S12.out.rows (.tail _ (.tail _ (.tail _ (.tail _ (.head _))))))).mono ?_
     rintro e w13 ⟨AE, cE, rfl, hat, hcap, hb⟩
     have S13 := Lib.hid ((S12.out.step hb).addR (A := AE) (l := d) hat)
     have CPAE := Lib.hid hcap
     clear hb hat hcap
     go_wp2_with fail
     refine (rsame_v (same_one d) hdm hdm HDR.out HDR.out (S13.out.rows (.tail _ (.head _))) (S13.out.rows (.head _))).mono ?_
     rintro e w14 ⟨rfl, hb⟩
     have S14 := Lib.hid (S13.out.step hb)
     clear hb
     go_wp2_with fail
     refine (live12_c _).mono ?_
     rintro e w15 ⟨rfl, hb⟩
     have S15 := Lib.hid (S14.out.step hb)
     clear hb
     go_wp2_with fail
     go_ret
     exact ⟨rfl, S15.out.bel⟩
end treeTells
end Go.Proofs.YtkobmnbjeppnaaaGreat
