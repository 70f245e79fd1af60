/-
 A node of a tree that is hung elsewhere: a walk.
-/
import Derived.Test.YtkobmnbjeppnaaaGreatYf
import Derived.Test.YtkobmnbjeppnaaaGreatXf
import Derived.Test.YtkobmnbjeppnaaaGreatXl
import Derived.Deep.DeepCutAuto
namespace Go.Proofs.YtkobmnbjeppnaaaGreat
open Go.RowKit Go.IntWalk
open Fl Gr
set_option maxRecDepth 100000
attribute [local go_sem] Oper.semAt_some
namespace treeHangs
set_option maxHeartbeats 16000000 in
theorem walk (A : Option Addr) (cap : Nat) (l : List Rw) (hA : A = none → cap = 0) (hcap : l.length ≤ cap) (hmx : l.length ≤ maxLen) (hrw : Rows_ l) (r : Rw) (hr1 : rk r < 18446744073709551616) (hr2 : (nm r).length ≤ maxLen) (c : Int) (w : World) (hc : At w w.heap.size A (tvs l)) :
  Calls Tryz.prog 8 #[.slice A l.length cap, .agg #[.int .i64 (ch r), .int .i64 (pa r), .string (ba (nm r)), .float .f64 (rk r)], .int .i64 c] w fun e w' => e = .returned (.bool true) ∧ Below w.heap.size w w' := by
 have S0 := Lib.hid ((Bed.start w).addR (A := A) (l := l) hc)
 have HRW := Lib.hid hrw
 have HCAP := Lib.hid (show Cap A l.length cap from ⟨hA, hcap⟩)
 clear hc hrw hA hcap
 have hsz := ba_size (nm r)
 go_enter Tryz.func8, Tryz.ntmps8
 obtain ⟨w1, hw⟩ : ∃ w1, w1 = w.alloc (.cells #[.int .i64 (ch r), .int .i64 (pa r), .string (ba (nm r)), .float .f64 (rk r)] 28) := ⟨_, rfl⟩
 have hb : Below w.heap.size w w1 := by rw [hw]; exact (Below.refl _ _).alloc (Nat.le_refl _) _
 have S1 := Lib.hid ((S0.out.step hb).addB (g := w.heap.size) (t := 28) (vs := [.int .i64 (ch r), .int .i64 (pa r), .string (ba (nm r)), .float .f64 (rk r)]) (by rw [hw]; exact is_new w 28 _))
 have HW1 := Lib.hid hw
 clear hw hb
 cases hfew : few l with
 | false =>
  go_wp2_with fail
  rw [← HW1.out]
  refine (few_v hfew hmx (S1.out.rows (.tail _ (.head _)))).mono ?_
  rintro e w2 ⟨rfl, hb⟩
  have S2 := Lib.hid (S1.out.step hb)
  clear hb
  go_wp2_with fail
  refine (live12_c _).mono ?_
  rintro e w3 ⟨rfl, hb⟩
  have S3 := Lib.hid (S2.out.step hb)
  clear hb
  go_wp2_with fail
  go_ret
  exact ⟨rfl, S3.out.bel⟩
 | true =>
  go_wp2_with fail
  rw [← HW1.out]
  refine (few_v hfew hmx (S1.out.rows (.tail _ (.head _)))).mono ?_
  rintro e w2 ⟨rfl, hb⟩
  have S2 := Lib.hid (S1.out.step hb)
  clear hb
  have hl60 := (few_in hfew).1
  have hl5 : l.length ≤ 100000 := by omega
  clear hfew
  have hx := (S2.out.box (.head _))
  have y1_0 := is_cell hx 0
  have y1_1 := is_cell hx 1
  have y1_2 := is_cell hx 2
  have y1_3 := is_cell hx 3
  simp only [List.getElem?_cons_zero, List.getElem?_cons_succ] at y1_0 y1_1 y1_2 y1_3
  clear hx
  by_cases h100 : 100 < (nm r).length
  ·have h100i : (100 : Int) < ((nm r).length : Int) := by omega
   go_wp2_with fail
   refine (live12_c _).mono ?_
   rintro e w3 ⟨rfl, hb⟩
   have S3 := Lib.hid (S2.out.step hb)
   clear y1_0 y1_1 y1_2 y1_3
   clear hb
   go_wp2_with fail
   go_ret
   exact ⟨rfl, S3.out.bel⟩
  ·have h100i : ¬ (100 : Int) < ((nm r).length : Int) := by omega
   cases hmay : mayB l with
   | false =>
    go_wp2_with fail
    refine (rmay_v hmay hmx HRW.out (S2.out.rows (.tail _ (.head _)))).mono ?_
    rintro e w3 ⟨rfl, hb⟩
    have S3 := Lib.hid (S2.out.step hb)
    clear y1_0 y1_1 y1_2 y1_3
    clear hb
    go_wp2_with fail
    refine (live12_c _).mono ?_
    rintro e w4 ⟨rfl, hb⟩
    have S4 := Lib.hid (S3.out.step hb)
    clear hb
    go_wp2_with fail
    go_ret
    exact ⟨rfl, S4.out.bel⟩
   | true =>
    go_wp2_with fail
    refine (rmay_v hmay hmx HRW.out (S2.out.rows (.tail _ (.head _)))).mono ?_
    rintro e w3 ⟨rfl, hb⟩
    have S3 := Lib.hid (S2.out.step hb)
    clear y1_0 y1_1 y1_2 y1_3
    clear hb
    have HT := Lib.hid (show Tree l from (mayB_tree l).1 hmay)
    clear hmay
    have hx := (S3.out.box (.head _))
    have y2_0 := is_cell hx 0
    have y2_1 := is_cell hx 1
    have y2_2 := is_cell hx 2
    have y2_3 := is_cell hx 3
    simp only [List.getElem?_cons_zero, List.getElem?_cons_succ] at y2_0 y2_1 y2_2 y2_3
    clear hx
    cases hone : oneP r with
    | false =>
     go_wp2_with fail
     refine (rone_v hone hr2).mono ?_
     rintro e w4 ⟨rfl, hb⟩
     have S4 := Lib.hid (S3.out.step hb)
     clear y2_0 y2_1 y2_2 y2_3
     clear hb
     go_wp2_with fail
     refine (live12_c _).mono ?_
     rintro e w5 ⟨rfl, hb⟩
     have S5 := Lib.hid (S4.out.step hb)
     clear hb
     go_wp2_with fail
     go_ret
     exact ⟨rfl, S5.out.bel⟩
    | true =>
     go_wp2_with fail
     refine (rone_v hone hr2).mono ?_
     rintro e w4 ⟨rfl, hb⟩
     have S4 := Lib.hid (S3.out.step hb)
     clear y2_0 y2_1 y2_2 y2_3
     clear hb
     have hht := hang_tree HT.out hone (show l.length < 2000 by omega)
     obtain ⟨m, hm⟩ : ∃ m, setP l r = m := ⟨_, rfl⟩
     have hml : m.length ≤ l.length + 1 := by rw [← hm]; exact setP_le l r
     have hmr : Rows_ m := by rw [← hm]; exact setP_rows HRW.out ⟨hr1, hr2⟩
     rw [hm] at hht
     have HHT := Lib.hid hht
     have HMR := Lib.hid hmr
     have hm5 : m.length ≤ 100000 := by omega
     have hm1 : m.length ≤ 1000 := by omega
     clear hone hht hmr
     have hx := (S4.out.box (.head _))
     have y3_0 := is_cell hx 0
     have y3_1 := is_cell hx 1
     have y3_2 := is_cell hx 2
     have y3_3 := is_cell hx 3
     simp only [List.getElem?_cons_zero, List.getElem?_cons_succ] at y3_0 y3_1 y3_2 y3_3
     clear hx
     go_wp2_with fail
     refine (set_v (r := r) hm rfl hl5 HCAP.out (S4.out.rows (.tail _ (.head _)))).mono ?_
     rintro e w5 ⟨AS, cS, rfl, hat, hcap, hb⟩
     have S5 := Lib.hid ((S4.out.step hb).addR (A := AS) (l := m) hat)
     have CPAS := Lib.hid hcap
     clear y3_0 y3_1 y3_2 y3_3
     clear hb hat hcap
     have hx := (S5.out.box (.tail _ (.head _)))
     have y4_0 := is_cell hx 0
     have y4_1 := is_cell hx 1
     have y4_2 := is_cell hx 2
     have y4_3 := is_cell hx 3
     simp only [List.getElem?_cons_zero, List.getElem?_cons_succ] at y4_0 y4_1 y4_2 y4_3
     clear hx
     by_cases hpc : pa r = ch r
     ·skip
      have hq1 : (pa r == ch r) = true := by simpa using hpc
      have hq2 : (pa r != ch r) = false := by simpa using hpc
      have hmf : mayB m = false := by rw [HHT.out]; simp [hpc]
      clear hpc
      go_wp2_with fail
      refine (may_v hmf hm1 HMR.out (S5.out.rows (.head _))).mono ?_
      rintro e w6 ⟨rfl, hb⟩
      have S6 := Lib.hid (S5.out.step hb)
      clear y4_0 y4_1 y4_2 y4_3
      clear hb
      go_wp2_with fail
      refine (live12_c _).mono ?_
      rintro e w7 ⟨rfl, hb⟩
      have S7 := Lib.hid (S6.out.step hb)
      clear hb
      go_wp2_with fail
      go_ret
      exact ⟨rfl, S7.out.bel⟩
     ·skip
      have hq1 : (pa r == ch r) = false := by simpa using hpc
      have hq2 : (pa r != ch r) = true := by simpa using hpc
      have HPC := Lib.hid hpc
      clear hpc
      cases habv : abv l (ch r) l.length (pa r) with
      | true =>
       go_wp2_with fail
       refine (above_v habv hl5 (S5.out.rows (.tail _ (.tail _ (.head _))))).mono ?_
       rintro e w6 ⟨rfl, hb⟩
       have S6 := Lib.hid (S5.out.step hb)
       clear y4_0 y4_1 y4_2 y4_3
       clear hb
       have hmf : mayB m = false := by rw [HHT.out, abvB_eq, habv]; simp
       clear habv
       go_wp2_with fail
       refine (may_v hmf hm1 HMR.out (S6.out.rows (.head _))).mono ?_
       rintro e w7 ⟨rfl, hb⟩
       have S7 := Lib.hid (S6.out.step hb)
       clear hb
       go_wp2_with fail
       refine (live12_c _).mono ?_
       rintro e w8 ⟨rfl, hb⟩
       have S8 := Lib.hid (S7.out.step hb)
       clear hb
       go_wp2_with fail
       go_ret
       exact ⟨rfl, S8.out.bel⟩
      | false =>
       go_wp2_with fail
       refine (above_v habv hl5 (S5.out.rows (.tail _ (.tail _ (.head _))))).mono ?_
       rintro e w6 ⟨rfl, hb⟩
       have S6 := Lib.hid (S5.out.step hb)
       clear y4_0 y4_1 y4_2 y4_3
       clear hb
       have hmt : mayB m = true := by rw [HHT.out, abvB_eq, habv]; simp [HPC.out]
       have hb1 := hang_below HT.out HPC.out (by rw [abvB_eq]; exact habv) c
       have hb2 := hang_under l r
       rw [hm, abvB_eq, abvB_eq] at hb1
       rw [hm, abvB_eq] at hb2
       obtain ⟨x, hx1⟩ : ∃ x, abv l (ch r) l.length c = x := ⟨_, rfl⟩
       rw [hx1] at hb1
       clear habv
       go_wp2_with fail
       refine (may_v hmt hm1 HMR.out (S6.out.rows (.head _))).mono ?_
       rintro e w7 ⟨rfl, hb⟩
       have S7 := Lib.hid (S6.out.step hb)
       clear hb
       cases x with
       | false =>
        go_wp2_with fail
        have HB1 := Lib.hid hb1
        have HB2 := Lib.hid hb2
        have HX1 := Lib.hid hx1
        clear hb1 hb2 hx1
        have HX := Lib.hid (S7.out.box (.tail _ (.head _)))
        have HL := Lib.hid (S7.out.rows (.tail _ (.tail _ (.head _))))
        have HM := Lib.hid (S7.out.rows (.head _))
        refine quiet_held (fun w' => Below w7.heap.size w7 w') (by kernel_rfl) (by kernel_rfl) (Below.refl _ _).drew ?_
        repeat (first
         | go_big_quiet_skip
         | (go_big_quiet_want; go_big_quiet_op; go_big_quiet_on)
         | (go_big_quiet_want; apply Exists.intro; refine ⟨fun wq hq => ?_, ?_⟩; (focus (have hx := is_below HX.out hq (is_lt HX.out); have z0 := is_cell hx 0; have z1 := is_cell hx 1; have z2 := is_cell hx 2; have z3 := is_cell hx 3; simp only [List.getElem?_cons_zero, List.getElem?_cons_succ] at z0 z1 z2 z3; unfold Oper.quietAt; go_simp; all_goals (first | rfl | exact ⟨rfl, rfl⟩ | (with_reducible refine (above_v HX1.out hl5 (HL.out.keep hq)).mono ?_; rintro e w9 ⟨rfl, hbn⟩; exact ⟨rfl, hq.trans (hbn.mono hq.size)⟩) | (with_reducible refine (above_v HB1.out hm5 (HM.out.keep hq)).mono ?_; rintro e w9 ⟨rfl, hbn⟩; exact ⟨rfl, hq.trans (hbn.mono hq.size)⟩) | (with_reducible refine (above_v HB2.out hm5 (HM.out.keep hq)).mono ?_; rintro e w9 ⟨rfl, hbn⟩; exact ⟨rfl, hq.trans (hbn.mono hq.size)⟩) | (with_reducible refine (live12_c _).mono ?_; rintro e w9 ⟨rfl, hbn⟩; exact ⟨rfl, hq.trans (hbn.mono hq.size)⟩)))); simp only [Act.put, List.setIfInBounds_toArray, List.set_cons_zero, List.set_cons_succ]; go_big_quiet_on))
        refine wpQuiet_nil ?_
        intro w8 hb
        have S8 := Lib.hid (S7.out.step hb)
        clear hb
        go_wp2_with fail
        go_ret
        exact ⟨rfl, S8.out.bel⟩
       | true =>
        go_wp2_with fail
        have HB1 := Lib.hid hb1
        have HB2 := Lib.hid hb2
        have HX1 := Lib.hid hx1
        clear hb1 hb2 hx1
        have HX := Lib.hid (S7.out.box (.tail _ (.head _)))
        have HL := Lib.hid (S7.out.rows (.tail _ (.tail _ (.head _))))
        have HM := Lib.hid (S7.out.rows (.head _))
        refine quiet_held (fun w' => Below w7.heap.size w7 w') (by kernel_rfl) (by kernel_rfl) (Below.refl _ _).drew ?_
        repeat (first
         | go_big_quiet_skip
         | (go_big_quiet_want; go_big_quiet_op; go_big_quiet_on)
         | (go_big_quiet_want; apply Exists.intro; refine ⟨fun wq hq => ?_, ?_⟩; (focus (have hx := is_below HX.out hq (is_lt HX.out); have z0 := is_cell hx 0; have z1 := is_cell hx 1; have z2 := is_cell hx 2; have z3 := is_cell hx 3; simp only [List.getElem?_cons_zero, List.getElem?_cons_succ] at z0 z1 z2 z3; unfold Oper.quietAt; go_simp; all_goals (first | rfl | exact ⟨rfl, rfl⟩ | (with_reducible refine (above_v HX1.out hl5 (HL.out.keep hq)).mono ?_; rintro e w9 ⟨rfl, hbn⟩; exact ⟨rfl, hq.trans (hbn.mono hq.size)⟩) | (with_reducible refine (above_v HB1.out hm5 (HM.out.keep hq)).mono ?_; rintro e w9 ⟨rfl, hbn⟩; exact ⟨rfl, hq.trans (hbn.mono hq.size)⟩) | (with_reducible refine (above_v HB2.out hm5 (HM.out.keep hq)).mono ?_; rintro e w9 ⟨rfl, hbn⟩; exact ⟨rfl, hq.trans (hbn.mono hq.size)⟩) | (with_reducible refine (live12_c _).mono ?_; rintro e w9 ⟨rfl, hbn⟩; exact ⟨rfl, hq.trans (hbn.mono hq.size)⟩)))); simp only [Act.put, List.setIfInBounds_toArray, List.set_cons_zero, List.set_cons_succ]; go_big_quiet_on))
        refine wpQuiet_nil ?_
        intro w8 hb
        have S8 := Lib.hid (S7.out.step hb)
        clear hb
        go_wp2_with fail
        go_ret
        exact ⟨rfl, S8.out.bel⟩
end treeHangs
end Go.Proofs.YtkobmnbjeppnaaaGreat
