/-
 Who is above whom in a tree: a walk.
-/
import Derived.Test.YtkobmnbjeppnaaaGreatYf
import Derived.Test.YtkobmnbjeppnaaaGreatXf
import Derived.Deep.DeepCutAuto
namespace Go.Proofs.YtkobmnbjeppnaaaGreat
open Go.RowKit Go.IntWalk
open Fl Gr
set_option maxRecDepth 100000
attribute [local go_sem] Oper.semAt_some
namespace treeOrder
set_option maxHeartbeats 16000000 in
theorem walk (A : Option Addr) (cap : Nat) (l : List Rw) (hmx : l.length ≤ maxLen) (hrw : Rows_ l) (a b c : Int) (w : World) (hc : At w w.heap.size A (tvs l)) :
  Calls Tryz.prog 5 #[.slice A l.length cap, .agg #[.int .i64 a, .int .i64 b, .int .i64 c]] w fun e w' => e = .returned (.bool true) ∧ Below w.heap.size w w' := by
 have S0 := Lib.hid ((Bed.start w).addR (A := A) (l := l) hc)
 have HRW := Lib.hid hrw
 clear hc hrw
 go_enter Tryz.func5, Tryz.ntmps5
 obtain ⟨w1, hw⟩ : ∃ w1, w1 = w.alloc (.cells #[.int .i64 a, .int .i64 b, .int .i64 c] 44) := ⟨_, rfl⟩
 have hb : Below w.heap.size w w1 := by rw [hw]; exact (Below.refl _ _).alloc (Nat.le_refl _) _
 have S1 := Lib.hid ((S0.out.step hb).addB (g := w.heap.size) (t := 44) (vs := [.int .i64 a, .int .i64 b, .int .i64 c]) (by rw [hw]; exact is_new w 44 _))
 have HW1 := Lib.hid hw
 clear hw hb
 cases hfew : few l with
 | false =>
  go_wp2_with fail
  rw [← HW1.out]
  refine (few_v hfew hmx (S1.out.rows (.tail _ (.head _)))).mono ?_
  rintro e w2 ⟨rfl, hb⟩
  have S2 := Lib.hid (S1.out.step hb)
  clear hb
  go_wp2_with fail
  refine (live12_c _).mono ?_
  rintro e w3 ⟨rfl, hb⟩
  have S3 := Lib.hid (S2.out.step hb)
  clear hb
  go_wp2_with fail
  go_ret
  exact ⟨rfl, S3.out.bel⟩
 | true =>
  go_wp2_with fail
  rw [← HW1.out]
  refine (few_v hfew hmx (S1.out.rows (.tail _ (.head _)))).mono ?_
  rintro e w2 ⟨rfl, hb⟩
  have S2 := Lib.hid (S1.out.step hb)
  clear hb
  have hl60 := (few_in hfew).1
  have hl5 : l.length ≤ 100000 := by omega
  clear hfew
  cases hmay : mayB l with
  | false =>
   go_wp2_with fail
   refine (rmay_v hmay hmx HRW.out (S2.out.rows (.tail _ (.head _)))).mono ?_
   rintro e w3 ⟨rfl, hb⟩
   have S3 := Lib.hid (S2.out.step hb)
   clear hb
   go_wp2_with fail
   refine (live12_c _).mono ?_
   rintro e w4 ⟨rfl, hb⟩
   have S4 := Lib.hid (S3.out.step hb)
   clear hb
   go_wp2_with fail
   go_ret
   exact ⟨rfl, S4.out.bel⟩
  | true =>
   go_wp2_with fail
   refine (rmay_v hmay hmx HRW.out (S2.out.rows (.tail _ (.head _)))).mono ?_
   rintro e w3 ⟨rfl, hb⟩
   have S3 := Lib.hid (S2.out.step hb)
   clear hb
   have HT := Lib.hid (show Tree l from (mayB_tree l).1 hmay)
   clear hmay
   go_wp2_with fail
   have HX := Lib.hid (S3.out.box (.head _))
   refine quiet_held (fun w' => Below w3.heap.size w3 w') (by kernel_rfl) (by kernel_rfl) (Below.refl _ _).drew ?_
   repeat (first
    | go_big_quiet_skip
    | (go_big_quiet_want; go_big_quiet_op; go_big_quiet_on)
    | (go_big_quiet_want; apply Exists.intro; refine ⟨fun wq hq => ?_, ?_⟩; (focus (have hx := is_below HX.out hq (is_lt HX.out); have z0 := is_cell hx 0; have z1 := is_cell hx 1; have z2 := is_cell hx 2; simp only [List.getElem?_cons_zero, List.getElem?_cons_succ] at z0 z1 z2; unfold Oper.quietAt; go_simp; all_goals (first | rfl | exact ⟨rfl, rfl⟩ | skip))); simp only [Act.put, List.setIfInBounds_toArray, List.set_cons_zero, List.set_cons_succ]; go_big_quiet_on))
   refine wpQuiet_nil ?_
   intro w4 hb
   have S4 := Lib.hid (S3.out.step hb)
   clear hb
   have h_aa : abv l a l.length a = false := by rw [← abvB_eq]; exact abvB_self HT.out a
   go_wp2_with fail
   refine (above_v h_aa hl5 (S4.out.rows (.tail _ (.head _)))).mono ?_
   rintro e w5 ⟨rfl, hb⟩
   have S5 := Lib.hid (S4.out.step hb)
   clear hb
   cases h_ab : abv l a l.length b with
   | false =>
    go_wp2_with fail
    refine (above_v h_ab hl5 (S5.out.rows (.tail _ (.head _)))).mono ?_
    rintro e w6 ⟨rfl, hb⟩
    have S6 := Lib.hid (S5.out.step hb)
    clear hb
    go_wp2_with fail
    refine (above_v h_ab hl5 (S6.out.rows (.tail _ (.head _)))).mono ?_
    rintro e w7 ⟨rfl, hb⟩
    have S7 := Lib.hid (S6.out.step hb)
    clear hb
    cases h_ac : abv l a l.length c with
    | false =>
     go_wp2_with fail
     refine (above_v h_ac hl5 (S7.out.rows (.tail _ (.head _)))).mono ?_
     rintro e w8 ⟨rfl, hb⟩
     have S8 := Lib.hid (S7.out.step hb)
     clear hb
     go_wp2_with fail
     refine (live12_c _).mono ?_
     rintro e w9 ⟨rfl, hb⟩
     have S9 := Lib.hid (S8.out.step hb)
     clear hb
     go_wp2_with fail
     go_ret
     exact ⟨rfl, S9.out.bel⟩
    | true =>
     go_wp2_with fail
     refine (above_v h_ac hl5 (S7.out.rows (.tail _ (.head _)))).mono ?_
     rintro e w8 ⟨rfl, hb⟩
     have S8 := Lib.hid (S7.out.step hb)
     clear hb
     cases h_bc : abv l b l.length c with
     | false =>
      go_wp2_with fail
      refine (above_v h_bc hl5 (S8.out.rows (.tail _ (.head _)))).mono ?_
      rintro e w9 ⟨rfl, hb⟩
      have S9 := Lib.hid (S8.out.step hb)
      clear hb
      go_wp2_with fail
      refine (live12_c _).mono ?_
      rintro e w10 ⟨rfl, hb⟩
      have S10 := Lib.hid (S9.out.step hb)
      clear hb
      go_wp2_with fail
      go_ret
      exact ⟨rfl, S10.out.bel⟩
     | true =>
      go_wp2_with fail
      refine (above_v h_bc hl5 (S8.out.rows (.tail _ (.head _)))).mono ?_
      rintro e w9 ⟨rfl, hb⟩
      have S9 := Lib.hid (S8.out.step hb)
      clear hb
      by_cases hab : a = b
      ·skip
       have hq1 : (a == b) = true := by simpa using hab
       have hq2 : (a != b) = false := by simpa using hab
       clear hab
       go_wp2_with fail
       refine (live12_c _).mono ?_
       rintro e w10 ⟨rfl, hb⟩
       have S10 := Lib.hid (S9.out.step hb)
       clear hb
       go_wp2_with fail
       go_ret
       exact ⟨rfl, S10.out.bel⟩
      ·skip
       have hq1 : (a == b) = false := by simpa using hab
       have hq2 : (a != b) = true := by simpa using hab
       go_wp2_with fail
       refine (above_v h_ab hl5 (S9.out.rows (.tail _ (.head _)))).mono ?_
       rintro e w10 ⟨rfl, hb⟩
       have S10 := Lib.hid (S9.out.step hb)
       clear hb
       cases h_ba : abv l b l.length a with
       | false =>
        exact absurd ((abvB_two (show abvB l a c = _ from (abvB_eq l a c).trans h_ac) (show abvB l b c = _ from (abvB_eq l b c).trans h_bc) hab (show abvB l a b = _ from (abvB_eq l a b).trans h_ab)).symm.trans (show abvB l b a = _ from (abvB_eq l b a).trans h_ba)) (by decide)
       | true =>
        go_wp2_with fail
        refine (above_v h_ba hl5 (S10.out.rows (.tail _ (.head _)))).mono ?_
        rintro e w11 ⟨rfl, hb⟩
        have S11 := Lib.hid (S10.out.step hb)
        clear hb
        go_wp2_with fail
        refine (live12_c _).mono ?_
        rintro e w12 ⟨rfl, hb⟩
        have S12 := Lib.hid (S11.out.step hb)
        clear hb
        go_wp2_with fail
        go_ret
        exact ⟨rfl, S12.out.bel⟩
   | true =>
    go_wp2_with fail
    refine (above_v h_ab hl5 (S5.out.rows (.tail _ (.head _)))).mono ?_
    rintro e w6 ⟨rfl, hb⟩
    have S6 := Lib.hid (S5.out.step hb)
    clear hb
    cases h_bc : abv l b l.length c with
    | false =>
     go_wp2_with fail
     refine (above_v h_bc hl5 (S6.out.rows (.tail _ (.head _)))).mono ?_
     rintro e w7 ⟨rfl, hb⟩
     have S7 := Lib.hid (S6.out.step hb)
     clear hb
     go_wp2_with fail
     refine (above_v h_ab hl5 (S7.out.rows (.tail _ (.head _)))).mono ?_
     rintro e w8 ⟨rfl, hb⟩
     have S8 := Lib.hid (S7.out.step hb)
     clear hb
     cases h_ba : abv l b l.length a with
     | false =>
      go_wp2_with fail
      refine (above_v h_ba hl5 (S8.out.rows (.tail _ (.head _)))).mono ?_
      rintro e w9 ⟨rfl, hb⟩
      have S9 := Lib.hid (S8.out.step hb)
      clear hb
      cases h_ac : abv l a l.length c with
      | false =>
       go_wp2_with fail
       refine (above_v h_ac hl5 (S9.out.rows (.tail _ (.head _)))).mono ?_
       rintro e w10 ⟨rfl, hb⟩
       have S10 := Lib.hid (S9.out.step hb)
       clear hb
       go_wp2_with fail
       refine (live12_c _).mono ?_
       rintro e w11 ⟨rfl, hb⟩
       have S11 := Lib.hid (S10.out.step hb)
       clear hb
       go_wp2_with fail
       go_ret
       exact ⟨rfl, S11.out.bel⟩
      | true =>
       go_wp2_with fail
       refine (above_v h_ac hl5 (S9.out.rows (.tail _ (.head _)))).mono ?_
       rintro e w10 ⟨rfl, hb⟩
       have S10 := Lib.hid (S9.out.step hb)
       clear hb
       go_wp2_with fail
       refine (above_v h_bc hl5 (S10.out.rows (.tail _ (.head _)))).mono ?_
       rintro e w11 ⟨rfl, hb⟩
       have S11 := Lib.hid (S10.out.step hb)
       clear hb
       go_wp2_with fail
       refine (live12_c _).mono ?_
       rintro e w12 ⟨rfl, hb⟩
       have S12 := Lib.hid (S11.out.step hb)
       clear hb
       go_wp2_with fail
       go_ret
       exact ⟨rfl, S12.out.bel⟩
     | true =>
      exact absurd ((abvB_back HT.out (show abvB l a b = _ from (abvB_eq l a b).trans h_ab)).symm.trans (show abvB l b a = _ from (abvB_eq l b a).trans h_ba)) (by decide)
    | true =>
     go_wp2_with fail
     refine (above_v h_bc hl5 (S6.out.rows (.tail _ (.head _)))).mono ?_
     rintro e w7 ⟨rfl, hb⟩
     have S7 := Lib.hid (S6.out.step hb)
     clear hb
     cases h_ac : abv l a l.length c with
     | false =>
      exact absurd ((abvB_trans (show abvB l a b = _ from (abvB_eq l a b).trans h_ab) (show abvB l b c = _ from (abvB_eq l b c).trans h_bc)).symm.trans (show abvB l a c = _ from (abvB_eq l a c).trans h_ac)) (by decide)
     | true =>
      go_wp2_with fail
      refine (above_v h_ac hl5 (S7.out.rows (.tail _ (.head _)))).mono ?_
      rintro e w8 ⟨rfl, hb⟩
      have S8 := Lib.hid (S7.out.step hb)
      clear hb
      go_wp2_with fail
      refine (above_v h_ab hl5 (S8.out.rows (.tail _ (.head _)))).mono ?_
      rintro e w9 ⟨rfl, hb⟩
      have S9 := Lib.hid (S8.out.step hb)
      clear hb
      cases h_ba : abv l b l.length a with
      | false =>
       go_wp2_with fail
       refine (above_v h_ba hl5 (S9.out.rows (.tail _ (.head _)))).mono ?_
       rintro e w10 ⟨rfl, hb⟩
       have S10 := Lib.hid (S9.out.step hb)
       clear hb
       go_wp2_with fail
       refine (above_v h_ac hl5 (S10.out.rows (.tail _ (.head _)))).mono ?_
       rintro e w11 ⟨rfl, hb⟩
       have S11 := Lib.hid (S10.out.step hb)
       clear hb
       go_wp2_with fail
       refine (above_v h_bc hl5 (S11.out.rows (.tail _ (.head _)))).mono ?_
       rintro e w12 ⟨rfl, hb⟩
       have S12 := Lib.hid (S11.out.step hb)
       clear hb
       by_cases hab : a = b
       ·skip
        have hq1 : (a == b) = true := by simpa using hab
        have hq2 : (a != b) = false := by simpa using hab
        clear hab
        go_wp2_with fail
        refine (live12_c _).mono ?_
        rintro e w13 ⟨rfl, hb⟩
        have S13 := Lib.hid (S12.out.step hb)
        clear hb
        go_wp2_with fail
        go_ret
        exact ⟨rfl, S13.out.bel⟩
       ·skip
        have hq1 : (a == b) = false := by simpa using hab
        have hq2 : (a != b) = true := by simpa using hab
        go_wp2_with fail
        refine (above_v h_ab hl5 (S12.out.rows (.tail _ (.head _)))).mono ?_
        rintro e w13 ⟨rfl, hb⟩
        have S13 := Lib.hid (S12.out.step hb)
        clear hb
        go_wp2_with fail
        refine (live12_c _).mono ?_
        rintro e w14 ⟨rfl, hb⟩
        have S14 := Lib.hid (S13.out.step hb)
        clear hb
        go_wp2_with fail
        go_ret
        exact ⟨rfl, S14.out.bel⟩
      | true =>
       exact absurd ((abvB_back HT.out (show abvB l a b = _ from (abvB_eq l a b).trans h_ab)).symm.trans (show abvB l b a = _ from (abvB_eq l b a).trans h_ba)) (by decide)
end treeOrder
end Go.Proofs.YtkobmnbjeppnaaaGreat
