/-
  The walk of MarksOrder.
-/
import Derived.Test.YtbhejaokkkggjaaXs
namespace Go.Proofs.Ytbhejaokkkggjaa
open Go.RowKit Go.IntWalk
set_option maxRecDepth 100000
attribute [local go_sem] Oper.semAt_some

namespace marksOrder
set_option maxHeartbeats 16000000 in
theorem walk (A1 A2 : Option Addr) (c1 c2 : Nat) (a b : List Mk) (c r : Int) (n2 : A2 = none → c2 = 0) (w : World) (h1 : At w w.heap.size A1 (kvs a)) (h2 : At w w.heap.size A2 (kvs b)) :
    Calls Try.prog 12 #[.slice A1 a.length c1, .slice A2 b.length c2, .agg #[.int .i64 c, .int .i64 r]] w fun e w' => e = .returned (.bool true) ∧ Below w.heap.size w w' := by
  obtain ⟨w0, hw0⟩ : ∃ w0, w0 = w.alloc (.cells #[.int .i64 c, .int .i64 r] 35) := ⟨_, rfl⟩
  have hb0 : Below w.heap.size w w0 := by rw [hw0]; exact (Below.refl _ _).alloc (Nat.le_refl _) _
  have hI0 : Is w0 w.heap.size 35 [.int .i64 c, .int .i64 r] := by rw [hw0]; exact is_new w 35 _
  obtain ⟨T, hT⟩ : ∃ T, T = w.heap.size := ⟨_, rfl⟩
  rw [← hT] at hI0
  have HT := Lib.hid hT
  have HW := Lib.hid hw0
  have S0 := Lib.hid ((((Marks0 w).add h2).add h1).step hb0)
  have I0 := Lib.hid hI0
  have N2 := Lib.hid n2
  clear h1 h2 n2 hw0 hb0 hI0 hT
  by_cases la : 60 < a.length
  · have za : (60 : Int) < (a.length : Int) := by omega
    have da : decide (60 < a.length) = true := decide_eq_true la
    go_enter Try.func12, Try.ntmps12
    go_wp2_with fail
    rw [← HW.out]
    refine (live17_c _).mono ?_
    rintro e wz ⟨rfl, hbz⟩
    go_wp2_with fail
    go_ret
    exact ⟨rfl, S0.out.2.trans (hbz.mono S0.out.2.size)⟩
  have za : ¬ (60 : Int) < (a.length : Int) := by omega
  have da : decide (60 < a.length) = false := decide_eq_false la
  by_cases lb : 60 < b.length
  · have zb : (60 : Int) < (b.length : Int) := by omega
    have db : decide (60 < b.length) = true := decide_eq_true lb
    go_enter Try.func12, Try.ntmps12
    go_wp2_with fail
    rw [← HW.out]
    refine (live17_c _).mono ?_
    rintro e wz ⟨rfl, hbz⟩
    go_wp2_with fail
    go_ret
    exact ⟨rfl, S0.out.2.trans (hbz.mono S0.out.2.size)⟩
  have zb : ¬ (60 : Int) < (b.length : Int) := by omega
  have db : decide (60 < b.length) = false := decide_eq_false lb
  go_enter Try.func12, Try.ntmps12
  go_wp2_with fail
  rw [← HW.out, ← HT.out]
  refine (rkmay_k (q := mayK a) rfl (by omega) (S0.out.1.at (A := A1) (l := a) (by simp))).mono ?_
  rintro e w1 ⟨rfl, hb1⟩
  have S1 := Lib.hid (S0.out.step hb1)
  have I1 := Lib.hid (is_below I0.out hb1 (is_lt I0.out))
  clear hb1
  cases hma : mayK a with
  | false =>
    clear hma
    go_wp2_with fail
    refine (live17_c _).mono ?_
    rintro e wz ⟨rfl, hbz⟩
    go_wp2_with fail
    go_ret
    exact ⟨rfl, S1.out.2.trans (hbz.mono S1.out.2.size)⟩
  | true =>
    have Ma := Lib.hid (mayK_iff.1 hma)
    clear hma
    go_wp2_with fail
    refine (rkmay_k (q := mayK b) rfl (by omega) (S1.out.1.at (A := A2) (l := b) (by simp))).mono ?_
    rintro e w2 ⟨rfl, hb2⟩
    have S2 := Lib.hid (S1.out.step hb2)
    have I2 := Lib.hid (is_below I1.out hb2 (is_lt I1.out))
    clear hb2
    cases hmb : mayK b with
    | false =>
      clear hmb
      go_wp2_with fail
      refine (live17_c _).mono ?_
      rintro e wz ⟨rfl, hbz⟩
      go_wp2_with fail
      go_ret
      exact ⟨rfl, S2.out.2.trans (hbz.mono S2.out.2.size)⟩
    | true =>
      have Mb := Lib.hid (mayK_iff.1 hmb)
      clear hmb
      obtain ⟨t0, t1⟩ := box2K I2.out
      go_wp2_with fail
      refine (rtime_k rfl _).mono ?_
      rintro e w3 ⟨rfl, hb3⟩
      have S3 := Lib.hid (S2.out.step hb3)
      have I3 := Lib.hid (is_below I2.out hb3 (is_lt I2.out))
      clear hb3
      clear t0 t1
      cases ht : (decide (1 ≤ c) && (decide (c ≤ 4611686018427387903) && (decide (1 ≤ r) && decide (r ≤ 255)))) with
      | false =>
        clear ht
        go_wp2_with fail
        refine (live17_c _).mono ?_
        rintro e wz ⟨rfl, hbz⟩
        go_wp2_with fail
        go_ret
        exact ⟨rfl, S3.out.2.trans (hbz.mono S3.out.2.size)⟩
      | true =>
        simp only [Bool.and_eq_true, decide_eq_true_eq] at ht
        obtain ⟨C, hC⟩ : ∃ C, raiseK b c r = C := ⟨_, rfl⟩
        have hcl := raiseK_len b c r
        rw [hC] at hcl
        have HC := Lib.hid hC
        have HF := Lib.hid (order_facts Ma.out Mb.out ht hC)
        have HCL := Lib.hid (show C.length ≤ 61 by omega)
        clear ht hC hcl
        obtain ⟨t0, t1⟩ := box2K I3.out
        go_wp2_with fail
        refine (kRaise_k HC.out (by omega) N2.out (S3.out.1.at (A := A2) (l := b) (by simp))).mono ?_
        rintro e w4 ⟨Aj, cAj, rfl, ho4, hb4⟩
        have S4 := Lib.hid ((S3.out.step hb4).add (own_atK ho4))
        have NAj := Lib.hid (own_noneK ho4)
        have I4 := Lib.hid (is_below I3.out hb4 (is_lt I3.out))
        clear ho4 hb4
        clear t0 t1
        go_wp2_with fail
        refine (kbelow_k (q := belowK a b) rfl (by omega) (by omega) (S4.out.1.at (A := A1) (l := a) (by simp)) (S4.out.1.at (A := A2) (l := b) (by simp))).mono ?_
        rintro e w5 ⟨rfl, hb5⟩
        have S5 := Lib.hid (S4.out.step hb5)
        have I5 := Lib.hid (is_below I4.out hb5 (is_lt I4.out))
        clear hb5
        cases p : belowK a b with
        | false =>
          have HP := Lib.hid p
          clear p
          go_wp2_with fail
          refine (kbelow_k HP.out (by omega) (by omega) (S5.out.1.at (A := A1) (l := a) (by simp)) (S5.out.1.at (A := A2) (l := b) (by simp))).mono ?_
          rintro e w6 ⟨rfl, hb6⟩
          have S6 := Lib.hid (S5.out.step hb6)
          have I6 := Lib.hid (is_below I5.out hb6 (is_lt I5.out))
          clear hb6
          obtain ⟨k0, hk0⟩ : ∃ k0, getK b r = k0 := ⟨_, rfl⟩
          have HK0 := Lib.hid hk0
          have hk2 := HF.out.2.2.2.2
          have hk3 := HF.out.2.2.1
          rw [hk0] at hk2 hk3
          clear hk0
          have HLB := Lib.hid (show b.length ≤ maxLen by unfold maxLen; omega)
          have HLC := Lib.hid (show C.length ≤ maxLen by have := HCL.out; unfold maxLen; omega)
          have HLB2 := Lib.hid (show b.length ≤ 100000 by omega)
          have HLC2 := Lib.hid (show C.length ≤ 100000 by have := HCL.out; omega)
          by_cases hkk : c ≤ k0
          · have HK1 := Lib.hid (show getK C r = k0 by rw [hk2]; omega)
            have HK3 := Lib.hid (show belowK C b = true by rw [hk3, decide_eq_true hkk])
            have hd : decide (c ≤ k0) = true := decide_eq_true hkk
            have hmx : (if c < k0 then k0 else c) = k0 := by split <;> omega
            clear hk2 hk3
            have QB := Lib.hid (S6.out.1.at (A := A2) (l := b) (by simp))
            obtain ⟨t0, t1⟩ := box2K I6.out
            go_wp2_with fail
            refine quiet_held (fun w' => Below w6.heap.size w6 w') (by kernel_rfl) (by kernel_rfl) (Below.refl _ _).drew ?_
            repeat (first
              | go_big_quiet_skip
              | (go_big_quiet_want; go_big_quiet_op; go_big_quiet_on)
              | (go_big_quiet_want; apply Exists.intro; refine ⟨fun wq hq => ?_, ?_⟩; (focus (have q0 := keep_cell hq t0; have q1 := keep_cell hq t1; unfold Oper.quietAt; go_simp; all_goals (first | rfl | exact ⟨rfl, rfl⟩ | (with_reducible refine (kget_k HK0.out HLB.out wq (QB.out.keep hq)).mono ?_; rintro e w5 ⟨rfl, hbn⟩; exact ⟨rfl, hq.trans (hbn.mono hq.size)⟩)))); simp only [Act.put, List.setIfInBounds_toArray, List.set_cons_zero, List.set_cons_succ]; go_big_quiet_on))
            refine wpQuiet_nil ?_
            intro wx hbx
            have Sx := Lib.hid (S6.out.step hbx)
            have Ix := Lib.hid (is_below I6.out hbx (is_lt I6.out))
            clear t0 t1 hbx
            obtain ⟨t0, t1⟩ := box2K Ix.out
            have QB2 := Lib.hid (Sx.out.1.at (A := A2) (l := b) (by simp))
            have QC2 := Lib.hid (Sx.out.1.at (A := Aj) (l := C) (by simp))
            rename World => wy
            go_wp2_with fail
            refine quiet_held (fun w' => Below wy.heap.size wy w') (by kernel_rfl) (by kernel_rfl) (Below.refl _ _).drew ?_
            repeat (first
              | go_big_quiet_skip
              | (go_big_quiet_want; go_big_quiet_op; go_big_quiet_on)
              | (go_big_quiet_want; apply Exists.intro; refine ⟨fun wq hq => ?_, ?_⟩; (focus (have q0 := keep_cell hq t0; have q1 := keep_cell hq t1; unfold Oper.quietAt; go_simp; all_goals (first | rfl | exact ⟨rfl, rfl⟩ | (with_reducible refine (kbelow_k HK3.out HLC2.out HLB2.out (QC2.out.keep hq) (QB2.out.keep hq)).mono ?_; rintro e w5 ⟨rfl, hbn⟩; exact ⟨rfl, hq.trans (hbn.mono hq.size)⟩) | (with_reducible refine (kbelow_k HF.out.2.2.2.1 HLB2.out HLC2.out (QB2.out.keep hq) (QC2.out.keep hq)).mono ?_; rintro e w5 ⟨rfl, hbn⟩; exact ⟨rfl, hq.trans (hbn.mono hq.size)⟩) | (with_reducible refine (kget_k HK1.out HLC.out wq (QC2.out.keep hq)).mono ?_; rintro e w5 ⟨rfl, hbn⟩; exact ⟨rfl, hq.trans (hbn.mono hq.size)⟩) | (with_reducible refine (kget_k HK0.out HLB.out wq (QB2.out.keep hq)).mono ?_; rintro e w5 ⟨rfl, hbn⟩; exact ⟨rfl, hq.trans (hbn.mono hq.size)⟩) | (with_reducible refine (live17_c wq).mono ?_; rintro e w5 ⟨rfl, hbn⟩; exact ⟨rfl, hq.trans (hbn.mono hq.size)⟩)))); simp only [Act.put, List.setIfInBounds_toArray, List.set_cons_zero, List.set_cons_succ]; go_big_quiet_on))
            refine wpQuiet_nil ?_
            intro wx hbx
            have Sz := Lib.hid (Sx.out.step hbx)
            clear t0 t1 hbx
            go_wp2_with fail
            go_ret
            exact ⟨rfl, Sz.out.2⟩
          · have HK1 := Lib.hid (show getK C r = c by rw [hk2]; omega)
            have HK3 := Lib.hid (show belowK C b = false by rw [hk3, decide_eq_false hkk])
            have hd : decide (c ≤ k0) = false := decide_eq_false hkk
            have hmx : (if c < k0 then k0 else c) = c := by split <;> omega
            clear hk2 hk3
            have QB := Lib.hid (S6.out.1.at (A := A2) (l := b) (by simp))
            obtain ⟨t0, t1⟩ := box2K I6.out
            go_wp2_with fail
            refine quiet_held (fun w' => Below w6.heap.size w6 w') (by kernel_rfl) (by kernel_rfl) (Below.refl _ _).drew ?_
            repeat (first
              | go_big_quiet_skip
              | (go_big_quiet_want; go_big_quiet_op; go_big_quiet_on)
              | (go_big_quiet_want; apply Exists.intro; refine ⟨fun wq hq => ?_, ?_⟩; (focus (have q0 := keep_cell hq t0; have q1 := keep_cell hq t1; unfold Oper.quietAt; go_simp; all_goals (first | rfl | exact ⟨rfl, rfl⟩ | (with_reducible refine (kget_k HK0.out HLB.out wq (QB.out.keep hq)).mono ?_; rintro e w5 ⟨rfl, hbn⟩; exact ⟨rfl, hq.trans (hbn.mono hq.size)⟩)))); simp only [Act.put, List.setIfInBounds_toArray, List.set_cons_zero, List.set_cons_succ]; go_big_quiet_on))
            refine wpQuiet_nil ?_
            intro wx hbx
            have Sx := Lib.hid (S6.out.step hbx)
            have Ix := Lib.hid (is_below I6.out hbx (is_lt I6.out))
            clear t0 t1 hbx
            obtain ⟨t0, t1⟩ := box2K Ix.out
            have QB2 := Lib.hid (Sx.out.1.at (A := A2) (l := b) (by simp))
            have QC2 := Lib.hid (Sx.out.1.at (A := Aj) (l := C) (by simp))
            rename World => wy
            go_wp2_with fail
            refine quiet_held (fun w' => Below wy.heap.size wy w') (by kernel_rfl) (by kernel_rfl) (Below.refl _ _).drew ?_
            repeat (first
              | go_big_quiet_skip
              | (go_big_quiet_want; go_big_quiet_op; go_big_quiet_on)
              | (go_big_quiet_want; apply Exists.intro; refine ⟨fun wq hq => ?_, ?_⟩; (focus (have q0 := keep_cell hq t0; have q1 := keep_cell hq t1; unfold Oper.quietAt; go_simp; all_goals (first | rfl | exact ⟨rfl, rfl⟩ | (with_reducible refine (kbelow_k HK3.out HLC2.out HLB2.out (QC2.out.keep hq) (QB2.out.keep hq)).mono ?_; rintro e w5 ⟨rfl, hbn⟩; exact ⟨rfl, hq.trans (hbn.mono hq.size)⟩) | (with_reducible refine (kbelow_k HF.out.2.2.2.1 HLB2.out HLC2.out (QB2.out.keep hq) (QC2.out.keep hq)).mono ?_; rintro e w5 ⟨rfl, hbn⟩; exact ⟨rfl, hq.trans (hbn.mono hq.size)⟩) | (with_reducible refine (kget_k HK1.out HLC.out wq (QC2.out.keep hq)).mono ?_; rintro e w5 ⟨rfl, hbn⟩; exact ⟨rfl, hq.trans (hbn.mono hq.size)⟩) | (with_reducible refine (kget_k HK0.out HLB.out wq (QB2.out.keep hq)).mono ?_; rintro e w5 ⟨rfl, hbn⟩; exact ⟨rfl, hq.trans (hbn.mono hq.size)⟩) | (with_reducible refine (live17_c wq).mono ?_; rintro e w5 ⟨rfl, hbn⟩; exact ⟨rfl, hq.trans (hbn.mono hq.size)⟩)))); simp only [Act.put, List.setIfInBounds_toArray, List.set_cons_zero, List.set_cons_succ]; go_big_quiet_on))
            refine wpQuiet_nil ?_
            intro wx hbx
            have Sz := Lib.hid (Sx.out.step hbx)
            clear t0 t1 hbx
            go_wp2_with fail
            go_ret
            exact ⟨rfl, Sz.out.2⟩
        | true =>
          have HP := Lib.hid p
          clear p
          go_wp2_with fail
          refine (kbelow_k (HF.out.1 HP.out) (by omega) (by have := HCL.out; omega) (S5.out.1.at (A := A1) (l := a) (by simp)) (S5.out.1.at (A := Aj) (l := C) (by simp))).mono ?_
          rintro e w6 ⟨rfl, hb6⟩
          have S6 := Lib.hid (S5.out.step hb6)
          have I6 := Lib.hid (is_below I5.out hb6 (is_lt I5.out))
          clear hb6
          go_wp2_with fail
          refine (kbelow_k HP.out (by omega) (by omega) (S6.out.1.at (A := A1) (l := a) (by simp)) (S6.out.1.at (A := A2) (l := b) (by simp))).mono ?_
          rintro e w7 ⟨rfl, hb7⟩
          have S7 := Lib.hid (S6.out.step hb7)
          have I7 := Lib.hid (is_below I6.out hb7 (is_lt I6.out))
          clear hb7
          go_wp2_with fail
          refine (kbelow_k (q := belowK b a) rfl (by omega) (by omega) (S7.out.1.at (A := A2) (l := b) (by simp)) (S7.out.1.at (A := A1) (l := a) (by simp))).mono ?_
          rintro e w8 ⟨rfl, hb8⟩
          have S8 := Lib.hid (S7.out.step hb8)
          have I8 := Lib.hid (is_below I7.out hb8 (is_lt I7.out))
          clear hb8
          cases p2 : belowK b a with
          | false =>
            clear p2
            obtain ⟨k0, hk0⟩ : ∃ k0, getK b r = k0 := ⟨_, rfl⟩
            have HK0 := Lib.hid hk0
            have hk2 := HF.out.2.2.2.2
            have hk3 := HF.out.2.2.1
            rw [hk0] at hk2 hk3
            clear hk0
            have HLB := Lib.hid (show b.length ≤ maxLen by unfold maxLen; omega)
            have HLC := Lib.hid (show C.length ≤ maxLen by have := HCL.out; unfold maxLen; omega)
            have HLB2 := Lib.hid (show b.length ≤ 100000 by omega)
            have HLC2 := Lib.hid (show C.length ≤ 100000 by have := HCL.out; omega)
            by_cases hkk : c ≤ k0
            · have HK1 := Lib.hid (show getK C r = k0 by rw [hk2]; omega)
              have HK3 := Lib.hid (show belowK C b = true by rw [hk3, decide_eq_true hkk])
              have hd : decide (c ≤ k0) = true := decide_eq_true hkk
              have hmx : (if c < k0 then k0 else c) = k0 := by split <;> omega
              clear hk2 hk3
              have QB := Lib.hid (S8.out.1.at (A := A2) (l := b) (by simp))
              obtain ⟨t0, t1⟩ := box2K I8.out
              go_wp2_with fail
              refine quiet_held (fun w' => Below w8.heap.size w8 w') (by kernel_rfl) (by kernel_rfl) (Below.refl _ _).drew ?_
              repeat (first
                | go_big_quiet_skip
                | (go_big_quiet_want; go_big_quiet_op; go_big_quiet_on)
                | (go_big_quiet_want; apply Exists.intro; refine ⟨fun wq hq => ?_, ?_⟩; (focus (have q0 := keep_cell hq t0; have q1 := keep_cell hq t1; unfold Oper.quietAt; go_simp; all_goals (first | rfl | exact ⟨rfl, rfl⟩ | (with_reducible refine (kget_k HK0.out HLB.out wq (QB.out.keep hq)).mono ?_; rintro e w5 ⟨rfl, hbn⟩; exact ⟨rfl, hq.trans (hbn.mono hq.size)⟩)))); simp only [Act.put, List.setIfInBounds_toArray, List.set_cons_zero, List.set_cons_succ]; go_big_quiet_on))
              refine wpQuiet_nil ?_
              intro wx hbx
              have Sx := Lib.hid (S8.out.step hbx)
              have Ix := Lib.hid (is_below I8.out hbx (is_lt I8.out))
              clear t0 t1 hbx
              obtain ⟨t0, t1⟩ := box2K Ix.out
              have QB2 := Lib.hid (Sx.out.1.at (A := A2) (l := b) (by simp))
              have QC2 := Lib.hid (Sx.out.1.at (A := Aj) (l := C) (by simp))
              rename World => wy
              go_wp2_with fail
              refine quiet_held (fun w' => Below wy.heap.size wy w') (by kernel_rfl) (by kernel_rfl) (Below.refl _ _).drew ?_
              repeat (first
                | go_big_quiet_skip
                | (go_big_quiet_want; go_big_quiet_op; go_big_quiet_on)
                | (go_big_quiet_want; apply Exists.intro; refine ⟨fun wq hq => ?_, ?_⟩; (focus (have q0 := keep_cell hq t0; have q1 := keep_cell hq t1; unfold Oper.quietAt; go_simp; all_goals (first | rfl | exact ⟨rfl, rfl⟩ | (with_reducible refine (kbelow_k HK3.out HLC2.out HLB2.out (QC2.out.keep hq) (QB2.out.keep hq)).mono ?_; rintro e w5 ⟨rfl, hbn⟩; exact ⟨rfl, hq.trans (hbn.mono hq.size)⟩) | (with_reducible refine (kbelow_k HF.out.2.2.2.1 HLB2.out HLC2.out (QB2.out.keep hq) (QC2.out.keep hq)).mono ?_; rintro e w5 ⟨rfl, hbn⟩; exact ⟨rfl, hq.trans (hbn.mono hq.size)⟩) | (with_reducible refine (kget_k HK1.out HLC.out wq (QC2.out.keep hq)).mono ?_; rintro e w5 ⟨rfl, hbn⟩; exact ⟨rfl, hq.trans (hbn.mono hq.size)⟩) | (with_reducible refine (kget_k HK0.out HLB.out wq (QB2.out.keep hq)).mono ?_; rintro e w5 ⟨rfl, hbn⟩; exact ⟨rfl, hq.trans (hbn.mono hq.size)⟩) | (with_reducible refine (live17_c wq).mono ?_; rintro e w5 ⟨rfl, hbn⟩; exact ⟨rfl, hq.trans (hbn.mono hq.size)⟩)))); simp only [Act.put, List.setIfInBounds_toArray, List.set_cons_zero, List.set_cons_succ]; go_big_quiet_on))
              refine wpQuiet_nil ?_
              intro wx hbx
              have Sz := Lib.hid (Sx.out.step hbx)
              clear t0 t1 hbx
              go_wp2_with fail
              go_ret
              exact ⟨rfl, Sz.out.2⟩
            · have HK1 := Lib.hid (show getK C r = c by rw [hk2]; omega)
              have HK3 := Lib.hid (show belowK C b = false by rw [hk3, decide_eq_false hkk])
              have hd : decide (c ≤ k0) = false := decide_eq_false hkk
              have hmx : (if c < k0 then k0 else c) = c := by split <;> omega
              clear hk2 hk3
              have QB := Lib.hid (S8.out.1.at (A := A2) (l := b) (by simp))
              obtain ⟨t0, t1⟩ := box2K I8.out
              go_wp2_with fail
              refine quiet_held (fun w' => Below w8.heap.size w8 w') (by kernel_rfl) (by kernel_rfl) (Below.refl _ _).drew ?_
              repeat (first
                | go_big_quiet_skip
                | (go_big_quiet_want; go_big_quiet_op; go_big_quiet_on)
                | (go_big_quiet_want; apply Exists.intro; refine ⟨fun wq hq => ?_, ?_⟩; (focus (have q0 := keep_cell hq t0; have q1 := keep_cell hq t1; unfold Oper.quietAt; go_simp; all_goals (first | rfl | exact ⟨rfl, rfl⟩ | (with_reducible refine (kget_k HK0.out HLB.out wq (QB.out.keep hq)).mono ?_; rintro e w5 ⟨rfl, hbn⟩; exact ⟨rfl, hq.trans (hbn.mono hq.size)⟩)))); simp only [Act.put, List.setIfInBounds_toArray, List.set_cons_zero, List.set_cons_succ]; go_big_quiet_on))
              refine wpQuiet_nil ?_
              intro wx hbx
              have Sx := Lib.hid (S8.out.step hbx)
              have Ix := Lib.hid (is_below I8.out hbx (is_lt I8.out))
              clear t0 t1 hbx
              obtain ⟨t0, t1⟩ := box2K Ix.out
              have QB2 := Lib.hid (Sx.out.1.at (A := A2) (l := b) (by simp))
              have QC2 := Lib.hid (Sx.out.1.at (A := Aj) (l := C) (by simp))
              rename World => wy
              go_wp2_with fail
              refine quiet_held (fun w' => Below wy.heap.size wy w') (by kernel_rfl) (by kernel_rfl) (Below.refl _ _).drew ?_
              repeat (first
                | go_big_quiet_skip
                | (go_big_quiet_want; go_big_quiet_op; go_big_quiet_on)
                | (go_big_quiet_want; apply Exists.intro; refine ⟨fun wq hq => ?_, ?_⟩; (focus (have q0 := keep_cell hq t0; have q1 := keep_cell hq t1; unfold Oper.quietAt; go_simp; all_goals (first | rfl | exact ⟨rfl, rfl⟩ | (with_reducible refine (kbelow_k HK3.out HLC2.out HLB2.out (QC2.out.keep hq) (QB2.out.keep hq)).mono ?_; rintro e w5 ⟨rfl, hbn⟩; exact ⟨rfl, hq.trans (hbn.mono hq.size)⟩) | (with_reducible refine (kbelow_k HF.out.2.2.2.1 HLB2.out HLC2.out (QB2.out.keep hq) (QC2.out.keep hq)).mono ?_; rintro e w5 ⟨rfl, hbn⟩; exact ⟨rfl, hq.trans (hbn.mono hq.size)⟩) | (with_reducible refine (kget_k HK1.out HLC.out wq (QC2.out.keep hq)).mono ?_; rintro e w5 ⟨rfl, hbn⟩; exact ⟨rfl, hq.trans (hbn.mono hq.size)⟩) | (with_reducible refine (kget_k HK0.out HLB.out wq (QB2.out.keep hq)).mono ?_; rintro e w5 ⟨rfl, hbn⟩; exact ⟨rfl, hq.trans (hbn.mono hq.size)⟩) | (with_reducible refine (live17_c wq).mono ?_; rintro e w5 ⟨rfl, hbn⟩; exact ⟨rfl, hq.trans (hbn.mono hq.size)⟩)))); simp only [Act.put, List.setIfInBounds_toArray, List.set_cons_zero, List.set_cons_succ]; go_big_quiet_on))
              refine wpQuiet_nil ?_
              intro wx hbx
              have Sz := Lib.hid (Sx.out.step hbx)
              clear t0 t1 hbx
              go_wp2_with fail
              go_ret
              exact ⟨rfl, Sz.out.2⟩
          | true =>
            have HE := Lib.hid (HF.out.2.1 HP.out p2)
            clear p2
            go_wp2_with fail
            refine (same17_k (q := true) (decide_eq_true HE.out) (by omega) (by omega) (S8.out.1.at (A := A1) (l := a) (by simp)) (S8.out.1.at (A := A2) (l := b) (by simp))).mono ?_
            rintro e w9 ⟨rfl, hb9⟩
            have S9 := Lib.hid (S8.out.step hb9)
            have I9 := Lib.hid (is_below I8.out hb9 (is_lt I8.out))
            clear hb9
            obtain ⟨k0, hk0⟩ : ∃ k0, getK b r = k0 := ⟨_, rfl⟩
            have HK0 := Lib.hid hk0
            have hk2 := HF.out.2.2.2.2
            have hk3 := HF.out.2.2.1
            rw [hk0] at hk2 hk3
            clear hk0
            have HLB := Lib.hid (show b.length ≤ maxLen by unfold maxLen; omega)
            have HLC := Lib.hid (show C.length ≤ maxLen by have := HCL.out; unfold maxLen; omega)
            have HLB2 := Lib.hid (show b.length ≤ 100000 by omega)
            have HLC2 := Lib.hid (show C.length ≤ 100000 by have := HCL.out; omega)
            by_cases hkk : c ≤ k0
            · have HK1 := Lib.hid (show getK C r = k0 by rw [hk2]; omega)
              have HK3 := Lib.hid (show belowK C b = true by rw [hk3, decide_eq_true hkk])
              have hd : decide (c ≤ k0) = true := decide_eq_true hkk
              have hmx : (if c < k0 then k0 else c) = k0 := by split <;> omega
              clear hk2 hk3
              have QB := Lib.hid (S9.out.1.at (A := A2) (l := b) (by simp))
              obtain ⟨t0, t1⟩ := box2K I9.out
              go_wp2_with fail
              refine quiet_held (fun w' => Below w9.heap.size w9 w') (by kernel_rfl) (by kernel_rfl) (Below.refl _ _).drew ?_
              repeat (first
                | go_big_quiet_skip
                | (go_big_quiet_want; go_big_quiet_op; go_big_quiet_on)
                | (go_big_quiet_want; apply Exists.intro; refine ⟨fun wq hq => ?_, ?_⟩; (focus (have q0 := keep_cell hq t0; have q1 := keep_cell hq t1; unfold Oper.quietAt; go_simp; all_goals (first | rfl | exact ⟨rfl, rfl⟩ | (with_reducible refine (kget_k HK0.out HLB.out wq (QB.out.keep hq)).mono ?_; rintro e w5 ⟨rfl, hbn⟩; exact ⟨rfl, hq.trans (hbn.mono hq.size)⟩)))); simp only [Act.put, List.setIfInBounds_toArray, List.set_cons_zero, List.set_cons_succ]; go_big_quiet_on))
              refine wpQuiet_nil ?_
              intro wx hbx
              have Sx := Lib.hid (S9.out.step hbx)
              have Ix := Lib.hid (is_below I9.out hbx (is_lt I9.out))
              clear t0 t1 hbx
              obtain ⟨t0, t1⟩ := box2K Ix.out
              have QB2 := Lib.hid (Sx.out.1.at (A := A2) (l := b) (by simp))
              have QC2 := Lib.hid (Sx.out.1.at (A := Aj) (l := C) (by simp))
              rename World => wy
              go_wp2_with fail
              refine quiet_held (fun w' => Below wy.heap.size wy w') (by kernel_rfl) (by kernel_rfl) (Below.refl _ _).drew ?_
              repeat (first
                | go_big_quiet_skip
                | (go_big_quiet_want; go_big_quiet_op; go_big_quiet_on)
                | (go_big_quiet_want; apply Exists.intro; refine ⟨fun wq hq => ?_, ?_⟩; (focus (have q0 := keep_cell hq t0; have q1 := keep_cell hq t1; unfold Oper.quietAt; go_simp; all_goals (first | rfl | exact ⟨rfl, rfl⟩ | (with_reducible refine (kbelow_k HK3.out HLC2.out HLB2.out (QC2.out.keep hq) (QB2.out.keep hq)).mono ?_; rintro e w5 ⟨rfl, hbn⟩; exact ⟨rfl, hq.trans (hbn.mono hq.size)⟩) | (with_reducible refine (kbelow_k HF.out.2.2.2.1 HLB2.out HLC2.out (QB2.out.keep hq) (QC2.out.keep hq)).mono ?_; rintro e w5 ⟨rfl, hbn⟩; exact ⟨rfl, hq.trans (hbn.mono hq.size)⟩) | (with_reducible refine (kget_k HK1.out HLC.out wq (QC2.out.keep hq)).mono ?_; rintro e w5 ⟨rfl, hbn⟩; exact ⟨rfl, hq.trans (hbn.mono hq.size)⟩) | (with_reducible refine (kget_k HK0.out HLB.out wq (QB2.out.keep hq)).mono ?_; rintro e w5 ⟨rfl, hbn⟩; exact ⟨rfl, hq.trans (hbn.mono hq.size)⟩) | (with_reducible refine (live17_c wq).mono ?_; rintro e w5 ⟨rfl, hbn⟩; exact ⟨rfl, hq.trans (hbn.mono hq.size)⟩)))); simp only [Act.put, List.setIfInBounds_toArray, List.set_cons_zero, List.set_cons_succ]; go_big_quiet_on))
              refine wpQuiet_nil ?_
              intro wx hbx
              have Sz := Lib.hid (Sx.out.step hbx)
              clear t0 t1 hbx
              go_wp2_with fail
              go_ret
              exact ⟨rfl, Sz.out.2⟩
            · have HK1 := Lib.hid (show getK C r = c by rw [hk2]; omega)
              have HK3 := Lib.hid (show belowK C b = false by rw [hk3, decide_eq_false hkk])
              have hd : decide (c ≤ k0) = false := decide_eq_false hkk
              have hmx : (if c < k0 then k0 else c) = c := by split <;> omega
              clear hk2 hk3
              have QB := Lib.hid (S9.out.1.at (A := A2) (l := b) (by simp))
              obtain ⟨t0, t1⟩ := box2K I9.out
              go_wp2_with fail
              refine quiet_held (fun w' => Below w9.heap.size w9 w') (by kernel_rfl) (by kernel_rfl) (Below.refl _ _).drew ?_
              repeat (first
                | go_big_quiet_skip
                | (go_big_quiet_want; go_big_quiet_op; go_big_quiet_on)
                | (go_big_quiet_want; apply Exists.intro; refine ⟨fun wq hq => ?_, ?_⟩; (focus (have q0 := keep_cell hq t0; have q1 := keep_cell hq t1; unfold Oper.quietAt; go_simp; all_goals (first | rfl | exact ⟨rfl, rfl⟩ | (with_reducible refine (kget_k HK0.out HLB.out wq (QB.out.keep hq)).mono ?_; rintro e w5 ⟨rfl, hbn⟩; exact ⟨rfl, hq.trans (hbn.mono hq.size)⟩)))); simp only [Act.put, List.setIfInBounds_toArray, List.set_cons_zero, List.set_cons_succ]; go_big_quiet_on))
              refine wpQuiet_nil ?_
              intro wx hbx
              have Sx := Lib.hid (S9.out.step hbx)
              have Ix := Lib.hid (is_below I9.out hbx (is_lt I9.out))
              clear t0 t1 hbx
              obtain ⟨t0, t1⟩ := box2K Ix.out
              have QB2 := Lib.hid (Sx.out.1.at (A := A2) (l := b) (by simp))
              have QC2 := Lib.hid (Sx.out.1.at (A := Aj) (l := C) (by simp))
              rename World => wy
              go_wp2_with fail
              refine quiet_held (fun w' => Below wy.heap.size wy w') (by kernel_rfl) (by kernel_rfl) (Below.refl _ _).drew ?_
              repeat (first
                | go_big_quiet_skip
                | (go_big_quiet_want; go_big_quiet_op; go_big_quiet_on)
                | (go_big_quiet_want; apply Exists.intro; refine ⟨fun wq hq => ?_, ?_⟩; (focus (have q0 := keep_cell hq t0; have q1 := keep_cell hq t1; unfold Oper.quietAt; go_simp; all_goals (first | rfl | exact ⟨rfl, rfl⟩ | (with_reducible refine (kbelow_k HK3.out HLC2.out HLB2.out (QC2.out.keep hq) (QB2.out.keep hq)).mono ?_; rintro e w5 ⟨rfl, hbn⟩; exact ⟨rfl, hq.trans (hbn.mono hq.size)⟩) | (with_reducible refine (kbelow_k HF.out.2.2.2.1 HLB2.out HLC2.out (QB2.out.keep hq) (QC2.out.keep hq)).mono ?_; rintro e w5 ⟨rfl, hbn⟩; exact ⟨rfl, hq.trans (hbn.mono hq.size)⟩) | (with_reducible refine (kget_k HK1.out HLC.out wq (QC2.out.keep hq)).mono ?_; rintro e w5 ⟨rfl, hbn⟩; exact ⟨rfl, hq.trans (hbn.mono hq.size)⟩) | (with_reducible refine (kget_k HK0.out HLB.out wq (QB2.out.keep hq)).mono ?_; rintro e w5 ⟨rfl, hbn⟩; exact ⟨rfl, hq.trans (hbn.mono hq.size)⟩) | (with_reducible refine (live17_c wq).mono ?_; rintro e w5 ⟨rfl, hbn⟩; exact ⟨rfl, hq.trans (hbn.mono hq.size)⟩)))); simp only [Act.put, List.setIfInBounds_toArray, List.set_cons_zero, List.set_cons_succ]; go_big_quiet_on))
              refine wpQuiet_nil ?_
              intro wx hbx
              have Sz := Lib.hid (Sx.out.step hbx)
              clear t0 t1 hbx
              go_wp2_with fail
              go_ret
              exact ⟨rfl, Sz.out.2⟩
end marksOrder
end Go.Proofs.Ytbhejaokkkggjaa
