/-
 The way up of a node of a tree: a walk.
-/
import Derived.Test.YtkobmnbjeppnaaaGreatYf
import Derived.Test.YtkobmnbjeppnaaaGreatXl
import Derived.Deep.DeepCutAuto
namespace Go.Proofs.YtkobmnbjeppnaaaGreat
open Go.RowKit Go.IntWalk
open Fl Gr
set_option maxRecDepth 100000
attribute [local go_sem] Oper.semAt_some
theorem path_zero {l : List Rw} {n : Nat} {c : Int} {q : List Int} (h : pathC l n c = some q) : q[0]? = some c := by
 obtain ⟨t, e⟩ := pathC_head h; rw [e]; rfl
theorem way_tree {l : List Rw} (h : Tree l) (c : Int) : (wayR l c).isSome = (decide (c = 0) || abvB l 0 c) := by rw [wayR_path]; exact tree_path h c
/-- who is reached is who has a way, if there is a row *-/
theorem among_is {l : List Rw} (h : Tree l) (c : Int) : decide (c ∈ reachR l) = ((wayR l c).isSome && ((fnd l c).isSome || decide (c = 0))) := by
 rw [Bool.eq_iff_iff, Bool.and_eq_true, Bool.or_eq_true, decide_eq_true_eq, decide_eq_true_eq, reachR_mem, way_end, decide_eq_true_eq]
 constructor
 ·rintro (rfl | ⟨h1, h2⟩)
  ·exact ⟨(tree_end h 0).2 ⟨0, rfl⟩, .inr rfl⟩
  ·exact ⟨h2, .inl h1⟩
 ·rintro ⟨h1, h2 | h2⟩
  ·exact .inr ⟨h2, h1⟩
  ·exact .inl h2
theorem mem_take_step {q : List Int} {k : Nat} {x c : Int} (h : q[k]? = some x) : decide (c ∈ q.take (k + 1)) = (decide (c ∈ q.take k) || (x == c)) := by
 rw [Bool.eq_iff_iff]
 simp only [decide_eq_true_eq, Bool.or_eq_true, beq_iff_eq, List.take_add_one, h, Option.toList_some, List.mem_append, List.mem_singleton]
 exact ⟨fun h => h.imp id Eq.symm, fun h => h.imp id Eq.symm⟩
theorem mem_kids_step {q : List Rw} {k : Nat} {x : Rw} {c : Int} (h : q[k]? = some x) : decide (c ∈ (q.take (k + 1)).map ch) = (decide (c ∈ (q.take k).map ch) || (ch x == c)) := by
 rw [Bool.eq_iff_iff]
 simp only [decide_eq_true_eq, Bool.or_eq_true, beq_iff_eq, List.take_add_one, h, Option.toList_some, List.map_append, List.map_cons, List.map_nil, List.mem_append, List.mem_singleton]
 exact ⟨fun h => h.imp id Eq.symm, fun h => h.imp id Eq.symm⟩
namespace treePaths
set_option maxHeartbeats 16000000 in
theorem walk (A : Option Addr) (cap : Nat) (l : List Rw) (hmx : l.length ≤ maxLen) (hrw : Rows_ l) (h6 : ∀ r ∈ l, In64 (ch r) ∧ In64 (pa r)) (c : Int) (w : World) (hc : At w w.heap.size A (tvs l)) :
  Calls Tryz.prog 6 #[.slice A l.length cap, .int .i64 c] w fun e w' => e = .returned (.bool true) ∧ Below w.heap.size w w' := by
 have S0 := Lib.hid ((Bed.start w).addR (A := A) (l := l) hc)
 have HRW := Lib.hid hrw
 have H6 := Lib.hid h6
 clear hc hrw h6
 go_enter Tryz.func6, Tryz.ntmps6
 cases hfew : few l with
 | false =>
  go_wp2_with fail
  refine (few_v hfew hmx (S0.out.rows (.head _))).mono ?_
  rintro e w1 ⟨rfl, hb⟩
  have S1 := Lib.hid (S0.out.step hb)
  clear hb
  go_wp2_with fail
  refine (live12_c _).mono ?_
  rintro e w2 ⟨rfl, hb⟩
  have S2 := Lib.hid (S1.out.step hb)
  clear hb
  go_wp2_with fail
  go_ret
  exact ⟨rfl, S2.out.bel⟩
 | true =>
  go_wp2_with fail
  refine (few_v hfew hmx (S0.out.rows (.head _))).mono ?_
  rintro e w1 ⟨rfl, hb⟩
  have S1 := Lib.hid (S0.out.step hb)
  clear hb
  have hl60 := (few_in hfew).1
  have hl5 : l.length ≤ 100000 := by omega
  clear hfew
  cases hmay : mayB l with
  | false =>
   go_wp2_with fail
   refine (rmay_v hmay hmx HRW.out (S1.out.rows (.head _))).mono ?_
   rintro e w2 ⟨rfl, hb⟩
   have S2 := Lib.hid (S1.out.step hb)
   clear hb
   go_wp2_with fail
   refine (live12_c _).mono ?_
   rintro e w3 ⟨rfl, hb⟩
   have S3 := Lib.hid (S2.out.step hb)
   clear hb
   go_wp2_with fail
   go_ret
   exact ⟨rfl, S3.out.bel⟩
  | true =>
   go_wp2_with fail
   refine (rmay_v hmay hmx HRW.out (S1.out.rows (.head _))).mono ?_
   rintro e w2 ⟨rfl, hb⟩
   have S2 := Lib.hid (S1.out.step hb)
   clear hb
   have HT := Lib.hid ((mayB_tree l).1 hmay)
   clear hmay
   obtain ⟨q, hq⟩ : ∃ q, (wayR l c).getD [] = q := ⟨_, rfl⟩
   have hql : q.length ≤ l.length + 1 := by rw [← hq]; exact wayR_le l c
   obtain ⟨z, hz⟩ : ∃ z, reachR l = z := ⟨_, rfl⟩
   have hzl : z.length ≤ l.length + 1 := by rw [← hz]; exact reachR_le l
   have HQ := Lib.hid hq
   have HZ := Lib.hid hz
   have HS6 := Lib.hid (show Kk.S64 l from fun x hx => ⟨by have := (H6.out x hx).1; unfold In64 at this; omega, (HRW.out x hx).1⟩)
   have hway := (way_tree HT.out c).symm
   rw [abvB_eq] at hway
   have HWAY := Lib.hid hway
   clear hway
   have hzs : z.Pairwise (· < ·) := by rw [← hz]; exact reachR_asc l
   have HZS := Lib.hid hzs
   have ham : decide (c ∈ z) = ((wayR l c).isSome && ((fnd l c).isSome || decide (c = 0))) := by rw [← hz]; exact among_is HT.out c
   have HAM := Lib.hid ham
   clear hq hz hzs ham
   obtain ⟨x, hx⟩ : ∃ x, (fnd l c).getD zr = x := ⟨_, rfl⟩
   have HX := Lib.hid hx
   clear hx
   cases hy : (wayR l c).isSome with
   | false =>
    rw [hy] at HWAY HAM
    have hq0 : q = [] := by rw [← HQ.out]; cases hw : wayR l c with
     | none => rfl
     | some q => rw [hw] at hy; cases hy
    subst hq0
    clear hql
    go_wp2_with fail
    refine (path_v (q := []) HQ.out hy rfl hl5 (S2.out.rows (.head _))).mono ?_
    rintro e w3 ⟨AP, cP, rfl, hat, hcap, hb⟩
    have S3 := Lib.hid ((S2.out.step hb).addI (A := AP) (l := []) hat)
    have CPAP := Lib.hid hcap
    clear hb hat hcap
    clear hy
    by_cases hc0 : c = 0
    ·have hq1 : (c == 0) = true := by simpa using hc0
     have h := HWAY.out
     rw [decide_eq_true hc0] at h
     cases h
    ·have hq1 : (c == 0) = false := by simpa using hc0
     have hd1 : decide (c = 0) = false := by simpa using hc0
     rw [hd1] at HWAY HAM
     have HC0 := Lib.hid hc0
     clear hc0 hd1
     rw [Bool.false_or] at HWAY
     go_wp2_with fail
     refine (above_v HWAY.out hl5 (S3.out.rows (.tail _ (.head _)))).mono ?_
     rintro e w4 ⟨rfl, hb⟩
     have S4 := Lib.hid (S3.out.step hb)
     clear hb
     go_wp2_with fail
     refine (reached_v HZ.out rfl (by omega) H6.out (S4.out.rows (.tail _ (.head _)))).mono ?_
     rintro e w5 ⟨AR, cR, rfl, hat, hcap, hb⟩
     have S5 := Lib.hid ((S4.out.step hb).addI (A := AR) (l := z) hat)
     have CPAR := Lib.hid hcap
     clear hb hat hcap
     go_wp2_with fail
     go_loopw [7, 9] (fun v i wr => ∃ k : Nat, i = .int .i64 (k : Int) ∧ v = .bool (decide (c ∈ z.take k)) ∧ k ≤ z.length ∧ Below w5.heap.size w5 wr) (fun _ i _ => z.length - (Go.RowKit.intOf i).toNat)
     case atStart => exact ⟨0, rfl, by simp, Nat.zero_le _, Below.refl _ _⟩
     case round =>
      obtain ⟨k, rfl, rfl, hk, hbw⟩ := hrel
      have SR := Lib.hid (S5.out.step hbw)
      have HBW := Lib.hid hbw
      clear hbw
      by_cases hlt : k < z.length
      ·obtain ⟨y, hyk⟩ := some_at hlt
       have hki : (0 : Int) ≤ (k : Int) := by omega
       have hkl : (k : Int) < (z.length : Int) := by omega
       obtain ⟨b0, o0, hAe, hb0, e0⟩ := (SR.out.ints (.head _)) k (.int .i64 y) (by unfold ivs; rw [List.getElem?_map, hyk]; rfl)
       subst hAe
       have hmt := mem_take_step (c := c) hyk
       have HMT := Lib.hid hmt
       clear hmt
       obtain ⟨v, hv⟩ : ∃ v, decide (c ∈ z.take k) = v := ⟨_, rfl⟩
       rw [hv] at HMT ⊢
       have HB0 := Lib.hid hb0
       have HE0 := Lib.hid e0
       clear hv
       obtain ⟨v2, hv2⟩ : ∃ v2, (v || (y == c)) = v2 := ⟨_, rfl⟩
       rw [hv2] at HMT
       by_cases hk0 : 0 < k
       ·have hk0i : (0 : Int) < (k : Int) := by omega
        obtain ⟨j, hj⟩ : ∃ j, k = j + 1 := ⟨k - 1, by omega⟩
        have hwj : IntKind.i64.wrap ((k : Int) - 1) = (j : Int) := by rw [show (k : Int) - 1 = (j : Int) by omega]; exact IntWalk.i64_in _ (by omega)
        obtain ⟨y1, hyj⟩ := some_at (show j < z.length by omega)
        obtain ⟨b1, o1, hAe1, hb1, e1⟩ := ((SR.out.ints (.head _))) j (.int .i64 y1) (by unfold ivs; rw [List.getElem?_map, hyj]; rfl)
        cases hAe1
        have hji : (0 : Int) ≤ (j : Int) := by omega
        have hjl : (j : Int) < (z.length : Int) := by omega
        have hyy : y1 < y := by
         obtain ⟨h1, h2⟩ := List.getElem?_eq_some_iff.1 hyj
         obtain ⟨h3, h4⟩ := List.getElem?_eq_some_iff.1 hyk
         rw [← h2, ← h4]
         exact List.pairwise_iff_getElem.1 HZS.out j k h1 h3 (by omega)
        have hge : ¬ y ≤ y1 := by omega
        have hge2 : decide (y ≤ y1) = false := decide_eq_false hge
        have HE1 := Lib.hid e1
        clear hj hyj hyy e1 hb1
        cases v with
        | false =>
         rw [Bool.false_or] at hv2
         go_wp2_with fail
         refine quiet_held (fun w' => Below wr.heap.size wr w') (by kernel_rfl) (by kernel_rfl) (Below.refl _ _).drew ?_
         repeat (first
          | go_big_quiet_skip
          | (go_big_quiet_want; go_big_quiet_op; go_big_quiet_on)
          | (go_big_quiet_want; apply Exists.intro; refine ⟨fun wq hq => ?_, ?_⟩; (focus (have z0 := (hq.cell (p := ⟨b0, o0 + k, none⟩) HB0.out).trans HE0.out; have z1 := (hq.cell (p := ⟨b0, o0 + j, none⟩) HB0.out).trans HE1.out; unfold Oper.quietAt; go_simp; all_goals (first | rfl | exact ⟨rfl, rfl⟩ | skip))); simp only [Act.put, List.setIfInBounds_toArray, List.set_cons_zero, List.set_cons_succ]; go_big_quiet_on))
         refine wpQuiet_nil ?_
         intro w6 hb
         have S6 := Lib.hid (SR.out.step hb)
         have HBQ := Lib.hid (HBW.out.trans (hb.mono HBW.out.size))
         clear hb
         go_wp2_with fail
         go_roundw
         case rel => exact ⟨k + 1, by go_num, by rw [HMT.out], by omega, HBQ.out⟩
         case measure => simp only [Go.RowKit.intOf]; omega
        | true =>
         rw [Bool.true_or] at hv2
         subst hv2
         go_wp2_with fail
         refine quiet_held (fun w' => Below wr.heap.size wr w') (by kernel_rfl) (by kernel_rfl) (Below.refl _ _).drew ?_
         repeat (first
          | go_big_quiet_skip
          | (go_big_quiet_want; go_big_quiet_op; go_big_quiet_on)
          | (go_big_quiet_want; apply Exists.intro; refine ⟨fun wq hq => ?_, ?_⟩; (focus (have z0 := (hq.cell (p := ⟨b0, o0 + k, none⟩) HB0.out).trans HE0.out; have z1 := (hq.cell (p := ⟨b0, o0 + j, none⟩) HB0.out).trans HE1.out; unfold Oper.quietAt; go_simp; all_goals (first | rfl | exact ⟨rfl, rfl⟩ | skip))); simp only [Act.put, List.setIfInBounds_toArray, List.set_cons_zero, List.set_cons_succ]; go_big_quiet_on))
         refine wpQuiet_nil ?_
         intro w6 hb
         have S6 := Lib.hid (SR.out.step hb)
         have HBQ := Lib.hid (HBW.out.trans (hb.mono HBW.out.size))
         clear hb
         go_wp2_with fail
         go_roundw
         case rel => exact ⟨k + 1, by go_num, by rw [HMT.out], by omega, HBQ.out⟩
         case measure => simp only [Go.RowKit.intOf]; omega
       ·have hk0i : ¬ (0 : Int) < (k : Int) := by omega
        cases v with
        | false =>
         rw [Bool.false_or] at hv2
         go_wp2_with fail
         refine quiet_held (fun w' => Below wr.heap.size wr w') (by kernel_rfl) (by kernel_rfl) (Below.refl _ _).drew ?_
         repeat (first
          | go_big_quiet_skip
          | (go_big_quiet_want; go_big_quiet_op; go_big_quiet_on)
          | (go_big_quiet_want; apply Exists.intro; refine ⟨fun wq hq => ?_, ?_⟩; (focus (have z0 := (hq.cell (p := ⟨b0, o0 + k, none⟩) HB0.out).trans HE0.out; unfold Oper.quietAt; go_simp; all_goals (first | rfl | exact ⟨rfl, rfl⟩ | skip))); simp only [Act.put, List.setIfInBounds_toArray, List.set_cons_zero, List.set_cons_succ]; go_big_quiet_on))
         refine wpQuiet_nil ?_
         intro w6 hb
         have S6 := Lib.hid (SR.out.step hb)
         have HBQ := Lib.hid (HBW.out.trans (hb.mono HBW.out.size))
         clear hb
         go_wp2_with fail
         go_roundw
         case rel => exact ⟨k + 1, by go_num, by rw [HMT.out], by omega, HBQ.out⟩
         case measure => simp only [Go.RowKit.intOf]; omega
        | true =>
         rw [Bool.true_or] at hv2
         subst hv2
         go_wp2_with fail
         refine quiet_held (fun w' => Below wr.heap.size wr w') (by kernel_rfl) (by kernel_rfl) (Below.refl _ _).drew ?_
         repeat (first
          | go_big_quiet_skip
          | (go_big_quiet_want; go_big_quiet_op; go_big_quiet_on)
          | (go_big_quiet_want; apply Exists.intro; refine ⟨fun wq hq => ?_, ?_⟩; (focus (have z0 := (hq.cell (p := ⟨b0, o0 + k, none⟩) HB0.out).trans HE0.out; unfold Oper.quietAt; go_simp; all_goals (first | rfl | exact ⟨rfl, rfl⟩ | skip))); simp only [Act.put, List.setIfInBounds_toArray, List.set_cons_zero, List.set_cons_succ]; go_big_quiet_on))
         refine wpQuiet_nil ?_
         intro w6 hb
         have S6 := Lib.hid (SR.out.step hb)
         have HBQ := Lib.hid (HBW.out.trans (hb.mono HBW.out.size))
         clear hb
         go_wp2_with fail
         go_roundw
         case rel => exact ⟨k + 1, by go_num, by rw [HMT.out], by omega, HBQ.out⟩
         case measure => simp only [Go.RowKit.intOf]; omega
      ·obtain rfl : k = z.length := by omega
       rw [List.take_length]
       clear hlt hk
       cases hs : (fnd l c).isSome with
       | false =>
        have ham : decide (c ∈ z) = false := by rw [HAM.out, hs]; rfl
        rw [ham]
        clear ham
        go_wp2_with fail
        refine (find_v (v := .agg #[.int .i64 (ch x), .int .i64 (pa x), .string (ba (nm x)), .float .f64 (rk x)]) (x := false) (by rw [HX.out]; rfl) hs hmx (SR.out.rows (.tail _ (.tail _ (.head _))))).mono ?_
        rintro e w6 ⟨rfl, hb⟩
        have S6 := Lib.hid (SR.out.step hb)
        clear hb
        obtain ⟨w7, hw⟩ : ∃ w7, w7 = w6.alloc (.cells #[.int .i64 (ch x), .int .i64 (pa x), .string (ba (nm x)), .float .f64 (rk x)] 28) := ⟨_, rfl⟩
        have hb : Below w6.heap.size w6 w7 := by rw [hw]; exact (Below.refl _ _).alloc (Nat.le_refl _) _
        have S7 := Lib.hid ((S6.out.step hb).addB (g := w6.heap.size) (t := 28) (vs := [.int .i64 (ch x), .int .i64 (pa x), .string (ba (nm x)), .float .f64 (rk x)]) (by rw [hw]; exact is_new w6 28 _))
        have HW7 := Lib.hid hw
        clear hw hb
        clear hs
        go_wp2_with fail
        rw [← HW7.out]
        go_loopw [12] (fun i wr => ∃ k : Nat, i = .int .i64 (k : Int) ∧ k ≤ 0 ∧ Below w7.heap.size w7 wr) (fun i _ => 0 - (Go.RowKit.intOf i).toNat)
        case atStart => exact ⟨0, rfl, Nat.zero_le _, Below.refl _ _⟩
        case round =>
         rename World => wq2
         obtain ⟨k, rfl, hk, hbw⟩ := hrel
         have SR2 := Lib.hid (S7.out.step hbw)
         have HBW2 := Lib.hid hbw
         clear hbw
         obtain rfl : k = 0 := by omega
         go_wp2_with fail
         refine (live12_c _).mono ?_
         rintro e w8 ⟨rfl, hb⟩
         have S8 := Lib.hid (SR2.out.step hb)
         clear hb
         go_wp2_with fail
         go_ret
         exact ⟨rfl, S8.out.bel⟩
       | true =>
        have ham : decide (c ∈ z) = false := by rw [HAM.out, hs]; rfl
        rw [ham]
        clear ham
        go_wp2_with fail
        refine (find_v (v := .agg #[.int .i64 (ch x), .int .i64 (pa x), .string (ba (nm x)), .float .f64 (rk x)]) (x := true) (by rw [HX.out]; rfl) hs hmx (SR.out.rows (.tail _ (.tail _ (.head _))))).mono ?_
        rintro e w6 ⟨rfl, hb⟩
        have S6 := Lib.hid (SR.out.step hb)
        clear hb
        obtain ⟨w7, hw⟩ : ∃ w7, w7 = w6.alloc (.cells #[.int .i64 (ch x), .int .i64 (pa x), .string (ba (nm x)), .float .f64 (rk x)] 28) := ⟨_, rfl⟩
        have hb : Below w6.heap.size w6 w7 := by rw [hw]; exact (Below.refl _ _).alloc (Nat.le_refl _) _
        have S7 := Lib.hid ((S6.out.step hb).addB (g := w6.heap.size) (t := 28) (vs := [.int .i64 (ch x), .int .i64 (pa x), .string (ba (nm x)), .float .f64 (rk x)]) (by rw [hw]; exact is_new w6 28 _))
        have HW7 := Lib.hid hw
        clear hw hb
        clear hs
        go_wp2_with fail
        rw [← HW7.out]
        go_loopw [12] (fun i wr => ∃ k : Nat, i = .int .i64 (k : Int) ∧ k ≤ 0 ∧ Below w7.heap.size w7 wr) (fun i _ => 0 - (Go.RowKit.intOf i).toNat)
        case atStart => exact ⟨0, rfl, Nat.zero_le _, Below.refl _ _⟩
        case round =>
         rename World => wq2
         obtain ⟨k, rfl, hk, hbw⟩ := hrel
         have SR2 := Lib.hid (S7.out.step hbw)
         have HBW2 := Lib.hid hbw
         clear hbw
         obtain rfl : k = 0 := by omega
         go_wp2_with fail
         refine (live12_c _).mono ?_
         rintro e w8 ⟨rfl, hb⟩
         have S8 := Lib.hid (SR2.out.step hb)
         clear hb
         go_wp2_with fail
         go_ret
         exact ⟨rfl, S8.out.bel⟩
   | true =>
    rw [hy] at HWAY HAM
    obtain ⟨HW⟩ : Nonempty (Hid (pathC l (l.length + 1) c = some q)) := ⟨Lib.hid (by
     have h2 := HQ.out
     cases hw : wayR l c with
     | none => rw [hw] at hy; cases hy
     | some q2 => rw [hw] at h2; rw [wayR_path] at hw; rw [hw]; simpa using h2)⟩
    go_wp2_with fail
    refine (path_v (q := q) HQ.out hy rfl hl5 (S2.out.rows (.head _))).mono ?_
    rintro e w3 ⟨AP, cP, rfl, hat, hcap, hb⟩
    have S3 := Lib.hid ((S2.out.step hb).addI (A := AP) (l := q) hat)
    have CPAP := Lib.hid hcap
    clear hb hat hcap
    clear hy
    by_cases hc0 : c = 0
    ·have hq1 : (c == 0) = true := by simpa using hc0
     have hd1 : decide (c = 0) = true := by simpa using hc0
     rw [hd1] at HWAY HAM
     have HC0 := Lib.hid hc0
     clear hc0 hd1
     obtain ⟨qt, hqc⟩ := pathC_head HW.out
     have hq00 : (q.length == 0) = false := by rw [hqc]; rfl
     have hq01 : 0 < q.length := by rw [hqc]; simp
     have hqi : ((q.length : Int) == 0) = false := by rw [beq_eq_false_iff_ne]; omega
     clear hqc
     go_wp2_with fail
     refine (reached_v HZ.out rfl (by omega) H6.out (S3.out.rows (.tail _ (.head _)))).mono ?_
     rintro e w4 ⟨AR, cR, rfl, hat, hcap, hb⟩
     have S4 := Lib.hid ((S3.out.step hb).addI (A := AR) (l := z) hat)
     have CPAR := Lib.hid hcap
     clear hb hat hcap
     go_wp2_with fail
     go_loopw [7, 9] (fun v i wr => ∃ k : Nat, i = .int .i64 (k : Int) ∧ v = .bool (decide (c ∈ z.take k)) ∧ k ≤ z.length ∧ Below w4.heap.size w4 wr) (fun _ i _ => z.length - (Go.RowKit.intOf i).toNat)
     case atStart => exact ⟨0, rfl, by simp, Nat.zero_le _, Below.refl _ _⟩
     case round =>
      obtain ⟨k, rfl, rfl, hk, hbw⟩ := hrel
      have SR := Lib.hid (S4.out.step hbw)
      have HBW := Lib.hid hbw
      clear hbw
      by_cases hlt : k < z.length
      ·obtain ⟨y, hyk⟩ := some_at hlt
       have hki : (0 : Int) ≤ (k : Int) := by omega
       have hkl : (k : Int) < (z.length : Int) := by omega
       obtain ⟨b0, o0, hAe, hb0, e0⟩ := (SR.out.ints (.head _)) k (.int .i64 y) (by unfold ivs; rw [List.getElem?_map, hyk]; rfl)
       subst hAe
       have hmt := mem_take_step (c := c) hyk
       have HMT := Lib.hid hmt
       clear hmt
       obtain ⟨v, hv⟩ : ∃ v, decide (c ∈ z.take k) = v := ⟨_, rfl⟩
       rw [hv] at HMT ⊢
       have HB0 := Lib.hid hb0
       have HE0 := Lib.hid e0
       clear hv
       obtain ⟨v2, hv2⟩ : ∃ v2, (v || (y == c)) = v2 := ⟨_, rfl⟩
       rw [hv2] at HMT
       by_cases hk0 : 0 < k
       ·have hk0i : (0 : Int) < (k : Int) := by omega
        obtain ⟨j, hj⟩ : ∃ j, k = j + 1 := ⟨k - 1, by omega⟩
        have hwj : IntKind.i64.wrap ((k : Int) - 1) = (j : Int) := by rw [show (k : Int) - 1 = (j : Int) by omega]; exact IntWalk.i64_in _ (by omega)
        obtain ⟨y1, hyj⟩ := some_at (show j < z.length by omega)
        obtain ⟨b1, o1, hAe1, hb1, e1⟩ := ((SR.out.ints (.head _))) j (.int .i64 y1) (by unfold ivs; rw [List.getElem?_map, hyj]; rfl)
        cases hAe1
        have hji : (0 : Int) ≤ (j : Int) := by omega
        have hjl : (j : Int) < (z.length : Int) := by omega
        have hyy : y1 < y := by
         obtain ⟨h1, h2⟩ := List.getElem?_eq_some_iff.1 hyj
         obtain ⟨h3, h4⟩ := List.getElem?_eq_some_iff.1 hyk
         rw [← h2, ← h4]
         exact List.pairwise_iff_getElem.1 HZS.out j k h1 h3 (by omega)
        have hge : ¬ y ≤ y1 := by omega
        have hge2 : decide (y ≤ y1) = false := decide_eq_false hge
        have HE1 := Lib.hid e1
        clear hj hyj hyy e1 hb1
        cases v with
        | false =>
         rw [Bool.false_or] at hv2
         go_wp2_with fail
         refine quiet_held (fun w' => Below wr.heap.size wr w') (by kernel_rfl) (by kernel_rfl) (Below.refl _ _).drew ?_
         repeat (first
          | go_big_quiet_skip
          | (go_big_quiet_want; go_big_quiet_op; go_big_quiet_on)
          | (go_big_quiet_want; apply Exists.intro; refine ⟨fun wq hq => ?_, ?_⟩; (focus (have z0 := (hq.cell (p := ⟨b0, o0 + k, none⟩) HB0.out).trans HE0.out; have z1 := (hq.cell (p := ⟨b0, o0 + j, none⟩) HB0.out).trans HE1.out; unfold Oper.quietAt; go_simp; all_goals (first | rfl | exact ⟨rfl, rfl⟩ | skip))); simp only [Act.put, List.setIfInBounds_toArray, List.set_cons_zero, List.set_cons_succ]; go_big_quiet_on))
         refine wpQuiet_nil ?_
         intro w5 hb
         have S5 := Lib.hid (SR.out.step hb)
         have HBQ := Lib.hid (HBW.out.trans (hb.mono HBW.out.size))
         clear hb
         go_wp2_with fail
         go_roundw
         case rel => exact ⟨k + 1, by go_num, by rw [HMT.out], by omega, HBQ.out⟩
         case measure => simp only [Go.RowKit.intOf]; omega
        | true =>
         rw [Bool.true_or] at hv2
         subst hv2
         go_wp2_with fail
         refine quiet_held (fun w' => Below wr.heap.size wr w') (by kernel_rfl) (by kernel_rfl) (Below.refl _ _).drew ?_
         repeat (first
          | go_big_quiet_skip
          | (go_big_quiet_want; go_big_quiet_op; go_big_quiet_on)
          | (go_big_quiet_want; apply Exists.intro; refine ⟨fun wq hq => ?_, ?_⟩; (focus (have z0 := (hq.cell (p := ⟨b0, o0 + k, none⟩) HB0.out).trans HE0.out; have z1 := (hq.cell (p := ⟨b0, o0 + j, none⟩) HB0.out).trans HE1.out; unfold Oper.quietAt; go_simp; all_goals (first | rfl | exact ⟨rfl, rfl⟩ | skip))); simp only [Act.put, List.setIfInBounds_toArray, List.set_cons_zero, List.set_cons_succ]; go_big_quiet_on))
         refine wpQuiet_nil ?_
         intro w5 hb
         have S5 := Lib.hid (SR.out.step hb)
         have HBQ := Lib.hid (HBW.out.trans (hb.mono HBW.out.size))
         clear hb
         go_wp2_with fail
         go_roundw
         case rel => exact ⟨k + 1, by go_num, by rw [HMT.out], by omega, HBQ.out⟩
         case measure => simp only [Go.RowKit.intOf]; omega
       ·have hk0i : ¬ (0 : Int) < (k : Int) := by omega
        cases v with
        | false =>
         rw [Bool.false_or] at hv2
         go_wp2_with fail
         refine quiet_held (fun w' => Below wr.heap.size wr w') (by kernel_rfl) (by kernel_rfl) (Below.refl _ _).drew ?_
         repeat (first
          | go_big_quiet_skip
          | (go_big_quiet_want; go_big_quiet_op; go_big_quiet_on)
          | (go_big_quiet_want; apply Exists.intro; refine ⟨fun wq hq => ?_, ?_⟩; (focus (have z0 := (hq.cell (p := ⟨b0, o0 + k, none⟩) HB0.out).trans HE0.out; unfold Oper.quietAt; go_simp; all_goals (first | rfl | exact ⟨rfl, rfl⟩ | skip))); simp only [Act.put, List.setIfInBounds_toArray, List.set_cons_zero, List.set_cons_succ]; go_big_quiet_on))
         refine wpQuiet_nil ?_
         intro w5 hb
         have S5 := Lib.hid (SR.out.step hb)
         have HBQ := Lib.hid (HBW.out.trans (hb.mono HBW.out.size))
         clear hb
         go_wp2_with fail
         go_roundw
         case rel => exact ⟨k + 1, by go_num, by rw [HMT.out], by omega, HBQ.out⟩
         case measure => simp only [Go.RowKit.intOf]; omega
        | true =>
         rw [Bool.true_or] at hv2
         subst hv2
         go_wp2_with fail
         refine quiet_held (fun w' => Below wr.heap.size wr w') (by kernel_rfl) (by kernel_rfl) (Below.refl _ _).drew ?_
         repeat (first
          | go_big_quiet_skip
          | (go_big_quiet_want; go_big_quiet_op; go_big_quiet_on)
          | (go_big_quiet_want; apply Exists.intro; refine ⟨fun wq hq => ?_, ?_⟩; (focus (have z0 := (hq.cell (p := ⟨b0, o0 + k, none⟩) HB0.out).trans HE0.out; unfold Oper.quietAt; go_simp; all_goals (first | rfl | exact ⟨rfl, rfl⟩ | skip))); simp only [Act.put, List.setIfInBounds_toArray, List.set_cons_zero, List.set_cons_succ]; go_big_quiet_on))
         refine wpQuiet_nil ?_
         intro w5 hb
         have S5 := Lib.hid (SR.out.step hb)
         have HBQ := Lib.hid (HBW.out.trans (hb.mono HBW.out.size))
         clear hb
         go_wp2_with fail
         go_roundw
         case rel => exact ⟨k + 1, by go_num, by rw [HMT.out], by omega, HBQ.out⟩
         case measure => simp only [Go.RowKit.intOf]; omega
      ·obtain rfl : k = z.length := by omega
       rw [List.take_length]
       clear hlt hk
       cases hs : (fnd l c).isSome with
       | false =>
        have ham : decide (c ∈ z) = true := by rw [HAM.out, hs]; rfl
        rw [ham]
        clear ham
        go_wp2_with fail
        refine (find_v (v := .agg #[.int .i64 (ch x), .int .i64 (pa x), .string (ba (nm x)), .float .f64 (rk x)]) (x := false) (by rw [HX.out]; rfl) hs hmx (SR.out.rows (.tail _ (.tail _ (.head _))))).mono ?_
        rintro e w5 ⟨rfl, hb⟩
        have S5 := Lib.hid (SR.out.step hb)
        clear hb
        obtain ⟨w6, hw⟩ : ∃ w6, w6 = w5.alloc (.cells #[.int .i64 (ch x), .int .i64 (pa x), .string (ba (nm x)), .float .f64 (rk x)] 28) := ⟨_, rfl⟩
        have hb : Below w5.heap.size w5 w6 := by rw [hw]; exact (Below.refl _ _).alloc (Nat.le_refl _) _
        have S6 := Lib.hid ((S5.out.step hb).addB (g := w5.heap.size) (t := 28) (vs := [.int .i64 (ch x), .int .i64 (pa x), .string (ba (nm x)), .float .f64 (rk x)]) (by rw [hw]; exact is_new w5 28 _))
        have HW6 := Lib.hid hw
        clear hw hb
        clear hs
        go_wp2_with fail
        rw [← HW6.out]
        go_loopw [12] (fun i wr => ∃ k : Nat, i = .int .i64 (k : Int) ∧ k ≤ q.length ∧ Below w6.heap.size w6 wr) (fun i _ => q.length - (Go.RowKit.intOf i).toNat)
        case atStart => exact ⟨0, rfl, Nat.zero_le _, Below.refl _ _⟩
        case round =>
         rename World => wq2
         obtain ⟨k, rfl, hk, hbw⟩ := hrel
         have SR2 := Lib.hid (S6.out.step hbw)
         have HBW2 := Lib.hid hbw
         clear hbw
         by_cases hlt : k < q.length
         ·obtain ⟨y, hyk⟩ := some_at hlt
          have hki : (0 : Int) ≤ (k : Int) := by omega
          have hkl : (k : Int) < (q.length : Int) := by omega
          obtain ⟨b5, o5, hAe, hb5, e5⟩ := (SR2.out.ints (.tail _ (.tail _ (.head _)))) k (.int .i64 y) (by unfold ivs; rw [List.getElem?_map, hyk]; rfl)
          subst hAe
          have HYK := Lib.hid hyk
          have HB5 := Lib.hid hb5
          clear hyk hb5
          by_cases hk0 : k = 0
          ·subst hk0
           have hyc : y = c := by
            have h1 := HYK.out
            rw [path_zero HW.out] at h1
            exact (Option.some.inj h1).symm
           have hye : (y == c) = true := by simpa using hyc
           clear hyc
           rw [Nat.add_zero] at e5
           go_wp2_with fail
           go_roundw
           case rel => exact ⟨1, by go_num, by omega, HBW2.out⟩
           case measure => simp only [Go.RowKit.intOf]; omega
          ·obtain ⟨j, hj⟩ : ∃ j, k = j + 1 := ⟨k - 1, by omega⟩
           have hyc : y ≠ c := fun e => by
            have h0 : q[0]? = some c := path_zero HW.out
            have h1 := HYK.out
            rw [e] at h1
            have hnd := pathC_nodup HW.out
            obtain ⟨g1, g2⟩ := List.getElem?_eq_some_iff.1 h0
            obtain ⟨g3, g4⟩ := List.getElem?_eq_some_iff.1 h1
            exact (List.pairwise_iff_getElem.1 hnd 0 k g1 g3 (by omega)) (g2.trans g4.symm)
           have hye : (y == c) = false := by simpa using hyc
           have hkz : ((k : Int) == 0) = false := by rw [beq_eq_false_iff_ne]; omega
           have hkp : (0 : Int) < (k : Int) := by omega
           have hab : abv l y l.length c = true := by
            have h1 := HYK.out
            rw [hj] at h1
            rw [← abvB_eq]
            exact path_above HW.out h1
           have HAB := Lib.hid hab
           obtain ⟨y1, hyj⟩ := some_at (show j < q.length by omega)
           have hnx := path_next HW.out j y1 y hyj (by rw [← hj]; exact HYK.out)
           obtain ⟨ks, hks⟩ : ∃ ks, kidsR l y = ks := ⟨_, rfl⟩
           have hin : decide (y1 ∈ ks.map ch) = true := by
            obtain ⟨r, h1, h2⟩ := kid_of hnx
            rw [← hks, decide_eq_true_eq]
            exact List.mem_map.2 ⟨r, h1, h2⟩
           have hkl2 : ks.length ≤ l.length := by rw [← hks]; exact kidsR_le l y
           have HIN := Lib.hid hin
           have HKS := Lib.hid hks
           have HYJ := Lib.hid hyj
           have hwj : IntKind.i64.wrap ((k : Int) - 1) = (j : Int) := by rw [show (k : Int) - 1 = (j : Int) by omega]; exact IntWalk.i64_in _ (by omega)
           have hji : (0 : Int) ≤ (j : Int) := by omega
           have hjl : (j : Int) < (q.length : Int) := by omega
           have HJ := Lib.hid hj
           clear hyc hab hnx hin hks hyj hj
           go_wp2_with fail
           refine (above_v HAB.out hl5 (SR2.out.rows (.tail _ (.tail _ (.tail _ (.head _)))))).mono ?_
           rintro e w7 ⟨rfl, hb⟩
           have S7 := Lib.hid (SR2.out.step hb)
           have HBA := Lib.hid hb
           clear hb
           skip
           obtain ⟨b6, o6, hAe6, hb6, e6⟩ := (S7.out.ints (.tail _ (.tail _ (.head _)))) k (.int .i64 y) (by unfold ivs; rw [List.getElem?_map, HYK.out]; rfl)
           cases hAe6
           go_wp2_with fail
           refine (kids_v HKS.out rfl (show l.length ≤ 10000 by omega) HS6.out (S7.out.rows (.tail _ (.tail _ (.tail _ (.head _)))))).mono ?_
           rintro e w8 ⟨AK, cK, rfl, hat, hcap, hb⟩
           have S8 := Lib.hid ((S7.out.step hb).addR (A := AK) (l := ks) hat)
           have HBK := Lib.hid hb
           clear hb hat hcap
           have HB23 := Lib.hid (HBA.out.trans (HBK.out.mono HBA.out.size))
           clear e5 e6 hb6
           go_wp2_with fail
           go_loopw [13, 15] (fun v i wr => ∃ n : Nat, i = .int .i64 (n : Int) ∧ v = .bool (decide (y1 ∈ (ks.take n).map ch)) ∧ n ≤ ks.length ∧ Below w8.heap.size w8 wr) (fun _ i _ => ks.length - (Go.RowKit.intOf i).toNat)
           case atStart => exact ⟨0, rfl, by simp, Nat.zero_le _, Below.refl _ _⟩
           case round =>
            rename World => wq3
            obtain ⟨n, rfl, rfl, hn, hbw⟩ := hrel
            have SR3 := Lib.hid (S8.out.step hbw)
            have HBW3 := Lib.hid hbw
            clear hbw
            by_cases hln : n < ks.length
            ·obtain ⟨r, hr⟩ := some_at hln
             have hni : (0 : Int) ≤ (n : Int) := by omega
             have hnl : (n : Int) < (ks.length : Int) := by omega
             obtain ⟨b7, o7, hAe7, hb7, c0, c1, c2, c3⟩ := row_cells (SR3.out.rows (.head _)) hr
             subst hAe7
             obtain ⟨b8, o8, hAe8, hb8, e8⟩ := (SR3.out.ints (.tail _ (.tail _ (.tail _ (.head _))))) j (.int .i64 y1) (by unfold ivs; rw [List.getElem?_map, HYJ.out]; rfl)
             cases hAe8
             have HMT := Lib.hid (mem_kids_step (c := y1) hr)
             have HC7 := Lib.hid (And.intro hb7 c0)
             have HC8 := Lib.hid (And.intro hb8 e8)
             clear c0 c1 c2 c3 e8 hb7 hb8 hr
             obtain ⟨v, hv⟩ : ∃ v, decide (y1 ∈ (ks.take n).map ch) = v := ⟨_, rfl⟩
             rw [hv] at HMT ⊢
             clear hv
             obtain ⟨v2, hv2⟩ : ∃ v2, (v || (ch r == y1)) = v2 := ⟨_, rfl⟩
             rw [hv2] at HMT
             cases v with
             | false =>
              rw [Bool.false_or] at hv2
              go_wp2_with fail
              refine quiet_held (fun w' => Below wq3.heap.size wq3 w') (by kernel_rfl) (by kernel_rfl) (Below.refl _ _).drew ?_
              repeat (first
               | go_big_quiet_skip
               | (go_big_quiet_want; go_big_quiet_op; go_big_quiet_on)
               | (go_big_quiet_want; apply Exists.intro; refine ⟨fun wq hq => ?_, ?_⟩; (focus (have z0 := (hq.cell (p := ⟨b7, o7 + n * 4, none⟩) HC7.out.1).trans HC7.out.2; have z1 := (hq.cell (p := ⟨b5, o5 + j, none⟩) HC8.out.1).trans HC8.out.2; unfold Oper.quietAt; go_simp; all_goals (first | rfl | exact ⟨rfl, rfl⟩ | skip))); simp only [Act.put, List.setIfInBounds_toArray, List.set_cons_zero, List.set_cons_succ]; go_big_quiet_on))
              refine wpQuiet_nil ?_
              intro w9 hb
              have S9 := Lib.hid (SR3.out.step hb)
              have HBQ := Lib.hid (HBW3.out.trans (hb.mono HBW3.out.size))
              clear hb
              go_wp2_with fail
              go_roundw
              case rel => exact ⟨n + 1, by go_num, by rw [HMT.out], by omega, HBQ.out⟩
              case measure => simp only [Go.RowKit.intOf]; omega
             | true =>
              rw [Bool.true_or] at hv2
              subst hv2
              go_wp2_with fail
              refine quiet_held (fun w' => Below wq3.heap.size wq3 w') (by kernel_rfl) (by kernel_rfl) (Below.refl _ _).drew ?_
              repeat (first
               | go_big_quiet_skip
               | (go_big_quiet_want; go_big_quiet_op; go_big_quiet_on)
               | (go_big_quiet_want; apply Exists.intro; refine ⟨fun wq hq => ?_, ?_⟩; (focus (have z0 := (hq.cell (p := ⟨b7, o7 + n * 4, none⟩) HC7.out.1).trans HC7.out.2; have z1 := (hq.cell (p := ⟨b5, o5 + j, none⟩) HC8.out.1).trans HC8.out.2; unfold Oper.quietAt; go_simp; all_goals (first | rfl | exact ⟨rfl, rfl⟩ | skip))); simp only [Act.put, List.setIfInBounds_toArray, List.set_cons_zero, List.set_cons_succ]; go_big_quiet_on))
              refine wpQuiet_nil ?_
              intro w9 hb
              have S9 := Lib.hid (SR3.out.step hb)
              have HBQ := Lib.hid (HBW3.out.trans (hb.mono HBW3.out.size))
              clear hb
              go_wp2_with fail
              go_roundw
              case rel => exact ⟨n + 1, by go_num, by rw [HMT.out], by omega, HBQ.out⟩
              case measure => simp only [Go.RowKit.intOf]; omega
            ·obtain rfl : n = ks.length := by omega
             rw [List.take_length, HIN.out]
             go_wp2_with fail
             go_roundw
             case rel => exact ⟨k + 1, by go_num, by omega, HBW2.out.trans (HB23.out.trans (HBW3.out.mono HB23.out.size) |>.mono HBW2.out.size)⟩
             case measure => simp only [Go.RowKit.intOf]; omega
         ·obtain rfl : k = q.length := by omega
          obtain ⟨n0, hn0⟩ : ∃ n0, q.length = n0 + 1 := ⟨q.length - 1, by omega⟩
          have hwn : IntKind.i64.wrap ((q.length : Int) - 1) = (n0 : Int) := by rw [show (q.length : Int) - 1 = (n0 : Int) by omega]; exact IntWalk.i64_in _ (by omega)
          have hlast : q[n0]? = some 0 := by
           have h := path_last HW.out
           rw [List.getLast?_eq_getElem?, hn0] at h
           exact h
          obtain ⟨b9, o9, hAe9, hb9, e9⟩ := (SR2.out.ints (.tail _ (.tail _ (.head _)))) n0 (.int .i64 0) (by unfold ivs; rw [List.getElem?_map, hlast]; rfl)
          subst hAe9
          have hni : (0 : Int) ≤ (n0 : Int) := by omega
          have hnl : (n0 : Int) < (q.length : Int) := by omega
          clear hn0 hlast hb9
          go_wp2_with fail
          refine (live12_c _).mono ?_
          rintro e w7 ⟨rfl, hb⟩
          have S7 := Lib.hid (SR2.out.step hb)
          clear hb
          go_wp2_with fail
          go_ret
          exact ⟨rfl, S7.out.bel⟩
       | true =>
        have ham : decide (c ∈ z) = true := by rw [HAM.out, hs]; rfl
        rw [ham]
        clear ham
        go_wp2_with fail
        refine (find_v (v := .agg #[.int .i64 (ch x), .int .i64 (pa x), .string (ba (nm x)), .float .f64 (rk x)]) (x := true) (by rw [HX.out]; rfl) hs hmx (SR.out.rows (.tail _ (.tail _ (.head _))))).mono ?_
        rintro e w5 ⟨rfl, hb⟩
        have S5 := Lib.hid (SR.out.step hb)
        clear hb
        obtain ⟨w6, hw⟩ : ∃ w6, w6 = w5.alloc (.cells #[.int .i64 (ch x), .int .i64 (pa x), .string (ba (nm x)), .float .f64 (rk x)] 28) := ⟨_, rfl⟩
        have hb : Below w5.heap.size w5 w6 := by rw [hw]; exact (Below.refl _ _).alloc (Nat.le_refl _) _
        have S6 := Lib.hid ((S5.out.step hb).addB (g := w5.heap.size) (t := 28) (vs := [.int .i64 (ch x), .int .i64 (pa x), .string (ba (nm x)), .float .f64 (rk x)]) (by rw [hw]; exact is_new w5 28 _))
        have HW6 := Lib.hid hw
        clear hw hb
        clear hs
        go_wp2_with fail
        rw [← HW6.out]
        go_loopw [12] (fun i wr => ∃ k : Nat, i = .int .i64 (k : Int) ∧ k ≤ q.length ∧ Below w6.heap.size w6 wr) (fun i _ => q.length - (Go.RowKit.intOf i).toNat)
        case atStart => exact ⟨0, rfl, Nat.zero_le _, Below.refl _ _⟩
        case round =>
         rename World => wq2
         obtain ⟨k, rfl, hk, hbw⟩ := hrel
         have SR2 := Lib.hid (S6.out.step hbw)
         have HBW2 := Lib.hid hbw
         clear hbw
         by_cases hlt : k < q.length
         ·obtain ⟨y, hyk⟩ := some_at hlt
          have hki : (0 : Int) ≤ (k : Int) := by omega
          have hkl : (k : Int) < (q.length : Int) := by omega
          obtain ⟨b5, o5, hAe, hb5, e5⟩ := (SR2.out.ints (.tail _ (.tail _ (.head _)))) k (.int .i64 y) (by unfold ivs; rw [List.getElem?_map, hyk]; rfl)
          subst hAe
          have HYK := Lib.hid hyk
          have HB5 := Lib.hid hb5
          clear hyk hb5
          by_cases hk0 : k = 0
          ·subst hk0
           have hyc : y = c := by
            have h1 := HYK.out
            rw [path_zero HW.out] at h1
            exact (Option.some.inj h1).symm
           have hye : (y == c) = true := by simpa using hyc
           clear hyc
           rw [Nat.add_zero] at e5
           go_wp2_with fail
           go_roundw
           case rel => exact ⟨1, by go_num, by omega, HBW2.out⟩
           case measure => simp only [Go.RowKit.intOf]; omega
          ·obtain ⟨j, hj⟩ : ∃ j, k = j + 1 := ⟨k - 1, by omega⟩
           have hyc : y ≠ c := fun e => by
            have h0 : q[0]? = some c := path_zero HW.out
            have h1 := HYK.out
            rw [e] at h1
            have hnd := pathC_nodup HW.out
            obtain ⟨g1, g2⟩ := List.getElem?_eq_some_iff.1 h0
            obtain ⟨g3, g4⟩ := List.getElem?_eq_some_iff.1 h1
            exact (List.pairwise_iff_getElem.1 hnd 0 k g1 g3 (by omega)) (g2.trans g4.symm)
           have hye : (y == c) = false := by simpa using hyc
           have hkz : ((k : Int) == 0) = false := by rw [beq_eq_false_iff_ne]; omega
           have hkp : (0 : Int) < (k : Int) := by omega
           have hab : abv l y l.length c = true := by
            have h1 := HYK.out
            rw [hj] at h1
            rw [← abvB_eq]
            exact path_above HW.out h1
           have HAB := Lib.hid hab
           obtain ⟨y1, hyj⟩ := some_at (show j < q.length by omega)
           have hnx := path_next HW.out j y1 y hyj (by rw [← hj]; exact HYK.out)
           obtain ⟨ks, hks⟩ : ∃ ks, kidsR l y = ks := ⟨_, rfl⟩
           have hin : decide (y1 ∈ ks.map ch) = true := by
            obtain ⟨r, h1, h2⟩ := kid_of hnx
            rw [← hks, decide_eq_true_eq]
            exact List.mem_map.2 ⟨r, h1, h2⟩
           have hkl2 : ks.length ≤ l.length := by rw [← hks]; exact kidsR_le l y
           have HIN := Lib.hid hin
           have HKS := Lib.hid hks
           have HYJ := Lib.hid hyj
           have hwj : IntKind.i64.wrap ((k : Int) - 1) = (j : Int) := by rw [show (k : Int) - 1 = (j : Int) by omega]; exact IntWalk.i64_in _ (by omega)
           have hji : (0 : Int) ≤ (j : Int) := by omega
           have hjl : (j : Int) < (q.length : Int) := by omega
           have HJ := Lib.hid hj
           clear hyc hab hnx hin hks hyj hj
           go_wp2_with fail
           refine (above_v HAB.out hl5 (SR2.out.rows (.tail _ (.tail _ (.tail _ (.head _)))))).mono ?_
           rintro e w7 ⟨rfl, hb⟩
           have S7 := Lib.hid (SR2.out.step hb)
           have HBA := Lib.hid hb
           clear hb
           skip
           obtain ⟨b6, o6, hAe6, hb6, e6⟩ := (S7.out.ints (.tail _ (.tail _ (.head _)))) k (.int .i64 y) (by unfold ivs; rw [List.getElem?_map, HYK.out]; rfl)
           cases hAe6
           go_wp2_with fail
           refine (kids_v HKS.out rfl (show l.length ≤ 10000 by omega) HS6.out (S7.out.rows (.tail _ (.tail _ (.tail _ (.head _)))))).mono ?_
           rintro e w8 ⟨AK, cK, rfl, hat, hcap, hb⟩
           have S8 := Lib.hid ((S7.out.step hb).addR (A := AK) (l := ks) hat)
           have HBK := Lib.hid hb
           clear hb hat hcap
           have HB23 := Lib.hid (HBA.out.trans (HBK.out.mono HBA.out.size))
           clear e5 e6 hb6
           go_wp2_with fail
           go_loopw [13, 15] (fun v i wr => ∃ n : Nat, i = .int .i64 (n : Int) ∧ v = .bool (decide (y1 ∈ (ks.take n).map ch)) ∧ n ≤ ks.length ∧ Below w8.heap.size w8 wr) (fun _ i _ => ks.length - (Go.RowKit.intOf i).toNat)
           case atStart => exact ⟨0, rfl, by simp, Nat.zero_le _, Below.refl _ _⟩
           case round =>
            rename World => wq3
            obtain ⟨n, rfl, rfl, hn, hbw⟩ := hrel
            have SR3 := Lib.hid (S8.out.step hbw)
            have HBW3 := Lib.hid hbw
            clear hbw
            by_cases hln : n < ks.length
            ·obtain ⟨r, hr⟩ := some_at hln
             have hni : (0 : Int) ≤ (n : Int) := by omega
             have hnl : (n : Int) < (ks.length : Int) := by omega
             obtain ⟨b7, o7, hAe7, hb7, c0, c1, c2, c3⟩ := row_cells (SR3.out.rows (.head _)) hr
             subst hAe7
             obtain ⟨b8, o8, hAe8, hb8, e8⟩ := (SR3.out.ints (.tail _ (.tail _ (.tail _ (.head _))))) j (.int .i64 y1) (by unfold ivs; rw [List.getElem?_map, HYJ.out]; rfl)
             cases hAe8
             have HMT := Lib.hid (mem_kids_step (c := y1) hr)
             have HC7 := Lib.hid (And.intro hb7 c0)
             have HC8 := Lib.hid (And.intro hb8 e8)
             clear c0 c1 c2 c3 e8 hb7 hb8 hr
             obtain ⟨v, hv⟩ : ∃ v, decide (y1 ∈ (ks.take n).map ch) = v := ⟨_, rfl⟩
             rw [hv] at HMT ⊢
             clear hv
             obtain ⟨v2, hv2⟩ : ∃ v2, (v || (ch r == y1)) = v2 := ⟨_, rfl⟩
             rw [hv2] at HMT
             cases v with
             | false =>
              rw [Bool.false_or] at hv2
              go_wp2_with fail
              refine quiet_held (fun w' => Below wq3.heap.size wq3 w') (by kernel_rfl) (by kernel_rfl) (Below.refl _ _).drew ?_
              repeat (first
               | go_big_quiet_skip
               | (go_big_quiet_want; go_big_quiet_op; go_big_quiet_on)
               | (go_big_quiet_want; apply Exists.intro; refine ⟨fun wq hq => ?_, ?_⟩; (focus (have z0 := (hq.cell (p := ⟨b7, o7 + n * 4, none⟩) HC7.out.1).trans HC7.out.2; have z1 := (hq.cell (p := ⟨b5, o5 + j, none⟩) HC8.out.1).trans HC8.out.2; unfold Oper.quietAt; go_simp; all_goals (first | rfl | exact ⟨rfl, rfl⟩ | skip))); simp only [Act.put, List.setIfInBounds_toArray, List.set_cons_zero, List.set_cons_succ]; go_big_quiet_on))
              refine wpQuiet_nil ?_
              intro w9 hb
              have S9 := Lib.hid (SR3.out.step hb)
              have HBQ := Lib.hid (HBW3.out.trans (hb.mono HBW3.out.size))
              clear hb
              go_wp2_with fail
              go_roundw
              case rel => exact ⟨n + 1, by go_num, by rw [HMT.out], by omega, HBQ.out⟩
              case measure => simp only [Go.RowKit.intOf]; omega
             | true =>
              rw [Bool.true_or] at hv2
              subst hv2
              go_wp2_with fail
              refine quiet_held (fun w' => Below wq3.heap.size wq3 w') (by kernel_rfl) (by kernel_rfl) (Below.refl _ _).drew ?_
              repeat (first
               | go_big_quiet_skip
               | (go_big_quiet_want; go_big_quiet_op; go_big_quiet_on)
               | (go_big_quiet_want; apply Exists.intro; refine ⟨fun wq hq => ?_, ?_⟩; (focus (have z0 := (hq.cell (p := ⟨b7, o7 + n * 4, none⟩) HC7.out.1).trans HC7.out.2; have z1 := (hq.cell (p := ⟨b5, o5 + j, none⟩) HC8.out.1).trans HC8.out.2; unfold Oper.quietAt; go_simp; all_goals (first | rfl | exact ⟨rfl, rfl⟩ | skip))); simp only [Act.put, List.setIfInBounds_toArray, List.set_cons_zero, List.set_cons_succ]; go_big_quiet_on))
              refine wpQuiet_nil ?_
              intro w9 hb
              have S9 := Lib.hid (SR3.out.step hb)
              have HBQ := Lib.hid (HBW3.out.trans (hb.mono HBW3.out.size))
              clear hb
              go_wp2_with fail
              go_roundw
              case rel => exact ⟨n + 1, by go_num, by rw [HMT.out], by omega, HBQ.out⟩
              case measure => simp only [Go.RowKit.intOf]; omega
            ·obtain rfl : n = ks.length := by omega
             rw [List.take_length, HIN.out]
             go_wp2_with fail
             go_roundw
             case rel => exact ⟨k + 1, by go_num, by omega, HBW2.out.trans (HB23.out.trans (HBW3.out.mono HB23.out.size) |>.mono HBW2.out.size)⟩
             case measure => simp only [Go.RowKit.intOf]; omega
         ·obtain rfl : k = q.length := by omega
          obtain ⟨n0, hn0⟩ : ∃ n0, q.length = n0 + 1 := ⟨q.length - 1, by omega⟩
          have hwn : IntKind.i64.wrap ((q.length : Int) - 1) = (n0 : Int) := by rw [show (q.length : Int) - 1 = (n0 : Int) by omega]; exact IntWalk.i64_in _ (by omega)
          have hlast : q[n0]? = some 0 := by
           have h := path_last HW.out
           rw [List.getLast?_eq_getElem?, hn0] at h
           exact h
          obtain ⟨b9, o9, hAe9, hb9, e9⟩ := (SR2.out.ints (.tail _ (.tail _ (.head _)))) n0 (.int .i64 0) (by unfold ivs; rw [List.getElem?_map, hlast]; rfl)
          subst hAe9
          have hni : (0 : Int) ≤ (n0 : Int) := by omega
          have hnl : (n0 : Int) < (q.length : Int) := by omega
          clear hn0 hlast hb9
          go_wp2_with fail
          refine (live12_c _).mono ?_
          rintro e w7 ⟨rfl, hb⟩
          have S7 := Lib.hid (SR2.out.step hb)
          clear hb
          go_wp2_with fail
          go_ret
          exact ⟨rfl, S7.out.bel⟩
    ·have hq1 : (c == 0) = false := by simpa using hc0
     have hd1 : decide (c = 0) = false := by simpa using hc0
     rw [hd1] at HWAY HAM
     have HC0 := Lib.hid hc0
     clear hc0 hd1
     obtain ⟨qt, hqc⟩ := pathC_head HW.out
     have hq00 : (q.length == 0) = false := by rw [hqc]; rfl
     have hq01 : 0 < q.length := by rw [hqc]; simp
     have hqi : ((q.length : Int) == 0) = false := by rw [beq_eq_false_iff_ne]; omega
     clear hqc
     rw [Bool.false_or] at HWAY
     go_wp2_with fail
     refine (above_v HWAY.out hl5 (S3.out.rows (.tail _ (.head _)))).mono ?_
     rintro e w4 ⟨rfl, hb⟩
     have S4 := Lib.hid (S3.out.step hb)
     clear hb
     go_wp2_with fail
     refine (reached_v HZ.out rfl (by omega) H6.out (S4.out.rows (.tail _ (.head _)))).mono ?_
     rintro e w5 ⟨AR, cR, rfl, hat, hcap, hb⟩
     have S5 := Lib.hid ((S4.out.step hb).addI (A := AR) (l := z) hat)
     have CPAR := Lib.hid hcap
     clear hb hat hcap
     go_wp2_with fail
     go_loopw [7, 9] (fun v i wr => ∃ k : Nat, i = .int .i64 (k : Int) ∧ v = .bool (decide (c ∈ z.take k)) ∧ k ≤ z.length ∧ Below w5.heap.size w5 wr) (fun _ i _ => z.length - (Go.RowKit.intOf i).toNat)
     case atStart => exact ⟨0, rfl, by simp, Nat.zero_le _, Below.refl _ _⟩
     case round =>
      obtain ⟨k, rfl, rfl, hk, hbw⟩ := hrel
      have SR := Lib.hid (S5.out.step hbw)
      have HBW := Lib.hid hbw
      clear hbw
      by_cases hlt : k < z.length
      ·obtain ⟨y, hyk⟩ := some_at hlt
       have hki : (0 : Int) ≤ (k : Int) := by omega
       have hkl : (k : Int) < (z.length : Int) := by omega
       obtain ⟨b0, o0, hAe, hb0, e0⟩ := (SR.out.ints (.head _)) k (.int .i64 y) (by unfold ivs; rw [List.getElem?_map, hyk]; rfl)
       subst hAe
       have hmt := mem_take_step (c := c) hyk
       have HMT := Lib.hid hmt
       clear hmt
       obtain ⟨v, hv⟩ : ∃ v, decide (c ∈ z.take k) = v := ⟨_, rfl⟩
       rw [hv] at HMT ⊢
       have HB0 := Lib.hid hb0
       have HE0 := Lib.hid e0
       clear hv
       obtain ⟨v2, hv2⟩ : ∃ v2, (v || (y == c)) = v2 := ⟨_, rfl⟩
       rw [hv2] at HMT
       by_cases hk0 : 0 < k
       ·have hk0i : (0 : Int) < (k : Int) := by omega
        obtain ⟨j, hj⟩ : ∃ j, k = j + 1 := ⟨k - 1, by omega⟩
        have hwj : IntKind.i64.wrap ((k : Int) - 1) = (j : Int) := by rw [show (k : Int) - 1 = (j : Int) by omega]; exact IntWalk.i64_in _ (by omega)
        obtain ⟨y1, hyj⟩ := some_at (show j < z.length by omega)
        obtain ⟨b1, o1, hAe1, hb1, e1⟩ := ((SR.out.ints (.head _))) j (.int .i64 y1) (by unfold ivs; rw [List.getElem?_map, hyj]; rfl)
        cases hAe1
        have hji : (0 : Int) ≤ (j : Int) := by omega
        have hjl : (j : Int) < (z.length : Int) := by omega
        have hyy : y1 < y := by
         obtain ⟨h1, h2⟩ := List.getElem?_eq_some_iff.1 hyj
         obtain ⟨h3, h4⟩ := List.getElem?_eq_some_iff.1 hyk
         rw [← h2, ← h4]
         exact List.pairwise_iff_getElem.1 HZS.out j k h1 h3 (by omega)
        have hge : ¬ y ≤ y1 := by omega
        have hge2 : decide (y ≤ y1) = false := decide_eq_false hge
        have HE1 := Lib.hid e1
        clear hj hyj hyy e1 hb1
        cases v with
        | false =>
         rw [Bool.false_or] at hv2
         go_wp2_with fail
         refine quiet_held (fun w' => Below wr.heap.size wr w') (by kernel_rfl) (by kernel_rfl) (Below.refl _ _).drew ?_
         repeat (first
          | go_big_quiet_skip
          | (go_big_quiet_want; go_big_quiet_op; go_big_quiet_on)
          | (go_big_quiet_want; apply Exists.intro; refine ⟨fun wq hq => ?_, ?_⟩; (focus (have z0 := (hq.cell (p := ⟨b0, o0 + k, none⟩) HB0.out).trans HE0.out; have z1 := (hq.cell (p := ⟨b0, o0 + j, none⟩) HB0.out).trans HE1.out; unfold Oper.quietAt; go_simp; all_goals (first | rfl | exact ⟨rfl, rfl⟩ | skip))); simp only [Act.put, List.setIfInBounds_toArray, List.set_cons_zero, List.set_cons_succ]; go_big_quiet_on))
         refine wpQuiet_nil ?_
         intro w6 hb
         have S6 := Lib.hid (SR.out.step hb)
         have HBQ := Lib.hid (HBW.out.trans (hb.mono HBW.out.size))
         clear hb
         go_wp2_with fail
         go_roundw
         case rel => exact ⟨k + 1, by go_num, by rw [HMT.out], by omega, HBQ.out⟩
         case measure => simp only [Go.RowKit.intOf]; omega
        | true =>
         rw [Bool.true_or] at hv2
         subst hv2
         go_wp2_with fail
         refine quiet_held (fun w' => Below wr.heap.size wr w') (by kernel_rfl) (by kernel_rfl) (Below.refl _ _).drew ?_
         repeat (first
          | go_big_quiet_skip
          | (go_big_quiet_want; go_big_quiet_op; go_big_quiet_on)
          | (go_big_quiet_want; apply Exists.intro; refine ⟨fun wq hq => ?_, ?_⟩; (focus (have z0 := (hq.cell (p := ⟨b0, o0 + k, none⟩) HB0.out).trans HE0.out; have z1 := (hq.cell (p := ⟨b0, o0 + j, none⟩) HB0.out).trans HE1.out; unfold Oper.quietAt; go_simp; all_goals (first | rfl | exact ⟨rfl, rfl⟩ | skip))); simp only [Act.put, List.setIfInBounds_toArray, List.set_cons_zero, List.set_cons_succ]; go_big_quiet_on))
         refine wpQuiet_nil ?_
         intro w6 hb
         have S6 := Lib.hid (SR.out.step hb)
         have HBQ := Lib.hid (HBW.out.trans (hb.mono HBW.out.size))
         clear hb
         go_wp2_with fail
         go_roundw
         case rel => exact ⟨k + 1, by go_num, by rw [HMT.out], by omega, HBQ.out⟩
         case measure => simp only [Go.RowKit.intOf]; omega
       ·have hk0i : ¬ (0 : Int) < (k : Int) := by omega
        cases v with
        | false =>
         rw [Bool.false_or] at hv2
         go_wp2_with fail
         refine quiet_held (fun w' => Below wr.heap.size wr w') (by kernel_rfl) (by kernel_rfl) (Below.refl _ _).drew ?_
         repeat (first
          | go_big_quiet_skip
          | (go_big_quiet_want; go_big_quiet_op; go_big_quiet_on)
          | (go_big_quiet_want; apply Exists.intro; refine ⟨fun wq hq => ?_, ?_⟩; (focus (have z0 := (hq.cell (p := ⟨b0, o0 + k, none⟩) HB0.out).trans HE0.out; unfold Oper.quietAt; go_simp; all_goals (first | rfl | exact ⟨rfl, rfl⟩ | skip))); simp only [Act.put, List.setIfInBounds_toArray, List.set_cons_zero, List.set_cons_succ]; go_big_quiet_on))
         refine wpQuiet_nil ?_
         intro w6 hb
         have S6 := Lib.hid (SR.out.step hb)
         have HBQ := Lib.hid (HBW.out.trans (hb.mono HBW.out.size))
         clear hb
         go_wp2_with fail
         go_roundw
         case rel => exact ⟨k + 1, by go_num, by rw [HMT.out], by omega, HBQ.out⟩
         case measure => simp only [Go.RowKit.intOf]; omega
        | true =>
         rw [Bool.true_or] at hv2
         subst hv2
         go_wp2_with fail
         refine quiet_held (fun w' => Below wr.heap.size wr w') (by kernel_rfl) (by kernel_rfl) (Below.refl _ _).drew ?_
         repeat (first
          | go_big_quiet_skip
          | (go_big_quiet_want; go_big_quiet_op; go_big_quiet_on)
          | (go_big_quiet_want; apply Exists.intro; refine ⟨fun wq hq => ?_, ?_⟩; (focus (have z0 := (hq.cell (p := ⟨b0, o0 + k, none⟩) HB0.out).trans HE0.out; unfold Oper.quietAt; go_simp; all_goals (first | rfl | exact ⟨rfl, rfl⟩ | skip))); simp only [Act.put, List.setIfInBounds_toArray, List.set_cons_zero, List.set_cons_succ]; go_big_quiet_on))
         refine wpQuiet_nil ?_
         intro w6 hb
         have S6 := Lib.hid (SR.out.step hb)
         have HBQ := Lib.hid (HBW.out.trans (hb.mono HBW.out.size))
         clear hb
         go_wp2_with fail
         go_roundw
         case rel => exact ⟨k + 1, by go_num, by rw [HMT.out], by omega, HBQ.out⟩
         case measure => simp only [Go.RowKit.intOf]; omega
      ·obtain rfl : k = z.length := by omega
       rw [List.take_length]
       clear hlt hk
       cases hs : (fnd l c).isSome with
       | false =>
        have ham : decide (c ∈ z) = false := by rw [HAM.out, hs]; rfl
        rw [ham]
        clear ham
        go_wp2_with fail
        refine (find_v (v := .agg #[.int .i64 (ch x), .int .i64 (pa x), .string (ba (nm x)), .float .f64 (rk x)]) (x := false) (by rw [HX.out]; rfl) hs hmx (SR.out.rows (.tail _ (.tail _ (.head _))))).mono ?_
        rintro e w6 ⟨rfl, hb⟩
        have S6 := Lib.hid (SR.out.step hb)
        clear hb
        obtain ⟨w7, hw⟩ : ∃ w7, w7 = w6.alloc (.cells #[.int .i64 (ch x), .int .i64 (pa x), .string (ba (nm x)), .float .f64 (rk x)] 28) := ⟨_, rfl⟩
        have hb : Below w6.heap.size w6 w7 := by rw [hw]; exact (Below.refl _ _).alloc (Nat.le_refl _) _
        have S7 := Lib.hid ((S6.out.step hb).addB (g := w6.heap.size) (t := 28) (vs := [.int .i64 (ch x), .int .i64 (pa x), .string (ba (nm x)), .float .f64 (rk x)]) (by rw [hw]; exact is_new w6 28 _))
        have HW7 := Lib.hid hw
        clear hw hb
        clear hs
        go_wp2_with fail
        rw [← HW7.out]
        go_loopw [12] (fun i wr => ∃ k : Nat, i = .int .i64 (k : Int) ∧ k ≤ q.length ∧ Below w7.heap.size w7 wr) (fun i _ => q.length - (Go.RowKit.intOf i).toNat)
        case atStart => exact ⟨0, rfl, Nat.zero_le _, Below.refl _ _⟩
        case round =>
         rename World => wq2
         obtain ⟨k, rfl, hk, hbw⟩ := hrel
         have SR2 := Lib.hid (S7.out.step hbw)
         have HBW2 := Lib.hid hbw
         clear hbw
         by_cases hlt : k < q.length
         ·obtain ⟨y, hyk⟩ := some_at hlt
          have hki : (0 : Int) ≤ (k : Int) := by omega
          have hkl : (k : Int) < (q.length : Int) := by omega
          obtain ⟨b5, o5, hAe, hb5, e5⟩ := (SR2.out.ints (.tail _ (.tail _ (.head _)))) k (.int .i64 y) (by unfold ivs; rw [List.getElem?_map, hyk]; rfl)
          subst hAe
          have HYK := Lib.hid hyk
          have HB5 := Lib.hid hb5
          clear hyk hb5
          by_cases hk0 : k = 0
          ·subst hk0
           have hyc : y = c := by
            have h1 := HYK.out
            rw [path_zero HW.out] at h1
            exact (Option.some.inj h1).symm
           have hye : (y == c) = true := by simpa using hyc
           clear hyc
           rw [Nat.add_zero] at e5
           go_wp2_with fail
           go_roundw
           case rel => exact ⟨1, by go_num, by omega, HBW2.out⟩
           case measure => simp only [Go.RowKit.intOf]; omega
          ·obtain ⟨j, hj⟩ : ∃ j, k = j + 1 := ⟨k - 1, by omega⟩
           have hyc : y ≠ c := fun e => by
            have h0 : q[0]? = some c := path_zero HW.out
            have h1 := HYK.out
            rw [e] at h1
            have hnd := pathC_nodup HW.out
            obtain ⟨g1, g2⟩ := List.getElem?_eq_some_iff.1 h0
            obtain ⟨g3, g4⟩ := List.getElem?_eq_some_iff.1 h1
            exact (List.pairwise_iff_getElem.1 hnd 0 k g1 g3 (by omega)) (g2.trans g4.symm)
           have hye : (y == c) = false := by simpa using hyc
           have hkz : ((k : Int) == 0) = false := by rw [beq_eq_false_iff_ne]; omega
           have hkp : (0 : Int) < (k : Int) := by omega
           have hab : abv l y l.length c = true := by
            have h1 := HYK.out
            rw [hj] at h1
            rw [← abvB_eq]
            exact path_above HW.out h1
           have HAB := Lib.hid hab
           obtain ⟨y1, hyj⟩ := some_at (show j < q.length by omega)
           have hnx := path_next HW.out j y1 y hyj (by rw [← hj]; exact HYK.out)
           obtain ⟨ks, hks⟩ : ∃ ks, kidsR l y = ks := ⟨_, rfl⟩
           have hin : decide (y1 ∈ ks.map ch) = true := by
            obtain ⟨r, h1, h2⟩ := kid_of hnx
            rw [← hks, decide_eq_true_eq]
            exact List.mem_map.2 ⟨r, h1, h2⟩
           have hkl2 : ks.length ≤ l.length := by rw [← hks]; exact kidsR_le l y
           have HIN := Lib.hid hin
           have HKS := Lib.hid hks
           have HYJ := Lib.hid hyj
           have hwj : IntKind.i64.wrap ((k : Int) - 1) = (j : Int) := by rw [show (k : Int) - 1 = (j : Int) by omega]; exact IntWalk.i64_in _ (by omega)
           have hji : (0 : Int) ≤ (j : Int) := by omega
           have hjl : (j : Int) < (q.length : Int) := by omega
           have HJ := Lib.hid hj
           clear hyc hab hnx hin hks hyj hj
           go_wp2_with fail
           refine (above_v HAB.out hl5 (SR2.out.rows (.tail _ (.tail _ (.tail _ (.head _)))))).mono ?_
           rintro e w8 ⟨rfl, hb⟩
           have S8 := Lib.hid (SR2.out.step hb)
           have HBA := Lib.hid hb
           clear hb
           skip
           obtain ⟨b6, o6, hAe6, hb6, e6⟩ := (S8.out.ints (.tail _ (.tail _ (.head _)))) k (.int .i64 y) (by unfold ivs; rw [List.getElem?_map, HYK.out]; rfl)
           cases hAe6
           go_wp2_with fail
           refine (kids_v HKS.out rfl (show l.length ≤ 10000 by omega) HS6.out (S8.out.rows (.tail _ (.tail _ (.tail _ (.head _)))))).mono ?_
           rintro e w9 ⟨AK, cK, rfl, hat, hcap, hb⟩
           have S9 := Lib.hid ((S8.out.step hb).addR (A := AK) (l := ks) hat)
           have HBK := Lib.hid hb
           clear hb hat hcap
           have HB23 := Lib.hid (HBA.out.trans (HBK.out.mono HBA.out.size))
           clear e5 e6 hb6
           go_wp2_with fail
           go_loopw [13, 15] (fun v i wr => ∃ n : Nat, i = .int .i64 (n : Int) ∧ v = .bool (decide (y1 ∈ (ks.take n).map ch)) ∧ n ≤ ks.length ∧ Below w9.heap.size w9 wr) (fun _ i _ => ks.length - (Go.RowKit.intOf i).toNat)
           case atStart => exact ⟨0, rfl, by simp, Nat.zero_le _, Below.refl _ _⟩
           case round =>
            rename World => wq3
            obtain ⟨n, rfl, rfl, hn, hbw⟩ := hrel
            have SR3 := Lib.hid (S9.out.step hbw)
            have HBW3 := Lib.hid hbw
            clear hbw
            by_cases hln : n < ks.length
            ·obtain ⟨r, hr⟩ := some_at hln
             have hni : (0 : Int) ≤ (n : Int) := by omega
             have hnl : (n : Int) < (ks.length : Int) := by omega
             obtain ⟨b7, o7, hAe7, hb7, c0, c1, c2, c3⟩ := row_cells (SR3.out.rows (.head _)) hr
             subst hAe7
             obtain ⟨b8, o8, hAe8, hb8, e8⟩ := (SR3.out.ints (.tail _ (.tail _ (.tail _ (.head _))))) j (.int .i64 y1) (by unfold ivs; rw [List.getElem?_map, HYJ.out]; rfl)
             cases hAe8
             have HMT := Lib.hid (mem_kids_step (c := y1) hr)
             have HC7 := Lib.hid (And.intro hb7 c0)
             have HC8 := Lib.hid (And.intro hb8 e8)
             clear c0 c1 c2 c3 e8 hb7 hb8 hr
             obtain ⟨v, hv⟩ : ∃ v, decide (y1 ∈ (ks.take n).map ch) = v := ⟨_, rfl⟩
             rw [hv] at HMT ⊢
             clear hv
             obtain ⟨v2, hv2⟩ : ∃ v2, (v || (ch r == y1)) = v2 := ⟨_, rfl⟩
             rw [hv2] at HMT
             cases v with
             | false =>
              rw [Bool.false_or] at hv2
              go_wp2_with fail
              refine quiet_held (fun w' => Below wq3.heap.size wq3 w') (by kernel_rfl) (by kernel_rfl) (Below.refl _ _).drew ?_
              repeat (first
               | go_big_quiet_skip
               | (go_big_quiet_want; go_big_quiet_op; go_big_quiet_on)
               | (go_big_quiet_want; apply Exists.intro; refine ⟨fun wq hq => ?_, ?_⟩; (focus (have z0 := (hq.cell (p := ⟨b7, o7 + n * 4, none⟩) HC7.out.1).trans HC7.out.2; have z1 := (hq.cell (p := ⟨b5, o5 + j, none⟩) HC8.out.1).trans HC8.out.2; unfold Oper.quietAt; go_simp; all_goals (first | rfl | exact ⟨rfl, rfl⟩ | skip))); simp only [Act.put, List.setIfInBounds_toArray, List.set_cons_zero, List.set_cons_succ]; go_big_quiet_on))
              refine wpQuiet_nil ?_
              intro w10 hb
              have S10 := Lib.hid (SR3.out.step hb)
              have HBQ := Lib.hid (HBW3.out.trans (hb.mono HBW3.out.size))
              clear hb
              go_wp2_with fail
              go_roundw
              case rel => exact ⟨n + 1, by go_num, by rw [HMT.out], by omega, HBQ.out⟩
              case measure => simp only [Go.RowKit.intOf]; omega
             | true =>
              rw [Bool.true_or] at hv2
              subst hv2
              go_wp2_with fail
              refine quiet_held (fun w' => Below wq3.heap.size wq3 w') (by kernel_rfl) (by kernel_rfl) (Below.refl _ _).drew ?_
              repeat (first
               | go_big_quiet_skip
               | (go_big_quiet_want; go_big_quiet_op; go_big_quiet_on)
               | (go_big_quiet_want; apply Exists.intro; refine ⟨fun wq hq => ?_, ?_⟩; (focus (have z0 := (hq.cell (p := ⟨b7, o7 + n * 4, none⟩) HC7.out.1).trans HC7.out.2; have z1 := (hq.cell (p := ⟨b5, o5 + j, none⟩) HC8.out.1).trans HC8.out.2; unfold Oper.quietAt; go_simp; all_goals (first | rfl | exact ⟨rfl, rfl⟩ | skip))); simp only [Act.put, List.setIfInBounds_toArray, List.set_cons_zero, List.set_cons_succ]; go_big_quiet_on))
              refine wpQuiet_nil ?_
              intro w10 hb
              have S10 := Lib.hid (SR3.out.step hb)
              have HBQ := Lib.hid (HBW3.out.trans (hb.mono HBW3.out.size))
              clear hb
              go_wp2_with fail
              go_roundw
              case rel => exact ⟨n + 1, by go_num, by rw [HMT.out], by omega, HBQ.out⟩
              case measure => simp only [Go.RowKit.intOf]; omega
            ·obtain rfl : n = ks.length := by omega
             rw [List.take_length, HIN.out]
             go_wp2_with fail
             go_roundw
             case rel => exact ⟨k + 1, by go_num, by omega, HBW2.out.trans (HB23.out.trans (HBW3.out.mono HB23.out.size) |>.mono HBW2.out.size)⟩
             case measure => simp only [Go.RowKit.intOf]; omega
         ·obtain rfl : k = q.length := by omega
          obtain ⟨n0, hn0⟩ : ∃ n0, q.length = n0 + 1 := ⟨q.length - 1, by omega⟩
          have hwn : IntKind.i64.wrap ((q.length : Int) - 1) = (n0 : Int) := by rw [show (q.length : Int) - 1 = (n0 : Int) by omega]; exact IntWalk.i64_in _ (by omega)
          have hlast : q[n0]? = some 0 := by
           have h := path_last HW.out
           rw [List.getLast?_eq_getElem?, hn0] at h
           exact h
          obtain ⟨b9, o9, hAe9, hb9, e9⟩ := (SR2.out.ints (.tail _ (.tail _ (.head _)))) n0 (.int .i64 0) (by unfold ivs; rw [List.getElem?_map, hlast]; rfl)
          subst hAe9
          have hni : (0 : Int) ≤ (n0 : Int) := by omega
          have hnl : (n0 : Int) < (q.length : Int) := by omega
          clear hn0 hlast hb9
          go_wp2_with fail
          refine (live12_c _).mono ?_
          rintro e w8 ⟨rfl, hb⟩
          have S8 := Lib.hid (SR2.out.step hb)
          clear hb
          go_wp2_with fail
          go_ret
          exact ⟨rfl, S8.out.bel⟩
       | true =>
        have ham : decide (c ∈ z) = true := by rw [HAM.out, hs]; rfl
        rw [ham]
        clear ham
        go_wp2_with fail
        refine (find_v (v := .agg #[.int .i64 (ch x), .int .i64 (pa x), .string (ba (nm x)), .float .f64 (rk x)]) (x := true) (by rw [HX.out]; rfl) hs hmx (SR.out.rows (.tail _ (.tail _ (.head _))))).mono ?_
        rintro e w6 ⟨rfl, hb⟩
        have S6 := Lib.hid (SR.out.step hb)
        clear hb
        obtain ⟨w7, hw⟩ : ∃ w7, w7 = w6.alloc (.cells #[.int .i64 (ch x), .int .i64 (pa x), .string (ba (nm x)), .float .f64 (rk x)] 28) := ⟨_, rfl⟩
        have hb : Below w6.heap.size w6 w7 := by rw [hw]; exact (Below.refl _ _).alloc (Nat.le_refl _) _
        have S7 := Lib.hid ((S6.out.step hb).addB (g := w6.heap.size) (t := 28) (vs := [.int .i64 (ch x), .int .i64 (pa x), .string (ba (nm x)), .float .f64 (rk x)]) (by rw [hw]; exact is_new w6 28 _))
        have HW7 := Lib.hid hw
        clear hw hb
        clear hs
        go_wp2_with fail
        rw [← HW7.out]
        go_loopw [12] (fun i wr => ∃ k : Nat, i = .int .i64 (k : Int) ∧ k ≤ q.length ∧ Below w7.heap.size w7 wr) (fun i _ => q.length - (Go.RowKit.intOf i).toNat)
        case atStart => exact ⟨0, rfl, Nat.zero_le _, Below.refl _ _⟩
        case round =>
         rename World => wq2
         obtain ⟨k, rfl, hk, hbw⟩ := hrel
         have SR2 := Lib.hid (S7.out.step hbw)
         have HBW2 := Lib.hid hbw
         clear hbw
         by_cases hlt : k < q.length
         ·obtain ⟨y, hyk⟩ := some_at hlt
          have hki : (0 : Int) ≤ (k : Int) := by omega
          have hkl : (k : Int) < (q.length : Int) := by omega
          obtain ⟨b5, o5, hAe, hb5, e5⟩ := (SR2.out.ints (.tail _ (.tail _ (.head _)))) k (.int .i64 y) (by unfold ivs; rw [List.getElem?_map, hyk]; rfl)
          subst hAe
          have HYK := Lib.hid hyk
          have HB5 := Lib.hid hb5
          clear hyk hb5
          by_cases hk0 : k = 0
          ·subst hk0
           have hyc : y = c := by
            have h1 := HYK.out
            rw [path_zero HW.out] at h1
            exact (Option.some.inj h1).symm
           have hye : (y == c) = true := by simpa using hyc
           clear hyc
           rw [Nat.add_zero] at e5
           go_wp2_with fail
           go_roundw
           case rel => exact ⟨1, by go_num, by omega, HBW2.out⟩
           case measure => simp only [Go.RowKit.intOf]; omega
          ·obtain ⟨j, hj⟩ : ∃ j, k = j + 1 := ⟨k - 1, by omega⟩
           have hyc : y ≠ c := fun e => by
            have h0 : q[0]? = some c := path_zero HW.out
            have h1 := HYK.out
            rw [e] at h1
            have hnd := pathC_nodup HW.out
            obtain ⟨g1, g2⟩ := List.getElem?_eq_some_iff.1 h0
            obtain ⟨g3, g4⟩ := List.getElem?_eq_some_iff.1 h1
            exact (List.pairwise_iff_getElem.1 hnd 0 k g1 g3 (by omega)) (g2.trans g4.symm)
           have hye : (y == c) = false := by simpa using hyc
           have hkz : ((k : Int) == 0) = false := by rw [beq_eq_false_iff_ne]; omega
           have hkp : (0 : Int) < (k : Int) := by omega
           have hab : abv l y l.length c = true := by
            have h1 := HYK.out
            rw [hj] at h1
            rw [← abvB_eq]
            exact path_above HW.out h1
           have HAB := Lib.hid hab
           obtain ⟨y1, hyj⟩ := some_at (show j < q.length by omega)
           have hnx := path_next HW.out j y1 y hyj (by rw [← hj]; exact HYK.out)
           obtain ⟨ks, hks⟩ : ∃ ks, kidsR l y = ks := ⟨_, rfl⟩
           have hin : decide (y1 ∈ ks.map ch) = true := by
            obtain ⟨r, h1, h2⟩ := kid_of hnx
            rw [← hks, decide_eq_true_eq]
            exact List.mem_map.2 ⟨r, h1, h2⟩
           have hkl2 : ks.length ≤ l.length := by rw [← hks]; exact kidsR_le l y
           have HIN := Lib.hid hin
           have HKS := Lib.hid hks
           have HYJ := Lib.hid hyj
           have hwj : IntKind.i64.wrap ((k : Int) - 1) = (j : Int) := by rw [show (k : Int) - 1 = (j : Int) by omega]; exact IntWalk.i64_in _ (by omega)
           have hji : (0 : Int) ≤ (j : Int) := by omega
           have hjl : (j : Int) < (q.length : Int) := by omega
           have HJ := Lib.hid hj
           clear hyc hab hnx hin hks hyj hj
           go_wp2_with fail
           refine (above_v HAB.out hl5 (SR2.out.rows (.tail _ (.tail _ (.tail _ (.head _)))))).mono ?_
           rintro e w8 ⟨rfl, hb⟩
           have S8 := Lib.hid (SR2.out.step hb)
           have HBA := Lib.hid hb
           clear hb
           skip
           obtain ⟨b6, o6, hAe6, hb6, e6⟩ := (S8.out.ints (.tail _ (.tail _ (.head _)))) k (.int .i64 y) (by unfold ivs; rw [List.getElem?_map, HYK.out]; rfl)
           cases hAe6
           go_wp2_with fail
           refine (kids_v HKS.out rfl (show l.length ≤ 10000 by omega) HS6.out (S8.out.rows (.tail _ (.tail _ (.tail _ (.head _)))))).mono ?_
           rintro e w9 ⟨AK, cK, rfl, hat, hcap, hb⟩
           have S9 := Lib.hid ((S8.out.step hb).addR (A := AK) (l := ks) hat)
           have HBK := Lib.hid hb
           clear hb hat hcap
           have HB23 := Lib.hid (HBA.out.trans (HBK.out.mono HBA.out.size))
           clear e5 e6 hb6
           go_wp2_with fail
           go_loopw [13, 15] (fun v i wr => ∃ n : Nat, i = .int .i64 (n : Int) ∧ v = .bool (decide (y1 ∈ (ks.take n).map ch)) ∧ n ≤ ks.length ∧ Below w9.heap.size w9 wr) (fun _ i _ => ks.length - (Go.RowKit.intOf i).toNat)
           case atStart => exact ⟨0, rfl, by simp, Nat.zero_le _, Below.refl _ _⟩
           case round =>
            rename World => wq3
            obtain ⟨n, rfl, rfl, hn, hbw⟩ := hrel
            have SR3 := Lib.hid (S9.out.step hbw)
            have HBW3 := Lib.hid hbw
            clear hbw
            by_cases hln : n < ks.length
            ·obtain ⟨r, hr⟩ := some_at hln
             have hni : (0 : Int) ≤ (n : Int) := by omega
             have hnl : (n : Int) < (ks.length : Int) := by omega
             obtain ⟨b7, o7, hAe7, hb7, c0, c1, c2, c3⟩ := row_cells (SR3.out.rows (.head _)) hr
             subst hAe7
             obtain ⟨b8, o8, hAe8, hb8, e8⟩ := (SR3.out.ints (.tail _ (.tail _ (.tail _ (.head _))))) j (.int .i64 y1) (by unfold ivs; rw [List.getElem?_map, HYJ.out]; rfl)
             cases hAe8
             have HMT := Lib.hid (mem_kids_step (c := y1) hr)
             have HC7 := Lib.hid (And.intro hb7 c0)
             have HC8 := Lib.hid (And.intro hb8 e8)
             clear c0 c1 c2 c3 e8 hb7 hb8 hr
             obtain ⟨v, hv⟩ : ∃ v, decide (y1 ∈ (ks.take n).map ch) = v := ⟨_, rfl⟩
             rw [hv] at HMT ⊢
             clear hv
             obtain ⟨v2, hv2⟩ : ∃ v2, (v || (ch r == y1)) = v2 := ⟨_, rfl⟩
             rw [hv2] at HMT
             cases v with
             | false =>
              rw [Bool.false_or] at hv2
              go_wp2_with fail
              refine quiet_held (fun w' => Below wq3.heap.size wq3 w') (by kernel_rfl) (by kernel_rfl) (Below.refl _ _).drew ?_
              repeat (first
               | go_big_quiet_skip
               | (go_big_quiet_want; go_big_quiet_op; go_big_quiet_on)
               | (go_big_quiet_want; apply Exists.intro; refine ⟨fun wq hq => ?_, ?_⟩; (focus (have z0 := (hq.cell (p := ⟨b7, o7 + n * 4, none⟩) HC7.out.1).trans HC7.out.2; have z1 := (hq.cell (p := ⟨b5, o5 + j, none⟩) HC8.out.1).trans HC8.out.2; unfold Oper.quietAt; go_simp; all_goals (first | rfl | exact ⟨rfl, rfl⟩ | skip))); simp only [Act.put, List.setIfInBounds_toArray, List.set_cons_zero, List.set_cons_succ]; go_big_quiet_on))
              refine wpQuiet_nil ?_
              intro w10 hb
              have S10 := Lib.hid (SR3.out.step hb)
              have HBQ := Lib.hid (HBW3.out.trans (hb.mono HBW3.out.size))
              clear hb
              go_wp2_with fail
              go_roundw
              case rel => exact ⟨n + 1, by go_num, by rw [HMT.out], by omega, HBQ.out⟩
              case measure => simp only [Go.RowKit.intOf]; omega
             | true =>
              rw [Bool.true_or] at hv2
              subst hv2
              go_wp2_with fail
              refine quiet_held (fun w' => Below wq3.heap.size wq3 w') (by kernel_rfl) (by kernel_rfl) (Below.refl _ _).drew ?_
              repeat (first
               | go_big_quiet_skip
               | (go_big_quiet_want; go_big_quiet_op; go_big_quiet_on)
               | (go_big_quiet_want; apply Exists.intro; refine ⟨fun wq hq => ?_, ?_⟩; (focus (have z0 := (hq.cell (p := ⟨b7, o7 + n * 4, none⟩) HC7.out.1).trans HC7.out.2; have z1 := (hq.cell (p := ⟨b5, o5 + j, none⟩) HC8.out.1).trans HC8.out.2; unfold Oper.quietAt; go_simp; all_goals (first | rfl | exact ⟨rfl, rfl⟩ | skip))); simp only [Act.put, List.setIfInBounds_toArray, List.set_cons_zero, List.set_cons_succ]; go_big_quiet_on))
              refine wpQuiet_nil ?_
              intro w10 hb
              have S10 := Lib.hid (SR3.out.step hb)
              have HBQ := Lib.hid (HBW3.out.trans (hb.mono HBW3.out.size))
              clear hb
              go_wp2_with fail
              go_roundw
              case rel => exact ⟨n + 1, by go_num, by rw [HMT.out], by omega, HBQ.out⟩
              case measure => simp only [Go.RowKit.intOf]; omega
            ·obtain rfl : n = ks.length := by omega
             rw [List.take_length, HIN.out]
             go_wp2_with fail
             go_roundw
             case rel => exact ⟨k + 1, by go_num, by omega, HBW2.out.trans (HB23.out.trans (HBW3.out.mono HB23.out.size) |>.mono HBW2.out.size)⟩
             case measure => simp only [Go.RowKit.intOf]; omega
         ·obtain rfl : k = q.length := by omega
          obtain ⟨n0, hn0⟩ : ∃ n0, q.length = n0 + 1 := ⟨q.length - 1, by omega⟩
          have hwn : IntKind.i64.wrap ((q.length : Int) - 1) = (n0 : Int) := by rw [show (q.length : Int) - 1 = (n0 : Int) by omega]; exact IntWalk.i64_in _ (by omega)
          have hlast : q[n0]? = some 0 := by
           have h := path_last HW.out
           rw [List.getLast?_eq_getElem?, hn0] at h
           exact h
          obtain ⟨b9, o9, hAe9, hb9, e9⟩ := (SR2.out.ints (.tail _ (.tail _ (.head _)))) n0 (.int .i64 0) (by unfold ivs; rw [List.getElem?_map, hlast]; rfl)
          subst hAe9
          have hni : (0 : Int) ≤ (n0 : Int) := by omega
          have hnl : (n0 : Int) < (q.length : Int) := by omega
          clear hn0 hlast hb9
          go_wp2_with fail
          refine (live12_c _).mono ?_
          rintro e w8 ⟨rfl, hb⟩
          have S8 := Lib.hid (SR2.out.step hb)
          clear hb
          go_wp2_with fail
          go_ret
          exact ⟨rfl, S8.out.bel⟩
end treePaths
end Go.Proofs.YtkobmnbjeppnaaaGreat
