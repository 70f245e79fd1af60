/-
 A move that is inserted: the document's.
-/
import Derived.Test.YthhckdjagnlgpaaGreatHj
import Derived.Test.YthhckdjagnlgpaaGreatHf
import Derived.Test.YthhckdjagnlgpaaGreatUf
namespace Go.Proofs.YthhckdjagnlgpaaGreat
open Go.RowKit Go.IntWalk
open Wd Fl
set_option maxRecDepth 100000
attribute [local go_sem] Oper.semAt_some
theorem insM_found {l : List Mv} {m x : Mv} {j : Nat} (hx : l[j]? = some x) (ht : timeEq x m = true) (hno : ∀ y ∈ l.take j, timeEq y m = false) : insM l m = (l, j, false) := by
 have hj := (List.getElem?_eq_some_iff.1 hx).1
 have hx2 := (List.getElem?_eq_some_iff.1 hx).2
 have : l.findIdx? (fun x => timeEq x m) = some j := by
  rw [List.findIdx?_eq_some_iff_getElem]
  refine ⟨hj, by rw [hx2]; exact ht, fun i hi => ?_⟩
  have := hno l[i] (by rw [List.mem_take_iff_getElem]; exact ⟨i, by omega, rfl⟩)
  simp [this]
 unfold insM
 rw [this]
theorem insM_stop {l : List Mv} {m : Mv} {j : Nat} (hj : j ≤ l.length) (h0 : ∀ y ∈ l, timeEq y m = false) (hlo : ∀ y ∈ l.take j, bm m y = false) (hs : j = l.length ∨ ∃ x, l[j]? = some x ∧ bm m x = true) : insM l m = (l.take j ++ m :: l.drop j, j, true) := by
 have e1 : l.findIdx? (fun x => timeEq x m) = none := List.findIdx?_eq_none_iff.2 (fun y hy => h0 y hy)
 unfold insM
 rw [e1]
 rcases hs with rfl | ⟨x, hx, hb⟩
 ·have e2 : l.findIdx? (fun x => bm m x) = none := List.findIdx?_eq_none_iff.2 (fun y hy => hlo y (by rw [List.take_length]; exact hy))
  rw [e2, List.take_length, List.drop_length]
 ·have hjl := (List.getElem?_eq_some_iff.1 hx).1
  have hx2 := (List.getElem?_eq_some_iff.1 hx).2
  have e2 : l.findIdx? (fun x => bm m x) = some j := by
   rw [List.findIdx?_eq_some_iff_getElem]
   refine ⟨hjl, by rw [hx2]; exact hb, fun i hi => ?_⟩
   have := hlo l[i] (by rw [List.mem_take_iff_getElem]; exact ⟨i, by omega, rfl⟩)
   simp [this]
  rw [e2]
theorem time_take {l : List Mv} {m x : Mv} {j : Nat} (hx : l[j]? = some x) (h : ∀ y ∈ l.take j, timeEq y m = false) (ht : timeEq x m = false) : ∀ y ∈ l.take (j + 1), timeEq y m = false := by
 intro y hy
 rw [List.take_add_one, hx, List.mem_append] at hy
 rcases hy with hy | hy
 ·exact h y hy
 ·simp at hy; rw [hy]; exact ht
theorem bm_take {l : List Mv} {m x : Mv} {j : Nat} (hx : l[j]? = some x) (h : ∀ y ∈ l.take j, bm m y = false) (ht : bm m x = false) : ∀ y ∈ l.take (j + 1), bm m y = false := by
 intro y hy
 rw [List.take_add_one, hx, List.mem_append] at hy
 rcases hy with hy | hy
 ·exact h y hy
 ·simp at hy; rw [hy]; exact ht
theorem time_no1 {x m : Mv} (h : ¬ mc x = mc m) : timeEq x m = false := by unfold timeEq; rw [decide_eq_false h, Bool.false_and]
theorem time_no2 {x m : Mv} (h : ¬ mr x = mr m) : timeEq x m = false := by unfold timeEq; rw [decide_eq_false h, Bool.and_false]
theorem rbm_k {m x : Mv} {b : Bool} (h : bm m x = b) (w : World) :
  Calls Tryz.prog 58 #[.agg #[.int .i64 (mc m), .int .i64 (mr m)], .agg #[.int .i64 (mc x), .int .i64 (mr x)]] w fun e w' => e = .returned (.bool b) ∧ Below w.heap.size w w' := by
 subst h
 exact rbef_c (mc m) (mr m) (mc x) (mr x) w
set_option maxHeartbeats 8000000 in
theorem rminsert_c (A : Option Addr) (cap : Nat) (l : List Mv) (m : Mv) (hl : l.length ≤ 100000) (hA : A = none → cap = 0) (hcap : l.length ≤ cap) (w : World) (hc : At w w.heap.size A (mvs l)) :
  Calls Tryz.prog 90 #[.slice A l.length cap, .agg #[.int .i64 (mc m), .int .i64 (mr m), .int .i64 (pa (mw m)), .int .i64 (ch (mw m)), .string (ba (nm (mw m))), .float .f64 (rk (mw m))]] w (InsEnd (insM l m) w) := by
 have hbx := (Below.refl w.heap.size w).alloc (Nat.le_refl _) (.cells #[.int .i64 (mc m), .int .i64 (mr m), .int .i64 (pa (mw m)), .int .i64 (ch (mw m)), .string (ba (nm (mw m))), .float .f64 (rk (mw m))] 57)
 have hI0 : Is (w.alloc (.cells #[.int .i64 (mc m), .int .i64 (mr m), .int .i64 (pa (mw m)), .int .i64 (ch (mw m)), .string (ba (nm (mw m))), .float .f64 (rk (mw m))] 57)) w.heap.size 57 [.int .i64 (mc m), .int .i64 (mr m), .int .i64 (pa (mw m)), .int .i64 (ch (mw m)), .string (ba (nm (mw m))), .float .f64 (rk (mw m))] := is_new w 57 [.int .i64 (mc m), .int .i64 (mr m), .int .i64 (pa (mw m)), .int .i64 (ch (mw m)), .string (ba (nm (mw m))), .float .f64 (rk (mw m))]
 have HI0 := Lib.hid hI0
 have HC := Lib.hid hc
 have HBX := Lib.hid hbx
 have HA := Lib.hid hA
 have HCAP := Lib.hid hcap
 clear hI0 hc hbx hA hcap
 go_enter Tryz.func90, Tryz.ntmps90
 go_wp2_with fail
 go_loopw [7] (fun i wr => ∃ j : Nat, i = .int .i64 (j : Int) ∧ j ≤ l.length ∧ (∀ y ∈ l.take j, timeEq y m = false) ∧ Is wr w.heap.size 57 [.int .i64 (mc m), .int .i64 (mr m), .int .i64 (pa (mw m)), .int .i64 (ch (mw m)), .string (ba (nm (mw m))), .float .f64 (rk (mw m))] ∧ Below w.heap.size w wr) (fun i _ => l.length - (intOf i).toNat)
 case atStart => exact ⟨0, rfl, Nat.zero_le _, fun y hy => by simp at hy, HI0.out, HBX.out⟩
 case round =>
  obtain ⟨j, rfl, hj, hno, hI, hbw⟩ := hrel
  have HNO := Lib.hid hno
  have HI := Lib.hid hI
  have HCW := Lib.hid (HC.out.keep hbw)
  clear hno hI
  by_cases hlt : j < l.length
  ·obtain ⟨x, hx⟩ := some_at hlt
   obtain ⟨b0, o0, rfl, -⟩ := move_cells HCW.out hx
   have hji : (j : Int) < (l.length : Int) := by omega
   have hj0 : (0 : Int) ≤ (j : Int) := by omega
   have HX := Lib.hid hx
   clear hx
   by_cases h1 : mc x = mc m
   case neg =>
    have HH1 := Lib.hid h1
    clear h1
    go_wp2_with fail
    refine quiet_held (fun w' => Below wr.heap.size wr w') (by kernel_rfl) (by kernel_rfl) (Below.refl _ _).drew ?_
    repeat (first
     | go_big_quiet_skip
     | (go_big_quiet_want; go_big_quiet_op; go_big_quiet_on)
     | (go_big_quiet_want; apply Exists.intro; refine ⟨fun wq hq => ?_, ?_⟩; (focus (obtain ⟨b9, o9, e9, -, d0, d1, d2, d3, d4, d5⟩ := move_cells (HCW.out.keep hq) HX.out; cases e9; obtain ⟨p0, p1, p2, p3, p4, p5⟩ := box6 (m := m) (is_below HI.out hq (is_lt HI.out)); unfold Oper.quietAt; go_simp; all_goals (first | rfl | (rw [if_neg HH1.out]; exact ⟨rfl, rfl⟩)))); simp only [Act.put, List.setIfInBounds_toArray, List.set_cons_zero, List.set_cons_succ]; go_big_quiet_on))
    refine wpQuiet_nil ?_
    intro w1 hbr
    have hbw1 := hbw.trans (hbr.mono hbw.size)
    have HI1 := Lib.hid (is_below HI.out hbr (is_lt HI.out))
    go_wp2_with fail
    go_roundw
    case rel => exact ⟨j + 1, by go_num, by omega, time_take HX.out HNO.out (time_no1 HH1.out), HI1.out, hbw1⟩
    case measure => simp only [intOf]; omega
   by_cases h2 : mr x = mr m
   case neg =>
    have HH1 := Lib.hid h1
    have HH2 := Lib.hid h2
    clear h1 h2
    go_wp2_with fail
    refine quiet_held (fun w' => Below wr.heap.size wr w') (by kernel_rfl) (by kernel_rfl) (Below.refl _ _).drew ?_
    repeat (first
     | go_big_quiet_skip
     | (go_big_quiet_want; go_big_quiet_op; go_big_quiet_on)
     | (go_big_quiet_want; apply Exists.intro; refine ⟨fun wq hq => ?_, ?_⟩; (focus (obtain ⟨b9, o9, e9, -, d0, d1, d2, d3, d4, d5⟩ := move_cells (HCW.out.keep hq) HX.out; cases e9; obtain ⟨p0, p1, p2, p3, p4, p5⟩ := box6 (m := m) (is_below HI.out hq (is_lt HI.out)); unfold Oper.quietAt; go_simp; all_goals (first | rfl | (rw [if_pos HH1.out, if_neg HH2.out]; exact ⟨rfl, rfl⟩)))); simp only [Act.put, List.setIfInBounds_toArray, List.set_cons_zero, List.set_cons_succ]; go_big_quiet_on))
    refine wpQuiet_nil ?_
    intro w1 hbr
    have hbw1 := hbw.trans (hbr.mono hbw.size)
    have HI1 := Lib.hid (is_below HI.out hbr (is_lt HI.out))
    go_wp2_with fail
    go_roundw
    case rel => exact ⟨j + 1, by go_num, by omega, time_take HX.out HNO.out (time_no2 HH2.out), HI1.out, hbw1⟩
    case measure => simp only [intOf]; omega
   have ht : timeEq x m = true := timeEq_iff.2 ⟨h1, h2⟩
   have HSS := Lib.hid (insM_found HX.out ht HNO.out)
   have HH1 := Lib.hid h1
   have HH2 := Lib.hid h2
   clear h1 h2 ht
   go_wp2_with fail
   refine quiet_held (fun w' => Below wr.heap.size wr w') (by kernel_rfl) (by kernel_rfl) (Below.refl _ _).drew ?_
   repeat (first
    | go_big_quiet_skip
    | (go_big_quiet_want; go_big_quiet_op; go_big_quiet_on)
    | (go_big_quiet_want; apply Exists.intro; refine ⟨fun wq hq => ?_, ?_⟩; (focus (obtain ⟨b9, o9, e9, -, d0, d1, d2, d3, d4, d5⟩ := move_cells (HCW.out.keep hq) HX.out; cases e9; obtain ⟨p0, p1, p2, p3, p4, p5⟩ := box6 (m := m) (is_below HI.out hq (is_lt HI.out)); unfold Oper.quietAt; go_simp; all_goals (first | rfl | (rw [if_pos HH1.out, if_pos HH2.out]; exact ⟨rfl, rfl⟩)))); simp only [Act.put, List.setIfInBounds_toArray, List.set_cons_zero, List.set_cons_succ]; go_big_quiet_on))
   refine wpQuiet_nil ?_
   intro w1 hbr
   have hbw1 := hbw.trans (hbr.mono hbw.size)
   go_wp2_with fail
   rw [HSS.out]
   refine bodyPost_ret (v := .tuple #[.slice (some ⟨b0, o0, none⟩) l.length cap, .int .i64 (j : Int), .bool false]) (by simp [results, Tryz.f90, go_sem]) rfl ?_
   exact ⟨some ⟨b0, o0, none⟩, cap, rfl, HC.out.keep hbw1, ⟨HA.out, fun h => absurd h (show ¬ (false = true) by decide)⟩, HCAP.out, hbw1⟩
  ·obtain rfl : j = l.length := by omega
   have h0 := HNO.out
   rw [List.take_length] at h0
   have HNT := Lib.hid h0
   have HI2 := Lib.hid HI.out
   have HBW2 := Lib.hid hbw
   clear h0 hlt HNO HI HCW hbw hj
   go_wp2_with fail
   rename World => vr
   go_loopw [8] (fun i wr => ∃ j : Nat, i = .int .i64 (j : Int) ∧ j ≤ l.length ∧ (∀ y ∈ l.take j, bm m y = false) ∧ Is wr w.heap.size 57 [.int .i64 (mc m), .int .i64 (mr m), .int .i64 (pa (mw m)), .int .i64 (ch (mw m)), .string (ba (nm (mw m))), .float .f64 (rk (mw m))] ∧ Below w.heap.size w wr) (fun i _ => l.length - (intOf i).toNat)
   case atStart => exact ⟨0, rfl, Nat.zero_le _, fun y hy => by simp at hy, HI2.out, HBW2.out⟩
   case round =>
    obtain ⟨j, rfl, hj, hno, hI, hbw⟩ := hrel
    have HNO := Lib.hid hno
    have HI := Lib.hid hI
    have HCW := Lib.hid (HC.out.keep hbw)
    clear hno hI
    by_cases hlt : j < l.length
    ·obtain ⟨x, hx⟩ := some_at hlt
     obtain ⟨b0, o0, rfl, -⟩ := move_cells HCW.out hx
     have hji : (j : Int) < (l.length : Int) := by omega
     have hj0 : (0 : Int) ≤ (j : Int) := by omega
     have hd : decide ((j : Int) < (l.length : Int)) = true := decide_eq_true hji
     have hd2 : decide (j < l.length) = true := decide_eq_true hlt
     have HX := Lib.hid hx
     clear hx
     cases hb : bm m x with
     | false =>
      have HB := Lib.hid hb
      clear hb
      go_wp2_with fail
      refine quiet_held (fun w' => Below wr.heap.size wr w') (by kernel_rfl) (by kernel_rfl) (Below.refl _ _).drew ?_
      repeat (first
       | go_big_quiet_skip
       | (simp only [hd])
       | (simp only [hd2])
       | (go_big_quiet_want; go_big_quiet_op; go_big_quiet_on)
       | (go_big_quiet_want; apply Exists.intro; refine ⟨fun wq hq => ?_, ?_⟩; (focus (obtain ⟨b9, o9, e9, -, d0, d1, d2, d3, d4, d5⟩ := move_cells (HCW.out.keep hq) HX.out; cases e9; obtain ⟨p0, p1, p2, p3, p4, p5⟩ := box6 (m := m) (is_below HI.out hq (is_lt HI.out)); unfold Oper.quietAt; go_simp; all_goals (first | rfl | (refine (rbm_k HB.out _).mono ?_; rintro e w5 ⟨rfl, hbn⟩; exact ⟨rfl, hq.trans (hbn.mono hq.size)⟩)))); simp only [Act.put, List.setIfInBounds_toArray, List.set_cons_zero, List.set_cons_succ]; go_big_quiet_on))
      refine wpQuiet_nil ?_
      intro w1 hbr
      have hbw1 := hbw.trans (hbr.mono hbw.size)
      have HI1 := Lib.hid (is_below HI.out hbr (is_lt HI.out))
      go_wp2_with fail
      go_roundw
      case rel => exact ⟨j + 1, by go_num, by omega, bm_take HX.out HNO.out HB.out, HI1.out, hbw1⟩
      case measure => simp only [intOf]; omega
     | true =>
      obtain ⟨N, hN⟩ : ∃ N, l.take j ++ m :: l.drop j = N := ⟨_, rfl⟩
      have hss := insM_stop hj HNT.out HNO.out (.inr ⟨x, HX.out, hb⟩)
      rw [hN] at hss
      have HNN := Lib.hid hN
      have HSS := Lib.hid hss
      have HB := Lib.hid hb
      have htk : (l.take j).length = j := by rw [List.length_take]; omega
      have hdk : (l.drop j).length = l.length - j := List.length_drop ..
      have HTK := Lib.hid htk
      have HDK := Lib.hid hdk
      have hj2 : (j : Int) ≤ (l.length : Int) := by omega
      have hj3 : (j : Int) ≤ (cap : Int) := by have := HCAP.out; omega
      have hc0 : ¬ cap = j := by have := HCAP.out; omega
      clear hb hN hss htk hdk
      go_wp2_with fail
      refine quiet_held (fun w' => Below wr.heap.size wr w') (by kernel_rfl) (by kernel_rfl) (Below.refl _ _).drew ?_
      repeat (first
       | go_big_quiet_skip
       | (simp only [hd])
       | (simp only [hd2])
       | (go_big_quiet_want; go_big_quiet_op; go_big_quiet_on)
       | (go_big_quiet_want; apply Exists.intro; refine ⟨fun wq hq => ?_, ?_⟩; (focus (obtain ⟨b9, o9, e9, -, d0, d1, d2, d3, d4, d5⟩ := move_cells (HCW.out.keep hq) HX.out; cases e9; obtain ⟨p0, p1, p2, p3, p4, p5⟩ := box6 (m := m) (is_below HI.out hq (is_lt HI.out)); unfold Oper.quietAt; go_simp; all_goals (first | rfl | (refine (rbm_k HB.out _).mono ?_; rintro e w5 ⟨rfl, hbn⟩; exact ⟨rfl, hq.trans (hbn.mono hq.size)⟩)))); simp only [Act.put, List.setIfInBounds_toArray, List.set_cons_zero, List.set_cons_succ]; go_big_quiet_on))
      refine wpQuiet_nil ?_
      intro w1 hbr
      have hbw1 := hbw.trans (hbr.mono hbw.size)
      have HI1 := Lib.hid (is_below HI.out hbr (is_lt HI.out))
      have HC1 := Lib.hid (HC.out.keep hbw1)
      go_wp2_with (at_builtin; refine append_optM _ rfl _ _ rfl w1.heap.size _ 0 [] rfl (made0M w1.heap.size w1 (Nat.le_refl _)) (some ⟨b0, o0, none⟩) cap (l.take j) (by rw [HTK.out]; rfl) (fun h => by cases h) (by rw [HTK.out]; have := HCAP.out; omega) w1.heap.size (At.below (at_takeM HC1.out j) ((Below.refl _ _).alloc (Nat.le_refl _) _)) (by simp only [List.length_take]; omega) (by simp) ?_)
      intro v2 w2 hown hgrow
      have hb2 : Below w1.heap.size w1 w2 := below_own ((Below.refl _ _).alloc (Nat.le_refl _) _) (by simp) (made0M w1.heap.size w1 (Nat.le_refl _)) hgrow
      obtain ⟨Av, cv, rfl, -, -, -⟩ := own_at hown
      have hI2 := is_below HI1.out hb2 (is_lt HI1.out)
      obtain ⟨k0, k1, k2, k3, k4, k5⟩ := box6 (m := m) hI2
      have HC2 := Lib.hid (HC1.out.keep hb2)
      have HOWN := Lib.hid hown
      clear hown hgrow
      go_wp2_with (at_builtin; refine append_optM _ rfl _ _ rfl w1.heap.size _ _ _ rfl (HOWN.out.alloc (.cells #[.int .i64 (mc m), .int .i64 (mr m), .int .i64 (pa (mw m)), .int .i64 (ch (mw m)), .string (ba (nm (mw m))), .float .f64 (rk (mw m))] 57)) (some ⟨w2.heap.size, 0, none⟩) 1 [m] rfl (fun h => by cases h) (by simp) (w2.heap.size + 1) (at_boxM w2 m) (by simp <;> omega) (by have := hb2.size; simp <;> omega) ?_)
      intro v3 w3 hown3 hgrow3
      have hb3 : Below w1.heap.size w1 w3 := below_own (hb2.alloc hb2.size (.cells #[.int .i64 (mc m), .int .i64 (mr m), .int .i64 (pa (mw m)), .int .i64 (ch (mw m)), .string (ba (nm (mw m))), .float .f64 (rk (mw m))] 57)) (by have := hb2.size; simp <;> omega) (HOWN.out.alloc _) hgrow3
      obtain ⟨Aw, cw, rfl, -, -, -⟩ := own_at hown3
      have HC3 := Lib.hid (HC1.out.keep hb3)
      have HOW3 := Lib.hid hown3
      clear hown3 hgrow3
      go_wp2_with (at_builtin; refine append_optM _ rfl _ _ rfl w1.heap.size _ _ _ rfl HOW3.out (some ⟨b0, o0 + j * 6, none⟩) (cap - j) (l.drop j) (by rw [HDK.out]; rfl) (fun h => by cases h) (by rw [HDK.out]; have := HCAP.out; omega) w3.heap.size (at_dropM HC3.out j) (by rw [HDK.out]; omega) hb3.size ?_)
      intro v4 w4 hown4 hgrow4
      have hb4 : Below w1.heap.size w1 w4 := below_own hb3 hb3.size HOW3.out hgrow4
      obtain ⟨Ax, cx, rfl, -, -, -⟩ := own_at hown4
      have HOW4 := Lib.hid hown4
      have hb5 := hbw1.trans (hb4.mono hbw1.size)
      clear hown4 hgrow4
      go_wp2_with fail
      rw [HSS.out]
      have h := HOW4.out
      have hn : j + 1 + (l.length - j) = N.length := by have := congrArg List.length HNN.out; simp at this; omega
      refine bodyPost_ret (v := .tuple #[.slice Ax (j + 1 + (l.length - j)) cx, .int .i64 (j : Nat), .bool true]) (by simp [results, Tryz.f90, go_sem]) rfl ?_
      refine own_insM (B := w1.heap.size) ?_ hn hb5 hbw1.size
      rw [← HNN.out]
      first | exact h | (simpa using h)
    ·obtain rfl : j = l.length := by omega
     have hss := insM_stop hj HNT.out HNO.out (.inl rfl)
     rw [List.take_length, List.drop_length] at hss
     have hd : decide ((l.length : Int) < (l.length : Int)) = false := decide_eq_false (by omega)
     have hd2 : decide (l.length < l.length) = false := decide_eq_false (by omega)
     have hj0 : (0 : Int) ≤ (l.length : Int) := by omega
     have hj3 : (l.length : Int) ≤ (cap : Int) := by have := HCAP.out; omega
     rcases A with _ | ⟨b0, o0, sp⟩
     ·obtain rfl := HA.out rfl
      obtain rfl : l = [] := List.eq_nil_of_length_eq_zero (by have := HCAP.out; omega)
      obtain ⟨N, hN⟩ : ∃ N, [] ++ [m] = N := ⟨_, rfl⟩
      rw [hN] at hss
      have HNN := Lib.hid hN
      have HSS := Lib.hid hss
      clear hN hss
      go_wp2_with fail
      refine quiet_held (fun w' => Below wr.heap.size wr w') (by kernel_rfl) (by kernel_rfl) (Below.refl _ _).drew ?_
      repeat (first
       | go_big_quiet_skip
       | (simp only [hd])
       | (simp only [hd2])
       | (go_big_quiet_want; go_big_quiet_op; go_big_quiet_on)
       | (go_big_quiet_want; apply Exists.intro; refine ⟨fun wq hq => ?_, ?_⟩; (focus (obtain ⟨p0, p1, p2, p3, p4, p5⟩ := box6 (m := m) (is_below HI.out hq (is_lt HI.out)); unfold Oper.quietAt; go_simp; all_goals (first | rfl))); simp only [Act.put, List.setIfInBounds_toArray, List.set_cons_zero, List.set_cons_succ]; go_big_quiet_on))
      refine wpQuiet_nil ?_
      intro w1 hbr
      have hbw1 := hbw.trans (hbr.mono hbw.size)
      have HI1 := Lib.hid (is_below HI.out hbr (is_lt HI.out))
      have HC1 := Lib.hid (HC.out.keep hbw1)
      go_wp2_with (at_builtin; refine append_optM _ rfl _ _ rfl w1.heap.size _ 0 [] rfl (made0M w1.heap.size w1 (Nat.le_refl _)) none 0 ([]) (by rfl) (fun _ => rfl) (by simp) w1.heap.size (At.below (At.nil _ _ _) ((Below.refl _ _).alloc (Nat.le_refl _) _)) (by simp) (by simp) ?_)
      intro v2 w2 hown hgrow
      have hb2 : Below w1.heap.size w1 w2 := below_own ((Below.refl _ _).alloc (Nat.le_refl _) _) (by simp) (made0M w1.heap.size w1 (Nat.le_refl _)) hgrow
      obtain ⟨Av, cv, rfl, -, -, -⟩ := own_at hown
      have hI2 := is_below HI1.out hb2 (is_lt HI1.out)
      obtain ⟨k0, k1, k2, k3, k4, k5⟩ := box6 (m := m) hI2
      have HC2 := Lib.hid (HC1.out.keep hb2)
      have HOWN := Lib.hid hown
      clear hown hgrow
      go_wp2_with (at_builtin; refine append_optM _ rfl _ _ rfl w1.heap.size _ _ _ rfl (HOWN.out.alloc (.cells #[.int .i64 (mc m), .int .i64 (mr m), .int .i64 (pa (mw m)), .int .i64 (ch (mw m)), .string (ba (nm (mw m))), .float .f64 (rk (mw m))] 57)) (some ⟨w2.heap.size, 0, none⟩) 1 [m] rfl (fun h => by cases h) (by simp) (w2.heap.size + 1) (at_boxM w2 m) (by simp <;> omega) (by have := hb2.size; simp <;> omega) ?_)
      intro v3 w3 hown3 hgrow3
      have hb3 : Below w1.heap.size w1 w3 := below_own (hb2.alloc hb2.size (.cells #[.int .i64 (mc m), .int .i64 (mr m), .int .i64 (pa (mw m)), .int .i64 (ch (mw m)), .string (ba (nm (mw m))), .float .f64 (rk (mw m))] 57)) (by have := hb2.size; simp <;> omega) (HOWN.out.alloc _) hgrow3
      obtain ⟨Aw, cw, rfl, -, -, -⟩ := own_at hown3
      have HC3 := Lib.hid (HC1.out.keep hb3)
      have HOW3 := Lib.hid hown3
      clear hown3 hgrow3
      go_wp2_with (at_builtin; refine append_optM _ rfl _ _ rfl w1.heap.size _ _ _ rfl HOW3.out none 0 ([]) (by rfl) (fun _ => rfl) (by simp) w3.heap.size (At.nil _ _ _) (by simp) hb3.size ?_)
      intro v4 w4 hown4 hgrow4
      have hb4 : Below w1.heap.size w1 w4 := below_own hb3 hb3.size HOW3.out hgrow4
      obtain ⟨Ax, cx, rfl, -, -, -⟩ := own_at hown4
      have HOW4 := Lib.hid hown4
      have hb5 := hbw1.trans (hb4.mono hbw1.size)
      clear hown4 hgrow4
      go_wp2_with fail
      rw [HSS.out]
      have h := HOW4.out
      have hn : 1 = N.length := by have := congrArg List.length HNN.out; simp at this; omega
      refine bodyPost_ret (v := .tuple #[.slice Ax (1) cx, .int .i64 (0 : Nat), .bool true]) (by simp [results, Tryz.f90, go_sem]) rfl ?_
      refine own_insM (B := w1.heap.size) ?_ hn hb5 hbw1.size
      rw [← HNN.out]
      first | exact h | (simpa using h)
     ·by_cases hle : l = []
      ·subst hle
       obtain ⟨N, hN⟩ : ∃ N, [] ++ [m] = N := ⟨_, rfl⟩
       rw [hN] at hss
       have HNN := Lib.hid hN
       have HSS := Lib.hid hss
       clear hN hss
       by_cases hcj : cap = 0
       ·subst hcj
        go_wp2_with fail
        refine quiet_held (fun w' => Below wr.heap.size wr w') (by kernel_rfl) (by kernel_rfl) (Below.refl _ _).drew ?_
        repeat (first
         | go_big_quiet_skip
         | (simp only [hd])
         | (simp only [hd2])
         | (go_big_quiet_want; go_big_quiet_op; go_big_quiet_on)
         | (go_big_quiet_want; apply Exists.intro; refine ⟨fun wq hq => ?_, ?_⟩; (focus (obtain ⟨p0, p1, p2, p3, p4, p5⟩ := box6 (m := m) (is_below HI.out hq (is_lt HI.out)); unfold Oper.quietAt; go_simp; all_goals (first | rfl))); simp only [Act.put, List.setIfInBounds_toArray, List.set_cons_zero, List.set_cons_succ]; go_big_quiet_on))
        refine wpQuiet_nil ?_
        intro w1 hbr
        have hbw1 := hbw.trans (hbr.mono hbw.size)
        have HI1 := Lib.hid (is_below HI.out hbr (is_lt HI.out))
        have HC1 := Lib.hid (HC.out.keep hbw1)
        go_wp2_with (at_builtin; refine append_optM _ rfl _ _ rfl w1.heap.size _ 0 [] rfl (made0M w1.heap.size w1 (Nat.le_refl _)) (some ⟨b0, o0, sp⟩) 0 ([]) (by rfl) (fun h => by cases h) (by simp) w1.heap.size (At.below (At.nil _ _ _) ((Below.refl _ _).alloc (Nat.le_refl _) _)) (by simp) (by simp) ?_)
        intro v2 w2 hown hgrow
        have hb2 : Below w1.heap.size w1 w2 := below_own ((Below.refl _ _).alloc (Nat.le_refl _) _) (by simp) (made0M w1.heap.size w1 (Nat.le_refl _)) hgrow
        obtain ⟨Av, cv, rfl, -, -, -⟩ := own_at hown
        have hI2 := is_below HI1.out hb2 (is_lt HI1.out)
        obtain ⟨k0, k1, k2, k3, k4, k5⟩ := box6 (m := m) hI2
        have HC2 := Lib.hid (HC1.out.keep hb2)
        have HOWN := Lib.hid hown
        clear hown hgrow
        go_wp2_with (at_builtin; refine append_optM _ rfl _ _ rfl w1.heap.size _ _ _ rfl (HOWN.out.alloc (.cells #[.int .i64 (mc m), .int .i64 (mr m), .int .i64 (pa (mw m)), .int .i64 (ch (mw m)), .string (ba (nm (mw m))), .float .f64 (rk (mw m))] 57)) (some ⟨w2.heap.size, 0, none⟩) 1 [m] rfl (fun h => by cases h) (by simp) (w2.heap.size + 1) (at_boxM w2 m) (by simp <;> omega) (by have := hb2.size; simp <;> omega) ?_)
        intro v3 w3 hown3 hgrow3
        have hb3 : Below w1.heap.size w1 w3 := below_own (hb2.alloc hb2.size (.cells #[.int .i64 (mc m), .int .i64 (mr m), .int .i64 (pa (mw m)), .int .i64 (ch (mw m)), .string (ba (nm (mw m))), .float .f64 (rk (mw m))] 57)) (by have := hb2.size; simp <;> omega) (HOWN.out.alloc _) hgrow3
        obtain ⟨Aw, cw, rfl, -, -, -⟩ := own_at hown3
        have HC3 := Lib.hid (HC1.out.keep hb3)
        have HOW3 := Lib.hid hown3
        clear hown3 hgrow3
        go_wp2_with (at_builtin; refine append_optM _ rfl _ _ rfl w1.heap.size _ _ _ rfl HOW3.out (some ⟨b0, o0, sp⟩) 0 ([]) (by rfl) (fun h => by cases h) (by simp) w3.heap.size (At.nil _ _ _) (by simp) hb3.size ?_)
        intro v4 w4 hown4 hgrow4
        have hb4 : Below w1.heap.size w1 w4 := below_own hb3 hb3.size HOW3.out hgrow4
        obtain ⟨Ax, cx, rfl, -, -, -⟩ := own_at hown4
        have HOW4 := Lib.hid hown4
        have hb5 := hbw1.trans (hb4.mono hbw1.size)
        clear hown4 hgrow4
        go_wp2_with fail
        rw [HSS.out]
        have h := HOW4.out
        have hn : 1 = N.length := by have := congrArg List.length HNN.out; simp at this; omega
        refine bodyPost_ret (v := .tuple #[.slice Ax (1) cx, .int .i64 (0 : Nat), .bool true]) (by simp [results, Tryz.f90, go_sem]) rfl ?_
        refine own_insM (B := w1.heap.size) ?_ hn hb5 hbw1.size
        rw [← HNN.out]
        first | exact h | (simpa using h)
       ·have hc0 : ¬ cap = 0 := hcj
        go_wp2_with fail
        refine quiet_held (fun w' => Below wr.heap.size wr w') (by kernel_rfl) (by kernel_rfl) (Below.refl _ _).drew ?_
        repeat (first
         | go_big_quiet_skip
         | (simp only [hd])
         | (simp only [hd2])
         | (go_big_quiet_want; go_big_quiet_op; go_big_quiet_on)
         | (go_big_quiet_want; apply Exists.intro; refine ⟨fun wq hq => ?_, ?_⟩; (focus (obtain ⟨p0, p1, p2, p3, p4, p5⟩ := box6 (m := m) (is_below HI.out hq (is_lt HI.out)); unfold Oper.quietAt; go_simp; all_goals (first | rfl))); simp only [Act.put, List.setIfInBounds_toArray, List.set_cons_zero, List.set_cons_succ]; go_big_quiet_on))
        refine wpQuiet_nil ?_
        intro w1 hbr
        have hbw1 := hbw.trans (hbr.mono hbw.size)
        have HI1 := Lib.hid (is_below HI.out hbr (is_lt HI.out))
        have HC1 := Lib.hid (HC.out.keep hbw1)
        go_wp2_with (at_builtin; refine append_optM _ rfl _ _ rfl w1.heap.size _ 0 [] rfl (made0M w1.heap.size w1 (Nat.le_refl _)) (some ⟨b0, o0, sp⟩) cap ([]) (by rfl) (fun h => by cases h) (by simp) w1.heap.size (At.below (At.nil _ _ _) ((Below.refl _ _).alloc (Nat.le_refl _) _)) (by simp) (by simp) ?_)
        intro v2 w2 hown hgrow
        have hb2 : Below w1.heap.size w1 w2 := below_own ((Below.refl _ _).alloc (Nat.le_refl _) _) (by simp) (made0M w1.heap.size w1 (Nat.le_refl _)) hgrow
        obtain ⟨Av, cv, rfl, -, -, -⟩ := own_at hown
        have hI2 := is_below HI1.out hb2 (is_lt HI1.out)
        obtain ⟨k0, k1, k2, k3, k4, k5⟩ := box6 (m := m) hI2
        have HC2 := Lib.hid (HC1.out.keep hb2)
        have HOWN := Lib.hid hown
        clear hown hgrow
        go_wp2_with (at_builtin; refine append_optM _ rfl _ _ rfl w1.heap.size _ _ _ rfl (HOWN.out.alloc (.cells #[.int .i64 (mc m), .int .i64 (mr m), .int .i64 (pa (mw m)), .int .i64 (ch (mw m)), .string (ba (nm (mw m))), .float .f64 (rk (mw m))] 57)) (some ⟨w2.heap.size, 0, none⟩) 1 [m] rfl (fun h => by cases h) (by simp) (w2.heap.size + 1) (at_boxM w2 m) (by simp <;> omega) (by have := hb2.size; simp <;> omega) ?_)
        intro v3 w3 hown3 hgrow3
        have hb3 : Below w1.heap.size w1 w3 := below_own (hb2.alloc hb2.size (.cells #[.int .i64 (mc m), .int .i64 (mr m), .int .i64 (pa (mw m)), .int .i64 (ch (mw m)), .string (ba (nm (mw m))), .float .f64 (rk (mw m))] 57)) (by have := hb2.size; simp <;> omega) (HOWN.out.alloc _) hgrow3
        obtain ⟨Aw, cw, rfl, -, -, -⟩ := own_at hown3
        have HC3 := Lib.hid (HC1.out.keep hb3)
        have HOW3 := Lib.hid hown3
        clear hown3 hgrow3
        go_wp2_with (at_builtin; refine append_optM _ rfl _ _ rfl w1.heap.size _ _ _ rfl HOW3.out (some ⟨b0, o0, sp⟩) cap ([]) (by rfl) (fun h => by cases h) (by simp) w3.heap.size (At.nil _ _ _) (by simp) hb3.size ?_)
        intro v4 w4 hown4 hgrow4
        have hb4 : Below w1.heap.size w1 w4 := below_own hb3 hb3.size HOW3.out hgrow4
        obtain ⟨Ax, cx, rfl, -, -, -⟩ := own_at hown4
        have HOW4 := Lib.hid hown4
        have hb5 := hbw1.trans (hb4.mono hbw1.size)
        clear hown4 hgrow4
        go_wp2_with fail
        rw [HSS.out]
        have h := HOW4.out
        have hn : 1 = N.length := by have := congrArg List.length HNN.out; simp at this; omega
        refine bodyPost_ret (v := .tuple #[.slice Ax (1) cx, .int .i64 (0 : Nat), .bool true]) (by simp [results, Tryz.f90, go_sem]) rfl ?_
        refine own_insM (B := w1.heap.size) ?_ hn hb5 hbw1.size
        rw [← HNN.out]
        first | exact h | (simpa using h)
      ·skip
       obtain ⟨N, hN⟩ : ∃ N, l ++ [m] = N := ⟨_, rfl⟩
       rw [hN] at hss
       have HNN := Lib.hid hN
       have HSS := Lib.hid hss
       clear hN hss
       obtain ⟨x0, hx0⟩ : ∃ x0, l[0]? = some x0 := some_at (List.length_pos_iff.2 hle)
       obtain ⟨b1, o1, e1, hb0, -⟩ := move_cells HC.out hx0
       cases e1
       clear hx0
       by_cases hcj : cap = l.length
       ·subst hcj
        go_wp2_with fail
        refine quiet_held (fun w' => Below wr.heap.size wr w') (by kernel_rfl) (by kernel_rfl) (Below.refl _ _).drew ?_
        repeat (first
         | go_big_quiet_skip
         | (simp only [hd])
         | (simp only [hd2])
         | (go_big_quiet_want; go_big_quiet_op; go_big_quiet_on)
         | (go_big_quiet_want; apply Exists.intro; refine ⟨fun wq hq => ?_, ?_⟩; (focus (obtain ⟨p0, p1, p2, p3, p4, p5⟩ := box6 (m := m) (is_below HI.out hq (is_lt HI.out)); unfold Oper.quietAt; go_simp; all_goals (first | rfl))); simp only [Act.put, List.setIfInBounds_toArray, List.set_cons_zero, List.set_cons_succ]; go_big_quiet_on))
        refine wpQuiet_nil ?_
        intro w1 hbr
        have hbw1 := hbw.trans (hbr.mono hbw.size)
        have HI1 := Lib.hid (is_below HI.out hbr (is_lt HI.out))
        have HC1 := Lib.hid (HC.out.keep hbw1)
        go_wp2_with (at_builtin; refine append_optM _ rfl _ _ rfl w1.heap.size _ 0 [] rfl (made0M w1.heap.size w1 (Nat.le_refl _)) (some ⟨b0, o0, none⟩) l.length (l) (by rfl) (fun h => by cases h) (by exact Nat.le_refl _) w1.heap.size (At.below (HC1.out) ((Below.refl _ _).alloc (Nat.le_refl _) _)) (by omega) (by simp) ?_)
        intro v2 w2 hown hgrow
        have hb2 : Below w1.heap.size w1 w2 := below_own ((Below.refl _ _).alloc (Nat.le_refl _) _) (by simp) (made0M w1.heap.size w1 (Nat.le_refl _)) hgrow
        obtain ⟨Av, cv, rfl, -, -, -⟩ := own_at hown
        have hI2 := is_below HI1.out hb2 (is_lt HI1.out)
        obtain ⟨k0, k1, k2, k3, k4, k5⟩ := box6 (m := m) hI2
        have HC2 := Lib.hid (HC1.out.keep hb2)
        have HOWN := Lib.hid hown
        clear hown hgrow
        go_wp2_with (at_builtin; refine append_optM _ rfl _ _ rfl w1.heap.size _ _ _ rfl (HOWN.out.alloc (.cells #[.int .i64 (mc m), .int .i64 (mr m), .int .i64 (pa (mw m)), .int .i64 (ch (mw m)), .string (ba (nm (mw m))), .float .f64 (rk (mw m))] 57)) (some ⟨w2.heap.size, 0, none⟩) 1 [m] rfl (fun h => by cases h) (by simp) (w2.heap.size + 1) (at_boxM w2 m) (by simp <;> omega) (by have := hb2.size; simp <;> omega) ?_)
        intro v3 w3 hown3 hgrow3
        have hb3 : Below w1.heap.size w1 w3 := below_own (hb2.alloc hb2.size (.cells #[.int .i64 (mc m), .int .i64 (mr m), .int .i64 (pa (mw m)), .int .i64 (ch (mw m)), .string (ba (nm (mw m))), .float .f64 (rk (mw m))] 57)) (by have := hb2.size; simp <;> omega) (HOWN.out.alloc _) hgrow3
        obtain ⟨Aw, cw, rfl, -, -, -⟩ := own_at hown3
        have HC3 := Lib.hid (HC1.out.keep hb3)
        have HOW3 := Lib.hid hown3
        clear hown3 hgrow3
        go_wp2_with (at_builtin; refine append_optM _ rfl _ _ rfl w1.heap.size _ _ _ rfl HOW3.out (some ⟨b0, o0, none⟩) 0 ([]) (by rfl) (fun h => by cases h) (by simp) w3.heap.size (At.nil _ _ _) (by simp <;> omega) hb3.size ?_)
        intro v4 w4 hown4 hgrow4
        have hb4 : Below w1.heap.size w1 w4 := below_own hb3 hb3.size HOW3.out hgrow4
        obtain ⟨Ax, cx, rfl, -, -, -⟩ := own_at hown4
        have HOW4 := Lib.hid hown4
        have hb5 := hbw1.trans (hb4.mono hbw1.size)
        clear hown4 hgrow4
        go_wp2_with fail
        rw [HSS.out]
        have h := HOW4.out
        have hn : l.length + 1 = N.length := by have := congrArg List.length HNN.out; simp at this; omega
        refine bodyPost_ret (v := .tuple #[.slice Ax (l.length + 1) cx, .int .i64 (l.length : Nat), .bool true]) (by simp [results, Tryz.f90, go_sem]) rfl ?_
        refine own_insM (B := w1.heap.size) ?_ hn hb5 hbw1.size
        rw [← HNN.out]
        first | exact h | (simpa using h)
       ·have hc0 : ¬ cap = l.length := hcj
        go_wp2_with fail
        refine quiet_held (fun w' => Below wr.heap.size wr w') (by kernel_rfl) (by kernel_rfl) (Below.refl _ _).drew ?_
        repeat (first
         | go_big_quiet_skip
         | (simp only [hd])
         | (simp only [hd2])
         | (go_big_quiet_want; go_big_quiet_op; go_big_quiet_on)
         | (go_big_quiet_want; apply Exists.intro; refine ⟨fun wq hq => ?_, ?_⟩; (focus (obtain ⟨p0, p1, p2, p3, p4, p5⟩ := box6 (m := m) (is_below HI.out hq (is_lt HI.out)); unfold Oper.quietAt; go_simp; all_goals (first | rfl))); simp only [Act.put, List.setIfInBounds_toArray, List.set_cons_zero, List.set_cons_succ]; go_big_quiet_on))
        refine wpQuiet_nil ?_
        intro w1 hbr
        have hbw1 := hbw.trans (hbr.mono hbw.size)
        have HI1 := Lib.hid (is_below HI.out hbr (is_lt HI.out))
        have HC1 := Lib.hid (HC.out.keep hbw1)
        go_wp2_with (at_builtin; refine append_optM _ rfl _ _ rfl w1.heap.size _ 0 [] rfl (made0M w1.heap.size w1 (Nat.le_refl _)) (some ⟨b0, o0, none⟩) cap (l) (by rfl) (fun h => by cases h) (by exact HCAP.out) w1.heap.size (At.below (HC1.out) ((Below.refl _ _).alloc (Nat.le_refl _) _)) (by omega) (by simp) ?_)
        intro v2 w2 hown hgrow
        have hb2 : Below w1.heap.size w1 w2 := below_own ((Below.refl _ _).alloc (Nat.le_refl _) _) (by simp) (made0M w1.heap.size w1 (Nat.le_refl _)) hgrow
        obtain ⟨Av, cv, rfl, -, -, -⟩ := own_at hown
        have hI2 := is_below HI1.out hb2 (is_lt HI1.out)
        obtain ⟨k0, k1, k2, k3, k4, k5⟩ := box6 (m := m) hI2
        have HC2 := Lib.hid (HC1.out.keep hb2)
        have HOWN := Lib.hid hown
        clear hown hgrow
        go_wp2_with (at_builtin; refine append_optM _ rfl _ _ rfl w1.heap.size _ _ _ rfl (HOWN.out.alloc (.cells #[.int .i64 (mc m), .int .i64 (mr m), .int .i64 (pa (mw m)), .int .i64 (ch (mw m)), .string (ba (nm (mw m))), .float .f64 (rk (mw m))] 57)) (some ⟨w2.heap.size, 0, none⟩) 1 [m] rfl (fun h => by cases h) (by simp) (w2.heap.size + 1) (at_boxM w2 m) (by simp <;> omega) (by have := hb2.size; simp <;> omega) ?_)
        intro v3 w3 hown3 hgrow3
        have hb3 : Below w1.heap.size w1 w3 := below_own (hb2.alloc hb2.size (.cells #[.int .i64 (mc m), .int .i64 (mr m), .int .i64 (pa (mw m)), .int .i64 (ch (mw m)), .string (ba (nm (mw m))), .float .f64 (rk (mw m))] 57)) (by have := hb2.size; simp <;> omega) (HOWN.out.alloc _) hgrow3
        obtain ⟨Aw, cw, rfl, -, -, -⟩ := own_at hown3
        have HC3 := Lib.hid (HC1.out.keep hb3)
        have HOW3 := Lib.hid hown3
        clear hown3 hgrow3
        go_wp2_with (at_builtin; refine append_optM _ rfl _ _ rfl w1.heap.size _ _ _ rfl HOW3.out (some ⟨b0, o0 + l.length * 6, none⟩) (cap - l.length) ([]) (by rfl) (fun h => by cases h) (by simp) w3.heap.size (At.nil _ _ _) (by simp <;> omega) hb3.size ?_)
        intro v4 w4 hown4 hgrow4
        have hb4 : Below w1.heap.size w1 w4 := below_own hb3 hb3.size HOW3.out hgrow4
        obtain ⟨Ax, cx, rfl, -, -, -⟩ := own_at hown4
        have HOW4 := Lib.hid hown4
        have hb5 := hbw1.trans (hb4.mono hbw1.size)
        clear hown4 hgrow4
        go_wp2_with fail
        rw [HSS.out]
        have h := HOW4.out
        have hn : l.length + 1 = N.length := by have := congrArg List.length HNN.out; simp at this; omega
        refine bodyPost_ret (v := .tuple #[.slice Ax (l.length + 1) cx, .int .i64 (l.length : Nat), .bool true]) (by simp [results, Tryz.f90, go_sem]) rfl ?_
        refine own_insM (B := w1.heap.size) ?_ hn hb5 hbw1.size
        rw [← HNN.out]
        first | exact h | (simpa using h)
end Go.Proofs.YthhckdjagnlgpaaGreat
