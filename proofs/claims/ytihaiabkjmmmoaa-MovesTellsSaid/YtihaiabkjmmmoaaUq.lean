/-
  The walk of MovesSince.
-/
import Derived.Test.YtihaiabkjmmmoaaUp
namespace Go.Proofs.Ytihaiabkjmmmoaa
open Go.RowKit Go.IntWalk
open Wd Fl
set_option maxRecDepth 100000
attribute [local go_sem] Oper.semAt_some

theorem rmmay_k {A : Option Addr} {cap : Nat} {l : List Mv} {b : Bool} (h : mayM l = b) (hl : l.length ≤ maxLen) (hM : Moves_ l) {w : World} (hc : At w w.heap.size A (mvs l)) :
    Calls Try.prog 22 #[.slice A l.length cap] w fun e w' => e = .returned (.bool b) ∧ Below w.heap.size w w' := by
  subst h
  exact rmmay_c A cap l hl (fun m hm => (hM m hm).2) w hc
theorem msince_kk {A : Option Addr} {cap n N : Nat} {c r : Int} (l L : List Mv) (h : sinM l c r = L) (hN : L.length = N) (hn : l.length = n) (hl : n ≤ 1000) {w : World} (hc : At w w.heap.size A (mvs l)) :
    Calls Try.prog 25 #[.slice A n cap, .agg #[.int .i64 c, .int .i64 r]] w fun e w' => ∃ A' cap', e = .returned (.slice A' N cap') ∧ At w' w'.heap.size A' (mvs L) ∧ (A' = none → cap' = 0) ∧ N ≤ cap' ∧ Below w.heap.size w w' := msince_k l L h hN hn hl hc
theorem at_zeroM {w : World} {B : Nat} {A : Option Addr} {l : List Mv} (h : l.length = 0) : At w B A (mvs l) := by
  rw [List.eq_nil_of_length_eq_zero h]
  exact At.nil _ _ _
theorem take_moves {l : List Mv} (k : Nat) (h : Moves_ l) : Moves_ (l.take k) := fun m hm => h m (List.mem_of_mem_take hm)
theorem drop_moves {l : List Mv} (k : Nat) (h : Moves_ l) : Moves_ (l.drop k) := fun m hm => h m (List.mem_of_mem_drop hm)

namespace movesSince
theorem live_in (A : Option Addr) (cap : Nat) (l : List Mv) (c r : Int) (hl : l.length ≤ maxLen) (hM : Moves_ l) (h : (fewM l 60 && mayM l) = false) (w : World) (hc : At w w.heap.size A (mvs l)) :
    Calls Try.prog 7 #[.slice A l.length cap, .agg #[.int .i64 c, .int .i64 r]] w fun e w' => e = .returned (.bool true) ∧ Below w.heap.size w w' := by
  have hbx := (Below.refl w.heap.size w).alloc (Nat.le_refl _) (.cells #[.int .i64 c, .int .i64 r] 24)
  have HC := Lib.hid (hc.keep hbx)
  have HM := Lib.hid hM
  have HL := Lib.hid hl
  clear hc hM hl
  cases hf : fewM l 60 with
  | false =>
    have HF := Lib.hid hf
    clear hf h
    go_enter Try.func7, Try.ntmps7
    go_wp2_with fail
    refine (rmfew_k 60 HF.out HL.out (by omega) HC.out _ rfl).mono ?_
    rintro e w1 ⟨rfl, rfl⟩
    go_wp2_with fail
    refine (live13_c _).mono ?_
    rintro e w2 ⟨rfl, hb⟩
    go_wp2_with fail
    go_ret
    exact ⟨rfl, hbx.trans (hb.mono hbx.size)⟩
  | true =>
    have HF := Lib.hid hf
    have HY : Hid (mayM l = false) := Lib.hid (by rw [hf, Bool.true_and] at h; exact h)
    clear hf h
    go_enter Try.func7, Try.ntmps7
    go_wp2_with fail
    refine (rmfew_k 60 HF.out HL.out (by omega) HC.out _ rfl).mono ?_
    rintro e w1 ⟨rfl, rfl⟩
    go_wp2_with fail
    refine (rmmay_k HY.out HL.out HM.out HC.out).mono ?_
    rintro e w2 ⟨rfl, hb2⟩
    have hbw2 := bthen hbx hb2
    go_wp2_with fail
    refine (live13_c _).mono ?_
    rintro e w3 ⟨rfl, hb⟩
    go_wp2_with fail
    go_ret
    exact ⟨rfl, bthen hbw2 hb⟩
set_option maxHeartbeats 8000000 in
theorem go_some (l : List Mv) (b0 o0 cap : Nat) (c r : Int) (k : Nat) (hl60 : l.length ≤ 60) (hM : Moves_ l) (hf : fewM l 60 = true) (hy : mayM l = true) (hk : k ≤ l.length) (hs : sinM l c r = l.drop k) (hlo : ∀ y ∈ l.take k, befM c r y = false) (hhi : ∀ y ∈ l.drop k, befM c r y = true) (hcap : l.length ≤ cap) (hck : ¬ cap = k) (w : World) (hc : At w w.heap.size (some ⟨b0, o0, none⟩) (mvs l)) :
    Calls Try.prog 7 #[.slice (some ⟨b0, o0, none⟩) l.length cap, .agg #[.int .i64 c, .int .i64 r]] w fun e w' => e = .returned (.bool true) ∧ Below w.heap.size w w' := by
  have hasc := (mayM_iff.1 hy).2.2
  have hun : uniM (l.take k) (l.drop k) = l := by have h := uniM_append (a := l.take k) (b := l.drop k) (by rw [List.take_append_drop]; exact hasc); rw [List.take_append_drop] at h; exact h
  have hdk : (l.drop k).length = l.length - k := List.length_drop ..
  have htk : (l.take k).length = k := by rw [List.length_take]; omega
  have hlm : l.length ≤ maxLen := by unfold maxLen; omega
  have hbx := (Below.refl w.heap.size w).alloc (Nat.le_refl _) (.cells #[.int .i64 c, .int .i64 r] 24)
  have hI0 : Is (w.alloc (.cells #[.int .i64 c, .int .i64 r] 24)) w.heap.size 24 [.int .i64 c, .int .i64 r] := is_new w 24 [.int .i64 c, .int .i64 r]
  have HC := Lib.hid (hc.keep hbx)
  have HI := Lib.hid hI0
  have HBX := Lib.hid hbx
  have HM := Lib.hid hM
  have HL := Lib.hid hlm
  have HF := Lib.hid hf
  have HY := Lib.hid hy
  have HS := Lib.hid hs
  have HLO := Lib.hid hlo
  have HHI := Lib.hid hhi
  have HUN := Lib.hid hun
  have HDK := Lib.hid hdk
  have HTK := Lib.hid htk
  clear hc hI0 hbx hM hf hy hs hlo hhi hun hasc hlm hdk htk
  go_enter Try.func7, Try.ntmps7
  go_wp2_with fail
  refine (rmfew_k (l := l) 60 HF.out HL.out (by omega) HC.out _ rfl).mono ?_
  rintro e w1 ⟨rfl, rfl⟩
  go_wp2_with fail
  refine (rmmay_k (l := l) HY.out HL.out HM.out HC.out).mono ?_
  rintro e w2 ⟨rfl, hb2⟩
  have hbw2 := bthen HBX.out hb2
  have HI2 := Lib.hid (is_below HI.out hb2 (is_lt HI.out))
  have HC2 := Lib.hid (HC.out.keep hb2)
  obtain ⟨t0, t1⟩ := box2 HI2.out
  clear hb2
  go_wp2_with fail
  refine (msince_k (N := l.length - k) l (l.drop k) HS.out HDK.out rfl (by omega) HC2.out).mono ?_
  rintro e w3 ⟨A3, c3, rfl, ha3, hn3, hc3, hb3⟩
  have hbw3 := bthen hbw2 hb3
  have HI3 := Lib.hid (is_below HI2.out hb3 (is_lt HI2.out))
  have HC3 := Lib.hid (HC2.out.keep hb3)
  have HA3 := Lib.hid ha3
  clear ha3 hn3 hc3 hb3 t0 t1
  have hcs : ((l.length - k : Nat) : Int) = (l.length : Int) - (k : Int) := by omega
  have hat : IntKind.i64.wrap ((l.length : Int) - ((l.length - k : Nat) : Int)) = (k : Int) := by rw [hcs, show (l.length : Int) - ((l.length : Int) - (k : Int)) = (k : Int) by omega]; exact IntWalk.i64_in _ (by omega)
  have hk0 : (0 : Int) ≤ (k : Int) := by omega
  have hkl : (k : Int) ≤ (l.length : Int) := by omega
  have hkc : (k : Int) ≤ (cap : Int) := by omega
  have hkn : ¬ ((k : Int) < 0) := by omega
  have hkb : decide ((k : Int) < 0) = false := decide_eq_false hkn
  clear hcs
  go_wp2_with fail
  refine (rmsame_k (l.drop k) (l.drop k) (sameM_refl _) HDK.out HDK.out (by omega) (by omega) (drop_moves k HM.out) (drop_moves k HM.out) (at_dropM HC3.out k) HA3.out).mono ?_
  rintro e w4 ⟨rfl, hb4⟩
  have hbw4 := bthen hbw3 hb4
  have HI4 := Lib.hid (is_below HI3.out hb4 (is_lt HI3.out))
  have HC4 := Lib.hid (HC3.out.keep hb4)
  have HA4 := Lib.hid (HA3.out.keep hb4)
  clear hb4
  go_wp2_with fail
  go_loopw [7] (fun i wr => ∃ j : Nat, i = .int .i64 (j : Int) ∧ j ≤ l.length ∧ Below w4.heap.size w4 wr) (fun i _ => l.length - (intOf i).toNat)
  case atStart => exact ⟨0, rfl, Nat.zero_le _, Below.refl _ _⟩
  case round =>
    obtain ⟨j, rfl, hj, hbr⟩ := hrel
    have HIr := Lib.hid (is_below HI4.out hbr (is_lt HI4.out))
    have HCr := Lib.hid (HC4.out.keep hbr)
    by_cases hlt : j < l.length
    · obtain ⟨x, hx⟩ := some_at hlt
      have HX := Lib.hid hx
      have hj0 : (0 : Int) ≤ (j : Int) := by omega
      have hjl : (j : Int) < (l.length : Int) := by omega
      by_cases hjk : k ≤ j
      · have hb : befM c r x = true := HHI.out x (List.mem_of_getElem? (i := j - k) (by rw [List.getElem?_drop, show k + (j - k) = j by omega]; exact hx))
        have hd1 : decide ((k : Int) ≤ (j : Int)) = true := decide_eq_true (by omega)
        have hd2 : decide (k ≤ j) = true := decide_eq_true (by omega)
        have HB := Lib.hid hb
        clear hx hb
        go_wp2_with fail
        refine quiet_held (fun w' => Below wr.heap.size wr w') (by kernel_rfl) (by kernel_rfl) (Below.refl _ _).drew ?_
        repeat (first
          | go_big_quiet_skip
          | (simp only [hd1])
          | (simp only [hd2])
          | (go_big_quiet_want; go_big_quiet_op; go_big_quiet_on)
          | (go_big_quiet_want; apply Exists.intro; refine ⟨fun wq hq => ?_, ?_⟩; (focus (obtain ⟨b9, o9, e9, -, d0, d1, d2, d3, d4, d5⟩ := move_cells (HCr.out.keep hq) HX.out; cases e9; obtain ⟨t0, t1⟩ := box2 (is_below HIr.out hq (is_lt HIr.out)); unfold Oper.quietAt; go_simp; all_goals (first | rfl | (refine (rbef_k HB.out _).mono ?_; rintro e w5 ⟨rfl, hbn⟩; exact ⟨rfl, hq.trans (hbn.mono hq.size)⟩)))); simp only [Act.put, List.setIfInBounds_toArray, List.set_cons_zero, List.set_cons_succ]; go_big_quiet_on))
        refine wpQuiet_nil ?_
        intro w6 hb6
        go_wp2_with fail
        go_roundw
        case rel => exact ⟨j + 1, by go_num, by omega, hbr.trans (hb6.mono hbr.size)⟩
        case measure => simp only [intOf]; omega
      · have hb : befM c r x = false := HLO.out x (List.mem_of_getElem? (i := j) (by rw [List.getElem?_take_of_lt (by omega)]; exact hx))
        have hd1 : decide ((k : Int) ≤ (j : Int)) = false := decide_eq_false (by omega)
        have hd2 : decide (k ≤ j) = false := decide_eq_false (by omega)
        have HB := Lib.hid hb
        clear hx hb
        go_wp2_with fail
        refine quiet_held (fun w' => Below wr.heap.size wr w') (by kernel_rfl) (by kernel_rfl) (Below.refl _ _).drew ?_
        repeat (first
          | go_big_quiet_skip
          | (simp only [hd1])
          | (simp only [hd2])
          | (go_big_quiet_want; go_big_quiet_op; go_big_quiet_on)
          | (go_big_quiet_want; apply Exists.intro; refine ⟨fun wq hq => ?_, ?_⟩; (focus (obtain ⟨b9, o9, e9, -, d0, d1, d2, d3, d4, d5⟩ := move_cells (HCr.out.keep hq) HX.out; cases e9; obtain ⟨t0, t1⟩ := box2 (is_below HIr.out hq (is_lt HIr.out)); unfold Oper.quietAt; go_simp; all_goals (first | rfl | (refine (rbef_k HB.out _).mono ?_; rintro e w5 ⟨rfl, hbn⟩; exact ⟨rfl, hq.trans (hbn.mono hq.size)⟩)))); simp only [Act.put, List.setIfInBounds_toArray, List.set_cons_zero, List.set_cons_succ]; go_big_quiet_on))
        refine wpQuiet_nil ?_
        intro w6 hb6
        go_wp2_with fail
        go_roundw
        case rel => exact ⟨j + 1, by go_num, by omega, hbr.trans (hb6.mono hbr.size)⟩
        case measure => simp only [intOf]; omega
    · obtain rfl : j = l.length := by omega
      have hbwr := hbw4.trans (hbr.mono hbw4.size)
      have HAr := Lib.hid (HA4.out.keep hbr)
      clear hbr
      go_wp2_with fail
      refine (muni_k (l.take k) (l.drop k) l HUN.out rfl HTK.out HDK.out (by omega) (fun h => by cases h) (by omega) (at_takeM HCr.out k) HAr.out).mono ?_
      rintro e w7 ⟨A7, c7, rfl, ha7, -, -, hb7⟩
      have hbw7 := bthen hbwr hb7
      have HC7 := Lib.hid (HCr.out.keep hb7)
      have HA7 := Lib.hid ha7
      clear ha7 hb7
      go_wp2_with fail
      refine (rmsame_k l l (sameM_refl _) rfl rfl (by omega) (by omega) HM.out HM.out HA7.out HC7.out).mono ?_
      rintro e w8 ⟨rfl, hb8⟩
      have hbw8 := bthen hbw7 hb8
      go_wp2_with fail
      refine (live13_c _).mono ?_
      rintro e w9 ⟨rfl, hb9⟩
      go_wp2_with fail
      go_ret
      exact ⟨rfl, bthen hbw8 hb9⟩
set_option maxHeartbeats 8000000 in
theorem go_full (l : List Mv) (b0 o0 : Nat) (c r : Int) (k : Nat) (hl60 : l.length ≤ 60) (hM : Moves_ l) (hf : fewM l 60 = true) (hy : mayM l = true) (hk : k ≤ l.length) (hs : sinM l c r = l.drop k) (hlo : ∀ y ∈ l.take k, befM c r y = false) (hhi : ∀ y ∈ l.drop k, befM c r y = true) (hlk : Hid (l.length = k)) (w : World) (hc : At w w.heap.size (some ⟨b0, o0, none⟩) (mvs l)) :
    Calls Try.prog 7 #[.slice (some ⟨b0, o0, none⟩) l.length k, .agg #[.int .i64 c, .int .i64 r]] w fun e w' => e = .returned (.bool true) ∧ Below w.heap.size w w' := by
  have hasc := (mayM_iff.1 hy).2.2
  have hun : uniM (l.take k) (l.drop k) = l := by have h := uniM_append (a := l.take k) (b := l.drop k) (by rw [List.take_append_drop]; exact hasc); rw [List.take_append_drop] at h; exact h
  have hdk : (l.drop k).length = l.length - k := List.length_drop ..
  have htk : (l.take k).length = k := by rw [List.length_take]; omega
  have hlm : l.length ≤ maxLen := by unfold maxLen; omega
  have hbx := (Below.refl w.heap.size w).alloc (Nat.le_refl _) (.cells #[.int .i64 c, .int .i64 r] 24)
  have hI0 : Is (w.alloc (.cells #[.int .i64 c, .int .i64 r] 24)) w.heap.size 24 [.int .i64 c, .int .i64 r] := is_new w 24 [.int .i64 c, .int .i64 r]
  have HC := Lib.hid (hc.keep hbx)
  have HI := Lib.hid hI0
  have HBX := Lib.hid hbx
  have HM := Lib.hid hM
  have HL := Lib.hid hlm
  have HF := Lib.hid hf
  have HY := Lib.hid hy
  have HS := Lib.hid hs
  have HLO := Lib.hid hlo
  have HHI := Lib.hid hhi
  have HUN := Lib.hid hun
  have HDK := Lib.hid hdk
  have HTK := Lib.hid htk
  clear hc hI0 hbx hM hf hy hs hlo hhi hun hasc hlm hdk htk
  go_enter Try.func7, Try.ntmps7
  go_wp2_with fail
  refine (rmfew_k (l := l) 60 HF.out HL.out (by omega) HC.out _ rfl).mono ?_
  rintro e w1 ⟨rfl, rfl⟩
  go_wp2_with fail
  refine (rmmay_k (l := l) HY.out HL.out HM.out HC.out).mono ?_
  rintro e w2 ⟨rfl, hb2⟩
  have hbw2 := bthen HBX.out hb2
  have HI2 := Lib.hid (is_below HI.out hb2 (is_lt HI.out))
  have HC2 := Lib.hid (HC.out.keep hb2)
  obtain ⟨t0, t1⟩ := box2 HI2.out
  clear hb2
  go_wp2_with fail
  refine (msince_k (N := l.length - k) l (l.drop k) HS.out HDK.out rfl (by omega) HC2.out).mono ?_
  rintro e w3 ⟨A3, c3, rfl, ha3, hn3, hc3, hb3⟩
  have hbw3 := bthen hbw2 hb3
  have HI3 := Lib.hid (is_below HI2.out hb3 (is_lt HI2.out))
  have HC3 := Lib.hid (HC2.out.keep hb3)
  have HA3 := Lib.hid ha3
  clear ha3 hn3 hc3 hb3 t0 t1
  have hcs : ((l.length - k : Nat) : Int) = (l.length : Int) - (k : Int) := by omega
  have hat : IntKind.i64.wrap ((l.length : Int) - ((l.length - k : Nat) : Int)) = (k : Int) := by rw [hcs, show (l.length : Int) - ((l.length : Int) - (k : Int)) = (k : Int) by omega]; exact IntWalk.i64_in _ (by omega)
  have hk0 : (0 : Int) ≤ (k : Int) := by omega
  have hkl : (k : Int) ≤ (l.length : Int) := by omega
  have hkc : (k : Int) ≤ (k : Int) := by omega
  have hkn : ¬ ((k : Int) < 0) := by omega
  have hkb : decide ((k : Int) < 0) = false := decide_eq_false hkn
  clear hcs
  go_wp2_with fail
  refine (rmsame_k (l.drop k) (l.drop k) (sameM_refl _) HDK.out HDK.out (by omega) (by omega) (drop_moves k HM.out) (drop_moves k HM.out) (at_zeroM (by rw [HDK.out]; have := hlk.out; omega)) HA3.out).mono ?_
  rintro e w4 ⟨rfl, hb4⟩
  have hbw4 := bthen hbw3 hb4
  have HI4 := Lib.hid (is_below HI3.out hb4 (is_lt HI3.out))
  have HC4 := Lib.hid (HC3.out.keep hb4)
  have HA4 := Lib.hid (HA3.out.keep hb4)
  clear hb4
  go_wp2_with fail
  go_loopw [7] (fun i wr => ∃ j : Nat, i = .int .i64 (j : Int) ∧ j ≤ l.length ∧ Below w4.heap.size w4 wr) (fun i _ => l.length - (intOf i).toNat)
  case atStart => exact ⟨0, rfl, Nat.zero_le _, Below.refl _ _⟩
  case round =>
    obtain ⟨j, rfl, hj, hbr⟩ := hrel
    have HIr := Lib.hid (is_below HI4.out hbr (is_lt HI4.out))
    have HCr := Lib.hid (HC4.out.keep hbr)
    by_cases hlt : j < l.length
    · obtain ⟨x, hx⟩ := some_at hlt
      have HX := Lib.hid hx
      have hj0 : (0 : Int) ≤ (j : Int) := by omega
      have hjl : (j : Int) < (l.length : Int) := by omega
      by_cases hjk : k ≤ j
      · have hb : befM c r x = true := HHI.out x (List.mem_of_getElem? (i := j - k) (by rw [List.getElem?_drop, show k + (j - k) = j by omega]; exact hx))
        have hd1 : decide ((k : Int) ≤ (j : Int)) = true := decide_eq_true (by omega)
        have hd2 : decide (k ≤ j) = true := decide_eq_true (by omega)
        have HB := Lib.hid hb
        clear hx hb
        go_wp2_with fail
        refine quiet_held (fun w' => Below wr.heap.size wr w') (by kernel_rfl) (by kernel_rfl) (Below.refl _ _).drew ?_
        repeat (first
          | go_big_quiet_skip
          | (simp only [hd1])
          | (simp only [hd2])
          | (go_big_quiet_want; go_big_quiet_op; go_big_quiet_on)
          | (go_big_quiet_want; apply Exists.intro; refine ⟨fun wq hq => ?_, ?_⟩; (focus (obtain ⟨b9, o9, e9, -, d0, d1, d2, d3, d4, d5⟩ := move_cells (HCr.out.keep hq) HX.out; cases e9; obtain ⟨t0, t1⟩ := box2 (is_below HIr.out hq (is_lt HIr.out)); unfold Oper.quietAt; go_simp; all_goals (first | rfl | (refine (rbef_k HB.out _).mono ?_; rintro e w5 ⟨rfl, hbn⟩; exact ⟨rfl, hq.trans (hbn.mono hq.size)⟩)))); simp only [Act.put, List.setIfInBounds_toArray, List.set_cons_zero, List.set_cons_succ]; go_big_quiet_on))
        refine wpQuiet_nil ?_
        intro w6 hb6
        go_wp2_with fail
        go_roundw
        case rel => exact ⟨j + 1, by go_num, by omega, hbr.trans (hb6.mono hbr.size)⟩
        case measure => simp only [intOf]; omega
      · have hb : befM c r x = false := HLO.out x (List.mem_of_getElem? (i := j) (by rw [List.getElem?_take_of_lt (by omega)]; exact hx))
        have hd1 : decide ((k : Int) ≤ (j : Int)) = false := decide_eq_false (by omega)
        have hd2 : decide (k ≤ j) = false := decide_eq_false (by omega)
        have HB := Lib.hid hb
        clear hx hb
        go_wp2_with fail
        refine quiet_held (fun w' => Below wr.heap.size wr w') (by kernel_rfl) (by kernel_rfl) (Below.refl _ _).drew ?_
        repeat (first
          | go_big_quiet_skip
          | (simp only [hd1])
          | (simp only [hd2])
          | (go_big_quiet_want; go_big_quiet_op; go_big_quiet_on)
          | (go_big_quiet_want; apply Exists.intro; refine ⟨fun wq hq => ?_, ?_⟩; (focus (obtain ⟨b9, o9, e9, -, d0, d1, d2, d3, d4, d5⟩ := move_cells (HCr.out.keep hq) HX.out; cases e9; obtain ⟨t0, t1⟩ := box2 (is_below HIr.out hq (is_lt HIr.out)); unfold Oper.quietAt; go_simp; all_goals (first | rfl | (refine (rbef_k HB.out _).mono ?_; rintro e w5 ⟨rfl, hbn⟩; exact ⟨rfl, hq.trans (hbn.mono hq.size)⟩)))); simp only [Act.put, List.setIfInBounds_toArray, List.set_cons_zero, List.set_cons_succ]; go_big_quiet_on))
        refine wpQuiet_nil ?_
        intro w6 hb6
        go_wp2_with fail
        go_roundw
        case rel => exact ⟨j + 1, by go_num, by omega, hbr.trans (hb6.mono hbr.size)⟩
        case measure => simp only [intOf]; omega
    · obtain rfl : j = l.length := by omega
      have hbwr := hbw4.trans (hbr.mono hbw4.size)
      have HAr := Lib.hid (HA4.out.keep hbr)
      clear hbr
      go_wp2_with fail
      refine (muni_k (l.take k) (l.drop k) l HUN.out rfl HTK.out HDK.out (by omega) (fun h => by cases h) (by omega) (at_takeM HCr.out k) HAr.out).mono ?_
      rintro e w7 ⟨A7, c7, rfl, ha7, -, -, hb7⟩
      have hbw7 := bthen hbwr hb7
      have HC7 := Lib.hid (HCr.out.keep hb7)
      have HA7 := Lib.hid ha7
      clear ha7 hb7
      go_wp2_with fail
      refine (rmsame_k l l (sameM_refl _) rfl rfl (by omega) (by omega) HM.out HM.out HA7.out HC7.out).mono ?_
      rintro e w8 ⟨rfl, hb8⟩
      have hbw8 := bthen hbw7 hb8
      go_wp2_with fail
      refine (live13_c _).mono ?_
      rintro e w9 ⟨rfl, hb9⟩
      go_wp2_with fail
      go_ret
      exact ⟨rfl, bthen hbw8 hb9⟩
set_option maxHeartbeats 8000000 in
theorem go_nil  (c r : Int) (w : World) :
    Calls Try.prog 7 #[.slice none 0 0, .agg #[.int .i64 c, .int .i64 r]] w fun e w' => e = .returned (.bool true) ∧ Below w.heap.size w w' := by
  have hbx := (Below.refl w.heap.size w).alloc (Nat.le_refl _) (.cells #[.int .i64 c, .int .i64 r] 24)
  have hI0 : Is (w.alloc (.cells #[.int .i64 c, .int .i64 r] 24)) w.heap.size 24 [.int .i64 c, .int .i64 r] := is_new w 24 [.int .i64 c, .int .i64 r]
  have HI := Lib.hid hI0
  have HBX := Lib.hid hbx
  have hM0 : Moves_ [] := fun m hm => by cases hm
  clear hI0 hbx
  go_enter Try.func7, Try.ntmps7
  go_wp2_with fail
  refine (rmfew_k (l := []) 60 (b := true) rfl (by decide) (by omega) (At.nil _ _ _) _ rfl).mono ?_
  rintro e w1 ⟨rfl, rfl⟩
  go_wp2_with fail
  refine (rmmay_k (l := []) (b := true) rfl (by decide) hM0 (At.nil _ _ _)).mono ?_
  rintro e w2 ⟨rfl, hb2⟩
  have hbw2 := bthen HBX.out hb2
  have HI2 := Lib.hid (is_below HI.out hb2 (is_lt HI.out))
  obtain ⟨t0, t1⟩ := box2 HI2.out
  clear hb2
  go_wp2_with fail
  refine (msince_k (N := 0) (c := c) (r := r) [] [] rfl rfl rfl (by decide) (At.nil _ _ _)).mono ?_
  rintro e w3 ⟨A3, c3, rfl, ha3, hn3, hc3, hb3⟩
  have hbw3 := bthen hbw2 hb3
  clear ha3 hn3 hc3 hb3 t0 t1
  go_wp2_with fail
  refine (rmsame_k [] [] (sameM_refl _) rfl rfl (by decide) (by decide) hM0 hM0 (At.nil _ _ _) (At.nil _ _ _)).mono ?_
  rintro e w4 ⟨rfl, hb4⟩
  have hbw4 := bthen hbw3 hb4
  go_wp2_with fail
  refine wp_loop_rounds 1 ?_
  rw [rounds_succ]
  go_wp2_with fail
  refine (muni_k [] [] [] rfl rfl rfl rfl (by decide) (fun _ => rfl) (by exact Nat.zero_le _) (At.nil _ _ _) (At.nil _ _ _)).mono ?_
  rintro e w7 ⟨A7, c7, rfl, ha7, -, -, hb7⟩
  have hbw7 := bthen hbw4 hb7
  clear ha7 hb7
  go_wp2_with fail
  refine (rmsame_k [] [] (sameM_refl _) rfl rfl (by decide) (by decide) hM0 hM0 (At.nil _ _ _) (At.nil _ _ _)).mono ?_
  rintro e w8 ⟨rfl, hb8⟩
  have hbw8 := bthen hbw7 hb8
  go_wp2_with fail
  refine (live13_c _).mono ?_
  rintro e w9 ⟨rfl, hb9⟩
  go_wp2_with fail
  go_ret
  exact ⟨rfl, bthen hbw8 hb9⟩
set_option maxHeartbeats 8000000 in
theorem go_zero (b0 o0 : Nat) (sp : Option Nat) (c r : Int) (w : World) :
    Calls Try.prog 7 #[.slice (some ⟨b0, o0, sp⟩) 0 0, .agg #[.int .i64 c, .int .i64 r]] w fun e w' => e = .returned (.bool true) ∧ Below w.heap.size w w' := by
  have hbx := (Below.refl w.heap.size w).alloc (Nat.le_refl _) (.cells #[.int .i64 c, .int .i64 r] 24)
  have hI0 : Is (w.alloc (.cells #[.int .i64 c, .int .i64 r] 24)) w.heap.size 24 [.int .i64 c, .int .i64 r] := is_new w 24 [.int .i64 c, .int .i64 r]
  have HI := Lib.hid hI0
  have HBX := Lib.hid hbx
  have hM0 : Moves_ [] := fun m hm => by cases hm
  clear hI0 hbx
  go_enter Try.func7, Try.ntmps7
  go_wp2_with fail
  refine (rmfew_k (l := []) 60 (b := true) rfl (by decide) (by omega) (At.nil _ _ _) _ rfl).mono ?_
  rintro e w1 ⟨rfl, rfl⟩
  go_wp2_with fail
  refine (rmmay_k (l := []) (b := true) rfl (by decide) hM0 (At.nil _ _ _)).mono ?_
  rintro e w2 ⟨rfl, hb2⟩
  have hbw2 := bthen HBX.out hb2
  have HI2 := Lib.hid (is_below HI.out hb2 (is_lt HI.out))
  obtain ⟨t0, t1⟩ := box2 HI2.out
  clear hb2
  go_wp2_with fail
  refine (msince_k (N := 0) (c := c) (r := r) [] [] rfl rfl rfl (by decide) (At.nil _ _ _)).mono ?_
  rintro e w3 ⟨A3, c3, rfl, ha3, hn3, hc3, hb3⟩
  have hbw3 := bthen hbw2 hb3
  clear ha3 hn3 hc3 hb3 t0 t1
  go_wp2_with fail
  refine (rmsame_k [] [] (sameM_refl _) rfl rfl (by decide) (by decide) hM0 hM0 (At.nil _ _ _) (At.nil _ _ _)).mono ?_
  rintro e w4 ⟨rfl, hb4⟩
  have hbw4 := bthen hbw3 hb4
  go_wp2_with fail
  refine wp_loop_rounds 1 ?_
  rw [rounds_succ]
  go_wp2_with fail
  refine (muni_k [] [] [] rfl rfl rfl rfl (by decide) (fun h => by cases h) (by exact Nat.zero_le _) (At.nil _ _ _) (At.nil _ _ _)).mono ?_
  rintro e w7 ⟨A7, c7, rfl, ha7, -, -, hb7⟩
  have hbw7 := bthen hbw4 hb7
  clear ha7 hb7
  go_wp2_with fail
  refine (rmsame_k [] [] (sameM_refl _) rfl rfl (by decide) (by decide) hM0 hM0 (At.nil _ _ _) (At.nil _ _ _)).mono ?_
  rintro e w8 ⟨rfl, hb8⟩
  have hbw8 := bthen hbw7 hb8
  go_wp2_with fail
  refine (live13_c _).mono ?_
  rintro e w9 ⟨rfl, hb9⟩
  go_wp2_with fail
  go_ret
  exact ⟨rfl, bthen hbw8 hb9⟩
set_option maxHeartbeats 8000000 in
theorem go_room (b0 o0 cap : Nat) (sp : Option Nat) (hc0 : ¬ cap = 0) (c r : Int) (w : World) :
    Calls Try.prog 7 #[.slice (some ⟨b0, o0, sp⟩) 0 cap, .agg #[.int .i64 c, .int .i64 r]] w fun e w' => e = .returned (.bool true) ∧ Below w.heap.size w w' := by
  have hbx := (Below.refl w.heap.size w).alloc (Nat.le_refl _) (.cells #[.int .i64 c, .int .i64 r] 24)
  have hI0 : Is (w.alloc (.cells #[.int .i64 c, .int .i64 r] 24)) w.heap.size 24 [.int .i64 c, .int .i64 r] := is_new w 24 [.int .i64 c, .int .i64 r]
  have HI := Lib.hid hI0
  have HBX := Lib.hid hbx
  have hM0 : Moves_ [] := fun m hm => by cases hm
  clear hI0 hbx
  go_enter Try.func7, Try.ntmps7
  go_wp2_with fail
  refine (rmfew_k (l := []) 60 (b := true) rfl (by decide) (by omega) (At.nil _ _ _) _ rfl).mono ?_
  rintro e w1 ⟨rfl, rfl⟩
  go_wp2_with fail
  refine (rmmay_k (l := []) (b := true) rfl (by decide) hM0 (At.nil _ _ _)).mono ?_
  rintro e w2 ⟨rfl, hb2⟩
  have hbw2 := bthen HBX.out hb2
  have HI2 := Lib.hid (is_below HI.out hb2 (is_lt HI.out))
  obtain ⟨t0, t1⟩ := box2 HI2.out
  clear hb2
  go_wp2_with fail
  refine (msince_k (N := 0) (c := c) (r := r) [] [] rfl rfl rfl (by decide) (At.nil _ _ _)).mono ?_
  rintro e w3 ⟨A3, c3, rfl, ha3, hn3, hc3, hb3⟩
  have hbw3 := bthen hbw2 hb3
  clear ha3 hn3 hc3 hb3 t0 t1
  go_wp2_with fail
  refine (rmsame_k [] [] (sameM_refl _) rfl rfl (by decide) (by decide) hM0 hM0 (At.nil _ _ _) (At.nil _ _ _)).mono ?_
  rintro e w4 ⟨rfl, hb4⟩
  have hbw4 := bthen hbw3 hb4
  go_wp2_with fail
  refine wp_loop_rounds 1 ?_
  rw [rounds_succ]
  go_wp2_with fail
  refine (muni_k [] [] [] rfl rfl rfl rfl (by decide) (fun h => by cases h) (by exact Nat.zero_le _) (At.nil _ _ _) (At.nil _ _ _)).mono ?_
  rintro e w7 ⟨A7, c7, rfl, ha7, -, -, hb7⟩
  have hbw7 := bthen hbw4 hb7
  clear ha7 hb7
  go_wp2_with fail
  refine (rmsame_k [] [] (sameM_refl _) rfl rfl (by decide) (by decide) hM0 hM0 (At.nil _ _ _) (At.nil _ _ _)).mono ?_
  rintro e w8 ⟨rfl, hb8⟩
  have hbw8 := bthen hbw7 hb8
  go_wp2_with fail
  refine (live13_c _).mono ?_
  rintro e w9 ⟨rfl, hb9⟩
  go_wp2_with fail
  go_ret
  exact ⟨rfl, bthen hbw8 hb9⟩
theorem walk (A : Option Addr) (cap : Nat) (l : List Mv) (c r : Int) (hA : A = none → cap = 0) (hcap : l.length ≤ cap) (hl : l.length ≤ maxLen) (hM : Moves_ l) (w : World) (hc : At w w.heap.size A (mvs l)) :
    Calls Try.prog 7 #[.slice A l.length cap, .agg #[.int .i64 c, .int .i64 r]] w fun e w' => e = .returned (.bool true) ∧ Below w.heap.size w w' := by
  by_cases hok : (fewM l 60 && mayM l) = true
  · rw [Bool.and_eq_true] at hok
    obtain ⟨hf, hy⟩ := hok
    obtain ⟨hl60, -⟩ := fewM_in hf
    obtain ⟨k, hk, hs, hlo, hhi⟩ := sinM_cut c r (mayM_iff.1 hy).2.2
    cases A with
    | none =>
      obtain rfl := hA rfl
      obtain rfl : l = [] := List.eq_nil_of_length_eq_zero (by omega)
      exact go_nil c r w
    | some a =>
      obtain ⟨b0, o0, sp⟩ := a
      by_cases hle : l = []
      · subst hle
        by_cases hcj : cap = 0
        · subst hcj
          exact go_zero b0 o0 sp c r w
        · exact go_room b0 o0 cap sp hcj c r w
      · obtain ⟨x0, hx0⟩ : ∃ x0, l[0]? = some x0 := some_at (List.length_pos_iff.2 hle)
        obtain ⟨b1, o1, e1, -⟩ := move_cells hc hx0
        cases e1
        by_cases hck : cap = k
        · subst hck
          exact go_full l b0 o0 c r cap hl60 hM hf hy hk hs hlo hhi (Lib.hid (by omega)) w hc
        · exact go_some l b0 o0 cap c r k hl60 hM hf hy hk hs hlo hhi hcap hck w hc
  · exact live_in A cap l c r hl hM (by simpa using hok) w hc
end movesSince
end Go.Proofs.Ytihaiabkjmmmoaa
