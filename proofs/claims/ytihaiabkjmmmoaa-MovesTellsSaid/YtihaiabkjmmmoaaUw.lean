/-
  The walk of MovesTells.
-/
import Derived.Test.YtihaiabkjmmmoaaUr
import Derived.Deep.RegionHeld3
import Derived.Deep.RegionWith
namespace Go.Proofs.Ytihaiabkjmmmoaa
open Go.RowKit Go.IntWalk
open Wd Fl
set_option maxRecDepth 100000
attribute [local go_sem] Oper.semAt_some

theorem rmay_b {A : Option Addr} {cap : Nat} {l : List Mv} {b : Bool} (h : mayM l = b) (hl : l.length ≤ maxLen) (hM : Moves_ l) {w : World} (hc : At w w.heap.size A (mvs l)) :
    Calls Try.prog 22 #[.slice A l.length cap] w fun e w' => e = .returned (.bool b) ∧ Below w.heap.size w w' := rmmay_k h hl hM hc
theorem rmsince_k {A : Option Addr} {cap n N : Nat} {c r : Int} (l L : List Mv) (h : sinM l c r = L) (hN : L.length = N) (hn : l.length = n) (hl : n ≤ 1000) {w : World} (hc : At w w.heap.size A (mvs l)) :
    Calls Try.prog 26 #[.slice A n cap, .agg #[.int .i64 c, .int .i64 r]] w fun e w' => ∃ A' cap', e = .returned (.slice A' N cap') ∧ At w' w'.heap.size A' (mvs L) ∧ (A' = none → cap' = 0) ∧ N ≤ cap' ∧ Below w.heap.size w w' := by
  subst hN hn h
  refine (rmsince_c A cap l c r (by omega) w hc).mono ?_
  rintro e w' ⟨A', cap', rfl, hown, hb⟩
  obtain ⟨A2, cap2, he, h1, h2, h3, h4⟩ := own_toldM hown hb
  cases he
  exact ⟨A', cap', rfl, h1, h2, h3, h4⟩
theorem rmuni_k {A1 A2 : Option Addr} {c1 c2 n1 n2 N : Nat} (a b L : List Mv) (h : uniM a b = L) (hN : L.length = N) (hn1 : a.length = n1) (hn2 : b.length = n2) (hl : n1 + n2 ≤ 1000) (hA : A1 = none → c1 = 0) (hcap : n1 ≤ c1) {w : World} (h1 : At w w.heap.size A1 (mvs a)) (h2 : At w w.heap.size A2 (mvs b)) :
    Calls Try.prog 28 #[.slice A1 n1 c1, .slice A2 n2 c2] w fun e w' => ∃ A' cap', e = .returned (.slice A' N cap') ∧ At w' w'.heap.size A' (mvs L) ∧ (A' = none → cap' = 0) ∧ N ≤ cap' ∧ Below w.heap.size w w' := by
  subst hN hn1 hn2 h
  exact rmuni_c A1 A2 c1 c2 a b (by omega) hA hcap w h1 h2
theorem keepT {w w1 w3 : World} {G : Nat} {A B : Option Addr} {l o : List Mv} {tc tr : Int} (h : w1.cell? ⟨G, 0, none⟩ = some (.int .i64 tc) ∧ w1.cell? ⟨G, 1, none⟩ = some (.int .i64 tr) ∧ At w1 w1.heap.size A (mvs l) ∧ At w1 w1.heap.size B (mvs o) ∧ Below w.heap.size w w1) (hb : Below w1.heap.size w1 w3) : w3.cell? ⟨G, 0, none⟩ = some (.int .i64 tc) ∧ w3.cell? ⟨G, 1, none⟩ = some (.int .i64 tr) ∧ At w3 w3.heap.size A (mvs l) ∧ At w3 w3.heap.size B (mvs o) ∧ Below w.heap.size w w3 :=
  ⟨keep_cell hb h.1, keep_cell hb h.2.1, h.2.2.1.keep hb, h.2.2.2.1.keep hb, h.2.2.2.2.trans (hb.mono h.2.2.2.2.size)⟩
theorem sT_l {w w1 : World} {G : Nat} {A B : Option Addr} {l o : List Mv} {tc tr : Int} (h : w1.cell? ⟨G, 0, none⟩ = some (.int .i64 tc) ∧ w1.cell? ⟨G, 1, none⟩ = some (.int .i64 tr) ∧ At w1 w1.heap.size A (mvs l) ∧ At w1 w1.heap.size B (mvs o) ∧ Below w.heap.size w w1) : At w1 w1.heap.size A (mvs l) := h.2.2.1
theorem sT_o {w w1 : World} {G : Nat} {A B : Option Addr} {l o : List Mv} {tc tr : Int} (h : w1.cell? ⟨G, 0, none⟩ = some (.int .i64 tc) ∧ w1.cell? ⟨G, 1, none⟩ = some (.int .i64 tr) ∧ At w1 w1.heap.size A (mvs l) ∧ At w1 w1.heap.size B (mvs o) ∧ Below w.heap.size w w1) : At w1 w1.heap.size B (mvs o) := h.2.2.2.1
theorem sT_b {w w1 : World} {G : Nat} {A B : Option Addr} {l o : List Mv} {tc tr : Int} (h : w1.cell? ⟨G, 0, none⟩ = some (.int .i64 tc) ∧ w1.cell? ⟨G, 1, none⟩ = some (.int .i64 tr) ∧ At w1 w1.heap.size A (mvs l) ∧ At w1 w1.heap.size B (mvs o) ∧ Below w.heap.size w w1) : Below w.heap.size w w1 := h.2.2.2.2

namespace movesTells
set_option maxHeartbeats 8000000 in
theorem live_in (A B : Option Addr) (cap cb : Nat) (l o : List Mv) (tc tr : Int) (_hA : A = none → cap = 0) (_hB : B = none → cb = 0) (_hcap : l.length ≤ cap) (_hcb : o.length ≤ cb) (hl : l.length ≤ maxLen) (hlo : o.length ≤ maxLen) (hM : Moves_ l) (hMo : Moves_ o) (h : (fewM l 60 && fewM o 60) = false) (w : World) (hc : At w w.heap.size A (mvs l)) (ho : At w w.heap.size B (mvs o)) :
    Calls Try.prog 3 #[.slice A l.length cap, .slice B o.length cb, .agg #[.int .i64 tc, .int .i64 tr]] w fun e w' => e = .returned (.bool true) ∧ Below w.heap.size w w' := by
  have hbx := (Below.refl w.heap.size w).alloc (Nat.le_refl _) (.cells #[.int .i64 tc, .int .i64 tr] 24)
  have hI0 : Is (w.alloc (.cells #[.int .i64 tc, .int .i64 tr] 24)) w.heap.size 24 [.int .i64 tc, .int .i64 tr] := is_new w 24 [.int .i64 tc, .int .i64 tr]
  have HI0 := Lib.hid hI0
  have HBX := Lib.hid hbx
  have HC0 := Lib.hid hc
  have HO0 := Lib.hid ho
  have HC := Lib.hid (hc.keep hbx)
  have HO := Lib.hid (ho.keep hbx)
  have HM := Lib.hid hM
  have HMo := Lib.hid hMo
  have HL := Lib.hid hl
  have HLo := Lib.hid hlo
  clear hI0 hc ho hbx hl hlo hM hMo
  cases g0 : fewM l 60 with
  | false =>
    have H0 := Lib.hid g0
    clear g0 h
    go_enter Try.func3, Try.ntmps3
    go_wp2_with fail
    refine (rmfew_k (b := false) 60 H0.out HL.out (by omega) HC.out _ rfl).mono ?_
    rintro e w1 ⟨rfl, rfl⟩
    go_wp2_with fail
    refine (live13_c _).mono ?_
    rintro e wz ⟨rfl, hbz⟩
    go_wp2_with fail
    go_ret
    exact ⟨rfl, bthen HBX.out hbz⟩
  | true =>
    have H0 := Lib.hid g0
    rw [g0, Bool.true_and] at h
    have H1 := Lib.hid h
    clear g0 h
    go_enter Try.func3, Try.ntmps3
    go_wp2_with fail
    refine (rmfew_k (b := true) 60 H0.out HL.out (by omega) HC.out _ rfl).mono ?_
    rintro e w1 ⟨rfl, rfl⟩
    go_wp2_with fail
    refine (rmfew_k (b := false) 60 H1.out HLo.out (by omega) HO.out _ rfl).mono ?_
    rintro e w1 ⟨rfl, rfl⟩
    go_wp2_with fail
    refine (live13_c _).mono ?_
    rintro e wz ⟨rfl, hbz⟩
    go_wp2_with fail
    go_ret
    exact ⟨rfl, bthen HBX.out hbz⟩

set_option maxHeartbeats 16000000 in
theorem main (A B : Option Addr) (cap cb : Nat) (l o : List Mv) (tc tr : Int) (hA : A = none → cap = 0) (_hB : B = none → cb = 0) (hcap : l.length ≤ cap) (_hcb : o.length ≤ cb) (hl : l.length ≤ maxLen) (hlo : o.length ≤ maxLen) (hM : Moves_ l) (hMo : Moves_ o) (f1 : fewM l 60 = true) (f2 : fewM o 60 = true) (w : World) (hc : At w w.heap.size A (mvs l)) (ho : At w w.heap.size B (mvs o)) :
    Calls Try.prog 3 #[.slice A l.length cap, .slice B o.length cb, .agg #[.int .i64 tc, .int .i64 tr]] w fun e w' => e = .returned (.bool true) ∧ Below w.heap.size w w' := by
  have hbx := (Below.refl w.heap.size w).alloc (Nat.le_refl _) (.cells #[.int .i64 tc, .int .i64 tr] 24)
  have hI0 : Is (w.alloc (.cells #[.int .i64 tc, .int .i64 tr] 24)) w.heap.size 24 [.int .i64 tc, .int .i64 tr] := is_new w 24 [.int .i64 tc, .int .i64 tr]
  have HI0 := Lib.hid hI0
  have HBX := Lib.hid hbx
  have HC0 := Lib.hid hc
  have HO0 := Lib.hid ho
  have HC := Lib.hid (hc.keep hbx)
  have HO := Lib.hid (ho.keep hbx)
  have HM := Lib.hid hM
  have HMo := Lib.hid hMo
  have HL := Lib.hid hl
  have HLo := Lib.hid hlo
  obtain ⟨hl60, -⟩ := fewM_in f1
  obtain ⟨ho60, -⟩ := fewM_in f2
  have H0 := Lib.hid f1
  have H1 := Lib.hid f2
  have HA := Lib.hid hA
  have HCAP := Lib.hid hcap
  have hul := uniM_len o l
  have hsl := sinM_len l tc tr
  have HMU := Lib.hid (uniM_moves hM hMo)
  have HMS : Hid (Moves_ (sinM l tc tr)) := Lib.hid (fun x hx => hM x (List.mem_filter.1 hx).1)
  obtain ⟨U, hU⟩ : ∃ U, uniM l o = U := ⟨_, rfl⟩
  obtain ⟨V, hV⟩ : ∃ V, sinM l tc tr = V := ⟨_, rfl⟩
  obtain ⟨Y, hY⟩ : ∃ Y, mayM l = Y := ⟨_, rfl⟩
  obtain ⟨Z, hZ⟩ : ∃ Z, sameM l o = Z := ⟨_, rfl⟩
  rw [hU] at hul
  rw [hV] at hsl
  have HU := Lib.hid hU
  have HV := Lib.hid hV
  have HY := Lib.hid hY
  have HZ := Lib.hid hZ
  have HMU2 : Hid (Moves_ U) := Lib.hid (by have h := HMU.out; rw [hU] at h; exact h)
  have HMS2 : Hid (Moves_ V) := Lib.hid (by have h := HMS.out; rw [hV] at h; exact h)
  clear hI0 hc ho hbx hl hlo hM hMo hA hcap f1 f2 hU hV hY hZ HMU HMS
  go_enter Try.func3, Try.ntmps3
  go_wp2_with fail
  refine (rmfew_k (b := true) 60 H0.out HL.out (by omega) HC.out _ rfl).mono ?_
  rintro e w1 ⟨rfl, rfl⟩
  go_wp2_with fail
  refine (rmfew_k (b := true) 60 H1.out HLo.out (by omega) HO.out _ rfl).mono ?_
  rintro e w1 ⟨rfl, rfl⟩
  go_wp2_with fail
  go_loopw [7] (fun i wr => ∃ j : Nat, i = .int .i64 (j : Int) ∧ j ≤ l.length ∧ Below w.heap.size w wr ∧ Is wr w.heap.size 24 [.int .i64 tc, .int .i64 tr]) (fun i _ => l.length - (intOf i).toNat)
  case atStart => exact ⟨0, rfl, Nat.zero_le _, HBX.out, HI0.out⟩
  case round =>
    obtain ⟨j, rfl, hj, hbw, hI⟩ := hrel
    have HIr := Lib.hid hI
    have HCr := Lib.hid (HC0.out.keep hbw)
    clear hI
    by_cases hlt : j < l.length
    · obtain ⟨x, hx⟩ := some_at hlt
      obtain ⟨b0, o0, rfl, -⟩ := move_cells HCr.out hx
      have HX := Lib.hid hx
      have hj0 : (0 : Int) ≤ (j : Int) := by omega
      have hjl : (j : Int) < (l.length : Int) := by omega
      have hx64 := (HM.out x (mem_at hx)).1
      have hnx := (HM.out x (mem_at hx)).2
      clear hx
      obtain ⟨q, hq⟩ : ∃ q, oneM x = q := ⟨_, rfl⟩
      have HQ := Lib.hid hq
      clear hq
      cases q
      · skip
        go_wp2_with fail
        refine quiet_held (fun w' => Below wr.heap.size wr w') (by kernel_rfl) (by kernel_rfl) (Below.refl _ _).drew ?_
        repeat (first
          | go_big_quiet_skip
          | (go_big_quiet_want; go_big_quiet_op; go_big_quiet_on)
          | (go_big_quiet_want; apply Exists.intro; refine ⟨fun wq hq => ?_, ?_⟩; (focus (obtain ⟨b9, o9, e9, -, d0, d1, d2, d3, d4, d5⟩ := move_cells (HCr.out.keep hq) HX.out; cases e9; unfold Oper.quietAt; go_simp; all_goals (first | rfl | (with_reducible refine (mone_k HQ.out hnx _).mono ?_; rintro e w5 ⟨rfl, hbn⟩; exact ⟨rfl, hq.trans (hbn.mono hq.size)⟩) | (with_reducible refine (rmone_k HQ.out hnx _).mono ?_; rintro e w5 ⟨rfl, hbn⟩; exact ⟨rfl, hq.trans (hbn.mono hq.size)⟩) | (with_reducible refine (mrow_k x _).mono ?_; rintro e w5 ⟨rfl, hbn⟩; exact ⟨rfl, hq.trans (hbn.mono hq.size)⟩) | (with_reducible refine (rmrow_k x _).mono ?_; rintro e w5 ⟨rfl, hbn⟩; exact ⟨rfl, hq.trans (hbn.mono hq.size)⟩) | (with_reducible refine (ralike_k (a := x) (b := x) (alikeP_refl _) hx64 hx64 _).mono ?_; rintro e w5 ⟨rfl, hbn⟩; exact ⟨rfl, hq.trans (hbn.mono hq.size)⟩)))); simp only [Act.put, List.setIfInBounds_toArray, List.set_cons_zero, List.set_cons_succ]; go_big_quiet_on))
        refine wpQuiet_nil ?_
        intro wx hbx
        go_wp2_with fail
        go_roundw
        case rel => exact ⟨j + 1, by go_num, by omega, hbw.trans (hbx.mono hbw.size), is_below HIr.out hbx (is_lt HIr.out)⟩
        case measure => simp only [intOf]; omega
      · skip
        go_wp2_with fail
        refine quiet_held (fun w' => Below wr.heap.size wr w') (by kernel_rfl) (by kernel_rfl) (Below.refl _ _).drew ?_
        repeat (first
          | go_big_quiet_skip
          | (go_big_quiet_want; go_big_quiet_op; go_big_quiet_on)
          | (go_big_quiet_want; apply Exists.intro; refine ⟨fun wq hq => ?_, ?_⟩; (focus (obtain ⟨b9, o9, e9, -, d0, d1, d2, d3, d4, d5⟩ := move_cells (HCr.out.keep hq) HX.out; cases e9; unfold Oper.quietAt; go_simp; all_goals (first | rfl | (with_reducible refine (mone_k HQ.out hnx _).mono ?_; rintro e w5 ⟨rfl, hbn⟩; exact ⟨rfl, hq.trans (hbn.mono hq.size)⟩) | (with_reducible refine (rmone_k HQ.out hnx _).mono ?_; rintro e w5 ⟨rfl, hbn⟩; exact ⟨rfl, hq.trans (hbn.mono hq.size)⟩) | (with_reducible refine (mrow_k x _).mono ?_; rintro e w5 ⟨rfl, hbn⟩; exact ⟨rfl, hq.trans (hbn.mono hq.size)⟩) | (with_reducible refine (rmrow_k x _).mono ?_; rintro e w5 ⟨rfl, hbn⟩; exact ⟨rfl, hq.trans (hbn.mono hq.size)⟩) | (with_reducible refine (ralike_k (a := x) (b := x) (alikeP_refl _) hx64 hx64 _).mono ?_; rintro e w5 ⟨rfl, hbn⟩; exact ⟨rfl, hq.trans (hbn.mono hq.size)⟩)))); simp only [Act.put, List.setIfInBounds_toArray, List.set_cons_zero, List.set_cons_succ]; go_big_quiet_on))
        refine wpQuiet_nil ?_
        intro wx hbx
        go_wp2_with fail
        go_roundw
        case rel => exact ⟨j + 1, by go_num, by omega, hbw.trans (hbx.mono hbw.size), is_below HIr.out hbx (is_lt HIr.out)⟩
        case measure => simp only [intOf]; omega
    · obtain rfl : j = l.length := by omega
      have HOr := Lib.hid (HO0.out.keep hbw)
      have hS : (fun w' => w'.cell? ⟨w.heap.size, 0, none⟩ = some (.int .i64 tc) ∧ w'.cell? ⟨w.heap.size, 1, none⟩ = some (.int .i64 tr) ∧ At w' w'.heap.size A (mvs l) ∧ At w' w'.heap.size B (mvs o) ∧ Below w.heap.size w w') wr := by
        obtain ⟨t0, t1⟩ := box2 HIr.out
        exact ⟨t0, t1, HCr.out, HOr.out, hbw⟩
      have HS := Lib.hid hS
      clear hS hbw hlt hj
      cases Y <;> cases Z
      all_goals
        go_wp2_with fail
        go_region_held3 (fun w' => w'.cell? ⟨w.heap.size, 0, none⟩ = some (.int .i64 tc) ∧ w'.cell? ⟨w.heap.size, 1, none⟩ = some (.int .i64 tr) ∧ At w' w'.heap.size A (mvs l) ∧ At w' w'.heap.size B (mvs o) ∧ Below w.heap.size w w')
          (first
            | assumption
            | (exact keepT HS.out (Below.refl _ _).drew)
            | (exact keepT (by assumption) hbn)
            | (exact keepT (by assumption) (Below.refl _ _).drew)
            | go_keep)
          (first
            | (go_at_call 21; refine (mmay_k l HY.out rfl (by omega) (fun m hm => (HM.out m hm).2) (sT_l (by assumption))).mono ?_; rintro e w9 ⟨rfl, hbn⟩)
            | (go_at_call 22; refine (rmmay_k HY.out HL.out HM.out (sT_l (by assumption))).mono ?_; rintro e w9 ⟨rfl, hbn⟩)
            | (go_at_call 23; refine (mmsame_k l o HZ.out rfl rfl (by omega) (by omega) HM.out HMo.out (sT_l (by assumption)) (sT_o (by assumption))).mono ?_; rintro e w9 ⟨rfl, hbn⟩)
            | (go_at_call 25; refine (msince_k l V HV.out rfl rfl (by omega) (sT_l (by assumption))).mono ?_; rintro e w9 ⟨As, cs, rfl, has, -, -, hbn⟩; have HAS := Lib.hid has; clear has)
            | (go_at_call 26; refine (rmsince_k l V HV.out rfl rfl (by omega) (sT_l (by assumption))).mono ?_; rintro e w9 ⟨At2, ct, rfl, hat, -, -, hbn⟩; have HAT := Lib.hid hat; have HAS2 := Lib.hid (HAS.out.keep hbn); clear hat)
            | (go_at_call 27; refine (muni_k l o U HU.out rfl rfl rfl (by omega) HA.out HCAP.out (sT_l (by assumption)) (sT_o (by assumption))).mono ?_; rintro e w9 ⟨Au, cu, rfl, hau, -, -, hbn⟩; have HAU := Lib.hid hau; clear hau)
            | (go_at_call 28; refine (rmuni_k l o U HU.out rfl rfl rfl (by omega) HA.out HCAP.out (sT_l (by assumption)) (sT_o (by assumption))).mono ?_; rintro e w9 ⟨Av, cv, rfl, hav, -, -, hbn⟩; have HAV := Lib.hid hav; have HAU2 := Lib.hid (HAU.out.keep hbn); clear hav)
            | (go_at_call_of 24 Av; refine (rmsame_k U U (sameM_refl U) rfl rfl (by omega) (by omega) HMU2.out HMU2.out HAU2.out HAV.out).mono ?_; rintro e w9 ⟨rfl, hbn⟩)
            | (go_at_call_of 24 At2; refine (rmsame_k V V (sameM_refl V) rfl rfl (by omega) (by omega) HMS2.out HMS2.out HAS2.out HAT.out).mono ?_; rintro e w9 ⟨rfl, hbn⟩)
            | (go_at_call 24; refine (rmsame_k l o HZ.out rfl rfl (by omega) (by omega) HM.out HMo.out (sT_l (by assumption)) (sT_o (by assumption))).mono ?_; rintro e w9 ⟨rfl, hbn⟩)
            | (go_at_call 15; refine (live13_c _).mono ?_; rintro e w9 ⟨rfl, hbn⟩))
        all_goals
          have hbe := sT_b (by assumption)
          go_wp2_with fail
          go_ret
          exact ⟨rfl, hbe⟩
theorem walk (A B : Option Addr) (cap cb : Nat) (l o : List Mv) (tc tr : Int) (hA : A = none → cap = 0) (hB : B = none → cb = 0) (hcap : l.length ≤ cap) (hcb : o.length ≤ cb) (hl : l.length ≤ maxLen) (hlo : o.length ≤ maxLen) (hM : Moves_ l) (hMo : Moves_ o) (w : World) (hc : At w w.heap.size A (mvs l)) (ho : At w w.heap.size B (mvs o)) :
    Calls Try.prog 3 #[.slice A l.length cap, .slice B o.length cb, .agg #[.int .i64 tc, .int .i64 tr]] w fun e w' => e = .returned (.bool true) ∧ Below w.heap.size w w' := by
  by_cases h : (fewM l 60 && fewM o 60) = true
  · rw [Bool.and_eq_true] at h
    exact main A B cap cb l o tc tr hA hB hcap hcb hl hlo hM hMo h.1 h.2 w hc ho
  · exact live_in A B cap cb l o tc tr hA hB hcap hcb hl hlo hM hMo (by simpa using h) w hc ho
end movesTells
end Go.Proofs.Ytihaiabkjmmmoaa
