/-
  The walk of MarksMoves.
-/
import Derived.Test.YtbhejaokkkggjaaXs
import Derived.Test.YtbhejaokkkggjaaAp
import Derived.Test.YtbhejaokkkggjaaUl
import Derived.Test.YtbhejaokkkggjaaUh
import Derived.Deep.RegionHeld3
namespace Go.Proofs.Ytbhejaokkkggjaa
open Go.RowKit Go.IntWalk
set_option maxRecDepth 100000
attribute [local go_sem] Oper.semAt_some

def hitM (x : Mk) (m : Mv) : Bool := decide (mc m = kc x) && decide (mr m = kr x)
theorem hit_take {l : List Mv} {x : Mk} {k : Nat} {m : Mv} (h : l[k]? = some m) : (l.take (k + 1)).any (hitM x) = ((l.take k).any (hitM x) || hitM x m) := by
  rw [List.take_add_one, h]
  simp
theorem moves_facts {l : List Mv} {v : List Mk} (hv : ofK l = v) (ho : ∀ m ∈ l, oneM m = true) :
    mayK v = true ∧ (∀ m ∈ l, mc m ≤ getK v (mr m)) ∧ (∀ x ∈ v, l.any (hitM x) = true) ∧ ∀ j, joinK (ofK (l.take j)) (ofK (l.drop j)) = v := by
  have hr : RanK v := by
    rw [← hv]
    refine ofK_ran fun m hm => ?_
    have h := ho m hm
    simp only [oneM, Bool.and_eq_true, decide_eq_true_eq] at h
    exact ⟨h.2.2.1, h.2.2.2.1, h.2.1⟩
  have ha : AscK v := by rw [← hv]; exact ofK_asc l
  refine ⟨mayK_iff.2 ⟨hr, ha⟩, fun m hm => ?_, fun x hx => ?_, fun j => ?_⟩
  · rw [← hv, getK_of]; exact topM_le hm
  · have h1 := getK_mem ha hx
    have h2 := (oneK_iff.1 (hr x hx)).2.2.1
    rw [← hv, getK_of] at h1
    obtain ⟨m, hm, e1, e2⟩ := topM_is (l := l) (r := kr x) (by omega)
    refine List.any_eq_true.2 ⟨m, hm, ?_⟩
    unfold hitM
    rw [e1, e2, h1]
    simp
  · rw [← ofK_join, List.take_append_drop, hv]
theorem holdB {wr W W' : World} (h : Below wr.heap.size wr W) (hb : Below W.heap.size W W') : Below wr.heap.size wr W' := h.trans (hb.mono h.size)
theorem kof_j {A : Option Addr} {cap n : Nat} {l : List Mv} {v : List Mk} (hn : l.length = n) (h : ofK l = v) (hl : n ≤ 40000) {w : World} (hc : At w w.heap.size A (mvs l)) :
    Calls Try.prog 51 #[.slice A n cap] w (FreshK v w) := by
  subst h; subst hn; exact kof_c A cap l hl w hc
theorem same17_s {A1 A2 : Option Addr} {c1 c2 : Nat} {xs : List Mk} (hx : xs.length ≤ 100000) {w : World} (h1 : At w w.heap.size A1 (kvs xs)) (h2 : At w w.heap.size A2 (kvs xs)) :
    Calls Try.prog 44 #[.slice A1 xs.length c1, .slice A2 xs.length c2] w fun e w' => e = .returned (.bool true) ∧ Below w.heap.size w w' :=
  same17_k (decide_eq_true rfl) hx hx h1 h2
theorem at_emptyM {w : World} {B : Nat} {A : Option Addr} {l : List Mv} (h : l = []) : At w B A (mvs l) := fun i v hv => by subst h; simp [mvs] at hv
theorem kof_nil {A : Option Addr} {cap n : Nat} (hn : n = 0) {w : World} :
    Calls Try.prog 51 #[.slice A n cap] w (FreshK [] w) := by
  subst hn; exact kof_c A cap [] (by simp) w (at_emptyM rfl)
namespace marksMoves
set_option maxHeartbeats 16000000 in
theorem walk (A : Option Addr) (cap : Nat) (l : List Mv) (hA : A = none → cap = 0) (hcap : l.length ≤ cap) (hl : l.length ≤ maxLen) (hw : Moves_ l) (a : Int) (w : World) (hc : At w w.heap.size A (mvs l)) :
    Calls Try.prog 10 #[.slice A l.length cap, .int .i64 a] w fun e w' => e = .returned (.bool true) ∧ Below w.heap.size w w' := by
  have KC := Lib.hid hc
  have HLL := Lib.hid hl
  have HA := Lib.hid hA
  have HN := Lib.hid (fun m h => (hw m h).2)
  clear hc hl hw hA
  go_enter Try.func10, Try.ntmps10
  go_wp2_with fail
  refine (rmfew_c A cap l 60 HLL.out (by decide) _ KC.out).mono ?_
  rintro e w1 ⟨rfl, rfl⟩
  cases hf : fewM l 60 with
  | false =>
    clear hf
    go_wp2_with fail
    refine (live17_c _).mono ?_
    rintro e wz ⟨rfl, hbz⟩
    go_wp2_with fail
    go_ret
    exact ⟨rfl, hbz⟩
  | true =>
    obtain ⟨hl60, -⟩ := fewM_in hf
    clear hf
    go_wp2_with fail
    refine (rmmay_c A cap l HLL.out HN.out _ KC.out).mono ?_
    rintro e w1 ⟨rfl, hb1⟩
    have HB1 := Lib.hid hb1
    clear hb1
    cases hm : mayM l with
    | false =>
      clear hm
      go_wp2_with fail
      refine (live17_c _).mono ?_
      rintro e wz ⟨rfl, hbz⟩
      go_wp2_with fail
      go_ret
      exact ⟨rfl, HB1.out.trans (hbz.mono HB1.out.size)⟩
    | true =>
      obtain ⟨v, hv⟩ : ∃ v, ofK l = v := ⟨_, rfl⟩
      have hvl := ofK_len l
      rw [hv] at hvl
      have HFA := Lib.hid (moves_facts hv (mayM_iff.1 hm).2.1)
      have HV := Lib.hid hv
      have HVL1 := Lib.hid (show v.length ≤ 100000 by omega)
      have HVL2 := Lib.hid (show v.length ≤ maxLen by unfold maxLen; omega)
      have hv60 : v.length ≤ 60 := by omega
      clear hm hv hvl
      by_cases a0 : a < 0
      · have da : decide (a < 0) = true := decide_eq_true a0
        go_wp2_with fail
        refine (live17_c _).mono ?_
        rintro e wz ⟨rfl, hbz⟩
        go_wp2_with fail
        go_ret
        exact ⟨rfl, HB1.out.trans (hbz.mono HB1.out.size)⟩
      have da : decide (a < 0) = false := decide_eq_false a0
      by_cases a1 : (l.length : Int) < a
      · have db : decide ((l.length : Int) < a) = true := decide_eq_true a1
        go_wp2_with fail
        refine (live17_c _).mono ?_
        rintro e wz ⟨rfl, hbz⟩
        go_wp2_with fail
        go_ret
        exact ⟨rfl, HB1.out.trans (hbz.mono HB1.out.size)⟩
      have db : decide ((l.length : Int) < a) = false := decide_eq_false a1
      obtain ⟨j, rfl⟩ : ∃ j : Nat, a = (j : Int) := ⟨a.toNat, by omega⟩
      have hjl : j ≤ l.length := by omega
      go_wp2_with fail
      refine (kof_j rfl HV.out (by omega) (KC.out.keep HB1.out)).mono ?_
      rintro e w2 ⟨A2, c2, rfl, ho2, hb2⟩
      have KV2 := Lib.hid (own_atK ho2)
      have HB2 := Lib.hid (HB1.out.trans (hb2.mono HB1.out.size))
      clear ho2 hb2
      go_wp2_with fail
      refine (kmay_k HFA.out.1 HVL1.out KV2.out).mono ?_
      rintro e w3 ⟨rfl, hb3⟩
      have KV3 := Lib.hid (KV2.out.keep hb3)
      have HB3 := Lib.hid (HB2.out.trans (hb3.mono HB2.out.size))
      clear hb3 KV2 HB2
      go_wp2_with fail
      go_loopw [6] (fun i wr => ∃ k : Nat, i = .int .i64 (k : Int) ∧ k ≤ l.length ∧ Below w3.heap.size w3 wr) (fun i _ => l.length - (intOf i).toNat)
      case atStart => exact ⟨0, rfl, Nat.zero_le _, Below.refl _ _⟩
      case round =>
        obtain ⟨k, rfl, hk, hbw⟩ := hrel
        by_cases hlt : k < l.length
        · obtain ⟨m, hm⟩ := some_at hlt
          have hcw := (KC.out.keep HB3.out).keep hbw
          obtain ⟨b0, o0, rfl, hb0, c0, c1, -⟩ := move_cells hcw hm
          have hki : (0 : Int) ≤ (k : Int) := by omega
          have hkl : (k : Int) < (l.length : Int) := by omega
          obtain ⟨y, hy⟩ : ∃ y, getK v (mr m) = y := ⟨_, rfl⟩
          have hle := HFA.out.2.1 m (mem_at hm)
          rw [hy] at hle
          have HK := Lib.hid hy
          have QV := Lib.hid (KV3.out.keep hbw)
          have hd1 : decide (y < mc m) = false := decide_eq_false (by omega)
          clear hcw hm hy
          go_wp2_with fail
          refine quiet_held (fun w' => Below wr.heap.size wr w') (by kernel_rfl) (by kernel_rfl) (Below.refl _ _).drew ?_
          repeat (first
            | go_big_quiet_skip
            | (simp only [hd1])
            | (go_big_quiet_want; go_big_quiet_op; go_big_quiet_on)
            | (go_big_quiet_want; apply Exists.intro; refine ⟨fun wq hq => ?_, ?_⟩; (focus (have q0 := keep_cell hq c0; have q1 := keep_cell hq c1; unfold Oper.quietAt; go_simp; all_goals (first | rfl | exact ⟨rfl, rfl⟩ | (with_reducible refine (kget_k HK.out HVL2.out wq (QV.out.keep hq)).mono ?_; rintro e w5 ⟨rfl, hbn⟩; exact ⟨rfl, hq.trans (hbn.mono hq.size)⟩)))); simp only [Act.put, List.setIfInBounds_toArray, List.set_cons_zero, List.set_cons_succ]; go_big_quiet_on))
          refine wpQuiet_nil ?_
          intro wq hq
          have hbz := hbw.trans (hq.mono hbw.size)
          go_wp2_with fail
          go_roundw
          case rel => exact ⟨k + 1, by go_num, by omega, hbz⟩
          case measure => simp only [intOf]; omega
        · obtain rfl : k = l.length := by omega
          have KC4 := Lib.hid ((KC.out.keep HB3.out).keep hbw)
          have KV4 := Lib.hid (KV3.out.keep hbw)
          have HB4 := Lib.hid (HB3.out.trans (hbw.mono HB3.out.size))
          clear hbw hlt hk KC KV3 HB3
          rename World => w4
          go_wp2_with fail
          go_loopw [7] (fun i wr => ∃ k : Nat, i = .int .i64 (k : Int) ∧ k ≤ v.length ∧ Below w4.heap.size w4 wr) (fun i _ => v.length - (intOf i).toNat)
          case atStart => exact ⟨0, rfl, Nat.zero_le _, Below.refl _ _⟩
          case round =>
            obtain ⟨i, rfl, hi, hbi⟩ := hrel
            by_cases hlt : i < v.length
            · obtain ⟨x, hx⟩ := some_at hlt
              have hii : (0 : Int) ≤ (i : Int) := by omega
              have hil : (i : Int) < (v.length : Int) := by omega
              have HIT := Lib.hid (HFA.out.2.2.1 x (mem_at hx))
              have HX := Lib.hid hx
              clear hx
              rename World => vi
              go_wp2_with fail
              go_loopw [8, 9] (fun b i wr => ∃ k : Nat, i = .int .i64 (k : Int) ∧ k ≤ l.length ∧ b = .bool ((l.take k).any (hitM x)) ∧ Below vi.heap.size vi wr) (fun _ i _ => l.length - (intOf i).toNat)
              case atStart => exact ⟨0, rfl, Nat.zero_le _, rfl, Below.refl _ _⟩
              case round =>
                obtain ⟨k, rfl, hk, rfl, hbw⟩ := hrel
                by_cases hlt : k < l.length
                · obtain ⟨m, hm⟩ := some_at hlt
                  have hcw := (KC4.out.keep hbi).keep hbw
                  obtain ⟨b0, o0, rfl, hb0, c0, c1, -⟩ := move_cells hcw hm
                  obtain ⟨b2, o2, rfl, hb2, d0, d1⟩ := mark_cells ((KV4.out.keep hbi).keep hbw) HX.out
                  have hki : (0 : Int) ≤ (k : Int) := by omega
                  have hkl : (k : Int) < (l.length : Int) := by omega
                  have hst := hit_take (x := x) hm
                  obtain ⟨q, hq9⟩ : ∃ q, (l.take k).any (hitM x) = q := ⟨_, rfl⟩
                  rw [hq9] at hst ⊢
                  have HST := Lib.hid hst
                  clear hcw hm hst hq9
                  cases q with
                  | true =>
                    go_wp2_with fail
                    refine quiet_held (fun w' => Below wr.heap.size wr w') (by kernel_rfl) (by kernel_rfl) (Below.refl _ _).drew ?_
                    repeat (first
                      | go_big_quiet_skip
                      | (go_big_quiet_want; go_big_quiet_op; go_big_quiet_on)
                      | (go_big_quiet_want; apply Exists.intro; refine ⟨fun wq hq => ?_, ?_⟩; (focus (have q0 := keep_cell hq c0; have q1 := keep_cell hq c1; have q2 := keep_cell hq d0; have q3 := keep_cell hq d1; unfold Oper.quietAt; go_simp; all_goals (first | rfl | exact ⟨rfl, rfl⟩ | (with_reducible refine (kget_k HK.out HVL2.out wq (QV.out.keep hq)).mono ?_; rintro e w5 ⟨rfl, hbn⟩; exact ⟨rfl, hq.trans (hbn.mono hq.size)⟩)))); simp only [Act.put, List.setIfInBounds_toArray, List.set_cons_zero, List.set_cons_succ]; go_big_quiet_on))
                    refine wpQuiet_nil ?_
                    intro wq hq
                    have hbz := hbw.trans (hq.mono hbw.size)
                    go_wp2_with fail
                    go_roundw
                    case rel => exact ⟨k + 1, by go_num, by omega, (by rw [HST.out]; rfl), hbz⟩
                    case measure => simp only [intOf]; omega
                  | false =>
                    by_cases e1 : mc m = kc x
                    · have hd1 : decide (mc m = kc x) = true ∧ decide (kc x = mc m) = true ∧ (mc m == kc x) = true ∧ (kc x == mc m) = true := ⟨decide_eq_true e1, decide_eq_true e1.symm, by rw [e1]; exact beq_self_eq_true _, by rw [e1]; exact beq_self_eq_true _⟩
                      by_cases e2 : mr m = kr x
                      · have hd2 : decide (mr m = kr x) = true ∧ decide (kr x = mr m) = true ∧ (mr m == kr x) = true ∧ (kr x == mr m) = true := ⟨decide_eq_true e2, decide_eq_true e2.symm, by rw [e2]; exact beq_self_eq_true _, by rw [e2]; exact beq_self_eq_true _⟩
                        have HST2 := Lib.hid (HST.out.trans (by unfold hitM; rw [hd1.1, hd2.1]; rfl : _ = true))
                        clear e1 e2
                        go_wp2_with fail
                        refine quiet_held (fun w' => Below wr.heap.size wr w') (by kernel_rfl) (by kernel_rfl) (Below.refl _ _).drew ?_
                        repeat (first
                          | go_big_quiet_skip
                          | (simp only [hd1.1])
                          | (simp only [hd1.2.1])
                          | (simp only [hd1.2.2.1])
                          | (simp only [hd1.2.2.2])
                          | (simp only [hd2.1])
                          | (simp only [hd2.2.1])
                          | (simp only [hd2.2.2.1])
                          | (simp only [hd2.2.2.2])
                          | (go_big_quiet_want; go_big_quiet_op; go_big_quiet_on)
                          | (go_big_quiet_want; apply Exists.intro; refine ⟨fun wq hq => ?_, ?_⟩; (focus (have q0 := keep_cell hq c0; have q1 := keep_cell hq c1; have q2 := keep_cell hq d0; have q3 := keep_cell hq d1; unfold Oper.quietAt; go_simp; all_goals (first | rfl | exact ⟨rfl, rfl⟩ | (with_reducible refine (kget_k HK.out HVL2.out wq (QV.out.keep hq)).mono ?_; rintro e w5 ⟨rfl, hbn⟩; exact ⟨rfl, hq.trans (hbn.mono hq.size)⟩)))); simp only [Act.put, List.setIfInBounds_toArray, List.set_cons_zero, List.set_cons_succ]; go_big_quiet_on))
                        refine wpQuiet_nil ?_
                        intro wq hq
                        have hbz := hbw.trans (hq.mono hbw.size)
                        go_wp2_with fail
                        go_roundw
                        case rel => exact ⟨k + 1, by go_num, by omega, (by rw [HST2.out]), hbz⟩
                        case measure => simp only [intOf]; omega
                      · have hd2 : decide (mr m = kr x) = false ∧ decide (kr x = mr m) = false ∧ (mr m == kr x) = false ∧ (kr x == mr m) = false := ⟨decide_eq_false e2, decide_eq_false (fun h => e2 h.symm), beq_eq_false_iff_ne.2 e2, beq_eq_false_iff_ne.2 (fun h => e2 h.symm)⟩
                        have HST2 := Lib.hid (HST.out.trans (by unfold hitM; rw [hd1.1, hd2.1]; rfl : _ = false))
                        clear e1 e2
                        go_wp2_with fail
                        refine quiet_held (fun w' => Below wr.heap.size wr w') (by kernel_rfl) (by kernel_rfl) (Below.refl _ _).drew ?_
                        repeat (first
                          | go_big_quiet_skip
                          | (simp only [hd1.1])
                          | (simp only [hd1.2.1])
                          | (simp only [hd1.2.2.1])
                          | (simp only [hd1.2.2.2])
                          | (simp only [hd2.1])
                          | (simp only [hd2.2.1])
                          | (simp only [hd2.2.2.1])
                          | (simp only [hd2.2.2.2])
                          | (go_big_quiet_want; go_big_quiet_op; go_big_quiet_on)
                          | (go_big_quiet_want; apply Exists.intro; refine ⟨fun wq hq => ?_, ?_⟩; (focus (have q0 := keep_cell hq c0; have q1 := keep_cell hq c1; have q2 := keep_cell hq d0; have q3 := keep_cell hq d1; unfold Oper.quietAt; go_simp; all_goals (first | rfl | exact ⟨rfl, rfl⟩ | (with_reducible refine (kget_k HK.out HVL2.out wq (QV.out.keep hq)).mono ?_; rintro e w5 ⟨rfl, hbn⟩; exact ⟨rfl, hq.trans (hbn.mono hq.size)⟩)))); simp only [Act.put, List.setIfInBounds_toArray, List.set_cons_zero, List.set_cons_succ]; go_big_quiet_on))
                        refine wpQuiet_nil ?_
                        intro wq hq
                        have hbz := hbw.trans (hq.mono hbw.size)
                        go_wp2_with fail
                        go_roundw
                        case rel => exact ⟨k + 1, by go_num, by omega, (by rw [HST2.out]), hbz⟩
                        case measure => simp only [intOf]; omega
                    · have hd1 : decide (mc m = kc x) = false ∧ decide (kc x = mc m) = false ∧ (mc m == kc x) = false ∧ (kc x == mc m) = false := ⟨decide_eq_false e1, decide_eq_false (fun h => e1 h.symm), beq_eq_false_iff_ne.2 e1, beq_eq_false_iff_ne.2 (fun h => e1 h.symm)⟩
                      have HST2 := Lib.hid (HST.out.trans (by unfold hitM; rw [hd1.1]; rfl : _ = false))
                      clear e1
                      go_wp2_with fail
                      refine quiet_held (fun w' => Below wr.heap.size wr w') (by kernel_rfl) (by kernel_rfl) (Below.refl _ _).drew ?_
                      repeat (first
                        | go_big_quiet_skip
                        | (simp only [hd1.1])
                        | (simp only [hd1.2.1])
                        | (simp only [hd1.2.2.1])
                        | (simp only [hd1.2.2.2])
                        | (go_big_quiet_want; go_big_quiet_op; go_big_quiet_on)
                        | (go_big_quiet_want; apply Exists.intro; refine ⟨fun wq hq => ?_, ?_⟩; (focus (have q0 := keep_cell hq c0; have q1 := keep_cell hq c1; have q2 := keep_cell hq d0; have q3 := keep_cell hq d1; unfold Oper.quietAt; go_simp; all_goals (first | rfl | exact ⟨rfl, rfl⟩ | (with_reducible refine (kget_k HK.out HVL2.out wq (QV.out.keep hq)).mono ?_; rintro e w5 ⟨rfl, hbn⟩; exact ⟨rfl, hq.trans (hbn.mono hq.size)⟩)))); simp only [Act.put, List.setIfInBounds_toArray, List.set_cons_zero, List.set_cons_succ]; go_big_quiet_on))
                      refine wpQuiet_nil ?_
                      intro wq hq
                      have hbz := hbw.trans (hq.mono hbw.size)
                      go_wp2_with fail
                      go_roundw
                      case rel => exact ⟨k + 1, by go_num, by omega, (by rw [HST2.out]), hbz⟩
                      case measure => simp only [intOf]; omega
                · obtain rfl : k = l.length := by omega
                  have hall : (l.take l.length).any (hitM x) = true := by rw [List.take_length]; exact HIT.out
                  rw [hall]
                  have hbz := hbi.trans (hbw.mono hbi.size)
                  go_wp2_with fail
                  go_roundw
                  case rel => exact ⟨i + 1, by go_num, by omega, hbz⟩
                  case measure => simp only [intOf]; omega
            · obtain rfl : i = v.length := by omega
              have KC5 := Lib.hid (KC4.out.keep hbi)
              have KV := Lib.hid (KV4.out.keep hbi)
              have HBv := Lib.hid (HB4.out.trans (hbi.mono HB4.out.size))
              have HJ0 := Lib.hid (HFA.out.2.2.2 j)
              clear hbi hlt hi KC4 KV4 HB4 HFA HV
              rename World => vr
              obtain ⟨v1, hv1⟩ : ∃ v1, ofK (l.take j) = v1 := ⟨_, rfl⟩
              obtain ⟨v2, hv2⟩ : ∃ v2, ofK (l.drop j) = v2 := ⟨_, rfl⟩
              have hk1 := ofK_len (l.take j)
              have hk2 := ofK_len (l.drop j)
              have hjj := HJ0.out
              have htk : (l.take j).length = j := by rw [List.length_take]; omega
              have hdk : (l.drop j).length = l.length - j := List.length_drop ..
              rw [hv1, hv2] at hjj
              rw [hv1, htk] at hk1
              rw [hv2, hdk] at hk2
              have HV1 := Lib.hid hv1
              have HV2 := Lib.hid hv2
              have HJ := Lib.hid hjj
              have HTK := Lib.hid htk
              have HDK := Lib.hid hdk
              have HL4 := Lib.hid (show v1.length + v2.length ≤ 40000 by omega)
              clear hv1 hv2 hjj htk hdk hk1 hk2 HJ0
              have hj0 : (0 : Int) ≤ (j : Int) := by omega
              have hjl2 : (j : Int) ≤ (l.length : Int) := by omega
              have hjc : (j : Int) ≤ (cap : Int) := by omega
              have hjn : ¬ ((j : Int) < 0) := by omega
              by_cases hnil : 0 < l.length
              · obtain ⟨m, hm⟩ := some_at hnil
                obtain ⟨b0, o0, rfl, -⟩ := move_cells KC5.out hm
                have HAT := Lib.hid (at_takeM KC5.out j)
                clear hm
                by_cases hjk : cap = j
                · have HDN := Lib.hid (show l.drop j = [] from List.drop_eq_nil_of_le (by omega))
                  go_wp2_with fail
                  go_region_held3 (fun w' => Below vr.heap.size vr w')
                    (first
                      | (exact holdB (by assumption) hbn)
                      | (exact Below.drew (by assumption))
                      | (exact (Below.refl _ _).drew)
                      | go_keep)
                    (first
                      | (go_at_call 51; refine (kof_j (by first | exact HTK.out | exact HDK.out) (by first | exact HV1.out | exact HV2.out) (by omega) (by first | exact HAT.out.keep (by assumption : Below vr.heap.size vr _) | exact at_emptyM HDN.out)).mono ?_; rintro e wa ⟨E, fE, rfl, hown, hbn⟩; first | (have hj1b := At.keep (by exact hj1) hbn; have hj2 := own_atK hown) | (have hj1 := own_atK hown; have hn1 := own_noneK hown))
                      | (go_at_call 47; refine (kjoin_k HJ.out HL4.out hn1 hj1b hj2).mono ?_; rintro e wa ⟨E3, f3, rfl, hown3, hbn⟩; have hj3 := own_atK hown3)
                      | (go_at_call 44; refine (same17_s HVL1.out (KV.out.keep (by assumption : Below vr.heap.size vr _)) hj3).mono ?_; rintro e wa ⟨rfl, hbn⟩)
                      | (go_at_call 37; refine (live17_c _).mono ?_; rintro e wa ⟨rfl, hbn⟩))
                  have HZZ := Lib.hid (HBv.out.trans ((by assumption : Below vr.heap.size vr wa).mono HBv.out.size))
                  go_wp2_with fail
                  go_ret
                  exact ⟨rfl, HZZ.out⟩
                · have HAD := Lib.hid (at_dropM KC5.out j)
                  go_wp2_with fail
                  go_region_held3 (fun w' => Below vr.heap.size vr w')
                    (first
                      | (exact holdB (by assumption) hbn)
                      | (exact Below.drew (by assumption))
                      | (exact (Below.refl _ _).drew)
                      | go_keep)
                    (first
                      | (go_at_call 51; refine (kof_j (by first | exact HTK.out | exact HDK.out) (by first | exact HV1.out | exact HV2.out) (by omega) (by first | exact HAT.out.keep (by assumption : Below vr.heap.size vr _) | exact HAD.out.keep (by assumption : Below vr.heap.size vr _))).mono ?_; rintro e wa ⟨E, fE, rfl, hown, hbn⟩; first | (have hj1b := At.keep (by exact hj1) hbn; have hj2 := own_atK hown) | (have hj1 := own_atK hown; have hn1 := own_noneK hown))
                      | (go_at_call 47; refine (kjoin_k HJ.out HL4.out hn1 hj1b hj2).mono ?_; rintro e wa ⟨E3, f3, rfl, hown3, hbn⟩; have hj3 := own_atK hown3)
                      | (go_at_call 44; refine (same17_s HVL1.out (KV.out.keep (by assumption : Below vr.heap.size vr _)) hj3).mono ?_; rintro e wa ⟨rfl, hbn⟩)
                      | (go_at_call 37; refine (live17_c _).mono ?_; rintro e wa ⟨rfl, hbn⟩))
                  have HZZ := Lib.hid (HBv.out.trans ((by assumption : Below vr.heap.size vr wa).mono HBv.out.size))
                  go_wp2_with fail
                  go_ret
                  exact ⟨rfl, HZZ.out⟩
              · have hl0 : l.length = 0 := by omega
                have HJN := Lib.hid (show joinK [] [] = v by
                  have h := HJ.out
                  rw [← HV1.out, ← HV2.out, List.eq_nil_of_length_eq_zero hl0] at h
                  simp only [List.take_nil, List.drop_nil] at h
                  exact h)
                obtain rfl : j = 0 := by omega
                clear HJ HV1 HV2 HTK HDK HL4
                cases A with
                | none =>
                  obtain rfl : cap = 0 := HA.out rfl
                  go_wp2_with fail
                  go_region_held3 (fun w' => Below vr.heap.size vr w')
                    (first
                      | (exact holdB (by assumption) hbn)
                      | (exact Below.drew (by assumption))
                      | (exact (Below.refl _ _).drew)
                      | go_keep)
                    (first
                      | (go_at_call 51; refine (kof_nil (by first | rfl | omega)).mono ?_; rintro e wa ⟨E, fE, rfl, hown, hbn⟩; first | (have hj1b := At.keep (by exact hj1) hbn; have hj2 := own_atK hown) | (have hj1 := own_atK hown; have hn1 := own_noneK hown))
                      | (go_at_call 47; refine (kjoin_k HJN.out (by decide) hn1 hj1b hj2).mono ?_; rintro e wa ⟨E3, f3, rfl, hown3, hbn⟩; have hj3 := own_atK hown3)
                      | (go_at_call 44; refine (same17_s HVL1.out (KV.out.keep (by assumption : Below vr.heap.size vr _)) hj3).mono ?_; rintro e wa ⟨rfl, hbn⟩)
                      | (go_at_call 37; refine (live17_c _).mono ?_; rintro e wa ⟨rfl, hbn⟩))
                  have HZZ := Lib.hid (HBv.out.trans ((by assumption : Below vr.heap.size vr wa).mono HBv.out.size))
                  go_wp2_with fail
                  go_ret
                  exact ⟨rfl, HZZ.out⟩
                | some a9 =>
                  go_wp2_with fail
                  go_region_held3 (fun w' => Below vr.heap.size vr w')
                    (first
                      | (exact holdB (by assumption) hbn)
                      | (exact Below.drew (by assumption))
                      | (exact (Below.refl _ _).drew)
                      | go_keep)
                    (first
                      | (go_at_call 51; refine (kof_nil (by first | rfl | omega)).mono ?_; rintro e wa ⟨E, fE, rfl, hown, hbn⟩; first | (have hj1b := At.keep (by exact hj1) hbn; have hj2 := own_atK hown) | (have hj1 := own_atK hown; have hn1 := own_noneK hown))
                      | (go_at_call 47; refine (kjoin_k HJN.out (by decide) hn1 hj1b hj2).mono ?_; rintro e wa ⟨E3, f3, rfl, hown3, hbn⟩; have hj3 := own_atK hown3)
                      | (go_at_call 44; refine (same17_s HVL1.out (KV.out.keep (by assumption : Below vr.heap.size vr _)) hj3).mono ?_; rintro e wa ⟨rfl, hbn⟩)
                      | (go_at_call 37; refine (live17_c _).mono ?_; rintro e wa ⟨rfl, hbn⟩))
                  have HZZ := Lib.hid (HBv.out.trans ((by assumption : Below vr.heap.size vr wa).mono HBv.out.size))
                  go_wp2_with fail
                  go_ret
                  exact ⟨rfl, HZZ.out⟩
end marksMoves
end Go.Proofs.Ytbhejaokkkggjaa
