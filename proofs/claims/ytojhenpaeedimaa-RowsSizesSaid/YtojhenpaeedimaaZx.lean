/-
 Any moves as a file of the first version, and each one's bytes: a walk.
-/
import Derived.Test.YtojhenpaeedimaaYa
namespace Go.Proofs.Ytojhenpaeedimaa
open Go.RowKit Go.IntWalk
open Pk Ck Rf Fl Wd
set_option maxRecDepth 100000
attribute [local go_sem] Oper.semAt_some
theorem few_z {l : List Mv} {n : Nat} {q : Bool} {z : Int} (h : fewM l n = q) (hz : (n : Int) = z) (hn : n ≤ 1000) {A : Option Addr} {cap : Nat} (hl : l.length ≤ maxLen) {w : World} (hc : At w w.heap.size A (mvs l)) :
  Calls Try.prog 7 #[.slice A l.length cap, .int .i64 z] w fun e w' => e = .returned (.bool q) ∧ w = w' := by
 subst hz; exact few_q h hn hl hc
theorem pone_q {m : Mv} {S : ByteArray} (hS : ba (oneB m) = S) (hr : rk (mw m) < 18446744073709551616 ∧ (nm (mw m)).length ≤ 100000) (w : World) :
  Calls Try.prog 9 #[.agg #[.int .i64 (mc m), .int .i64 (mr m), .int .i64 (pa (mw m)), .int .i64 (ch (mw m)), .string (ba (nm (mw m))), .float .f64 (rk (mw m))]] w fun e w' => e = .returned (.string S) ∧ Below w.heap.size w w' :=
 pone_v hS hr.1 hr.2 w
theorem rone_q {m : Mv} {S : ByteArray} (hS : ba (oneB m) = S) (hr : rk (mw m) < 18446744073709551616 ∧ (nm (mw m)).length ≤ 100000) (w : World) :
  Calls Try.prog 10 #[.agg #[.int .i64 (mc m), .int .i64 (mr m), .int .i64 (pa (mw m)), .int .i64 (ch (mw m)), .string (ba (nm (mw m))), .float .f64 (rk (mw m))]] w fun e w' => e = .returned (.string S) ∧ Below w.heap.size w w' := by
 subst hS; exact rone_d m hr.1 hr.2 w
namespace rowsWrites
set_option maxHeartbeats 16000000 in
theorem walk (A : Option Addr) (cap : Nat) (l : List Mv) (hl : l.length ≤ maxLen) (hm : Moves_ l) (w : World) (hc : At w w.heap.size A (mvs l)) :
  Calls Try.prog 3 #[.slice A l.length cap] w fun e w' => e = .returned (.bool true) ∧ Below w.heap.size w w' := by
 have HC := Lib.hid hc
 have HM := Lib.hid hm
 clear hc hm
 obtain ⟨q, hq⟩ : ∃ q, fewM l 60 = q := ⟨_, rfl⟩
 have HQ := Lib.hid hq
 clear hq
 go_enter Try.func3, Try.ntmps3
 go_wp2_with fail
 refine (few_z HQ.out rfl (by omega) hl HC.out).mono ?_
 rintro e w1 ⟨rfl, rfl⟩
 cases q with
 | false =>
  go_wp2_with fail
  refine (live21_c _).mono ?_
  rintro e w2 ⟨rfl, hb⟩
  go_wp2_with fail
  go_ret
  exact ⟨rfl, hb⟩
 | true =>
  have hl60 := (fewM_in HQ.out).1
  have HOK := Lib.hid (few_mok HQ.out HM.out)
  go_wp2_with fail
  go_loopw [3] (fun i wr => ∃ k : Nat, i = .int .i64 (k : Int) ∧ k ≤ l.length ∧ Below w.heap.size w wr) (fun i _ => l.length - (Go.RowKit.intOf i).toNat)
  case atStart => exact ⟨0, rfl, Nat.zero_le _, Below.refl _ _⟩
  case round =>
   obtain ⟨k, rfl, hk, hb0⟩ := hrel
   have HB0 := Lib.hid hb0
   have HC0 := Lib.hid (HC.out.keep hb0)
   clear hb0
   by_cases hlt : k < l.length
   ·obtain ⟨m, hmk⟩ := some_at hlt
    have hki : (0 : Int) ≤ (k : Int) := by omega
    have hkl : (k : Int) < (l.length : Int) := by omega
    obtain ⟨b0, o0, rfl, -, -⟩ := move_cells HC0.out hmk
    obtain ⟨S, hS⟩ : ∃ S, ba (oneB m) = S := ⟨_, rfl⟩
    have HS := Lib.hid hS
    have HX := Lib.hid hmk
    have HMO := Lib.hid (HOK.out m (List.mem_of_getElem? hmk))
    clear hS hmk
    go_wp2_with fail
    refine quiet_held (fun W' => Below wr.heap.size wr W') (by kernel_rfl) (by kernel_rfl) (Below.refl _ _).drew ?_
    repeat (first
     | go_big_quiet_skip
     | (go_big_quiet_want; go_big_quiet_op; go_big_quiet_on)
     | (go_big_quiet_want; apply Exists.intro; refine ⟨fun wq hq => ?_, ?_⟩; (focus (obtain ⟨b9, o9, e9, -, d0, d1, d2, d3, d4, d5⟩ := move_cells (HC0.out.keep hq) HX.out; cases e9; unfold Oper.quietAt; go_simp; all_goals (first | rfl | (with_reducible refine (pone_q HS.out HMO.out _).mono ?_; rintro e w5 ⟨rfl, hbn⟩; exact ⟨rfl, hq.trans (hbn.mono hq.size)⟩) | (with_reducible refine (rone_q HS.out HMO.out _).mono ?_; rintro e w5 ⟨rfl, hbn⟩; exact ⟨rfl, hq.trans (hbn.mono hq.size)⟩)))); simp only [Act.put, List.setIfInBounds_toArray, List.set_cons_zero, List.set_cons_succ]; go_big_quiet_on))
    refine wpQuiet_nil ?_
    intro wq hwq
    have HB1 := Lib.hid (HB0.out.trans (hwq.mono HB0.out.size))
    clear hwq
    go_wp2_with fail
    go_roundw
    case rel => exact ⟨k + 1, by go_num, by omega, HB1.out⟩
    case measure => simp only [Go.RowKit.intOf]; omega
   ·obtain ⟨S, hS⟩ : ∃ S, ba (encT l) = S := ⟨_, rfl⟩
    obtain ⟨x, hx⟩ : ∃ x, encE l = x := ⟨_, rfl⟩
    have HS := Lib.hid hS
    have HX := Lib.hid hx
    have hln : l.length ≤ 10000 := by omega
    clear hS hx
    have hnlt : ¬ (k : Int) < (l.length : Int) := by omega
    go_wp2_with fail
    refine (pencode_v rfl HS.out HX.out hln HOK.out HC0.out).mono ?_
    rintro e w2 ⟨rfl, hb⟩
    have HB2 := Lib.hid (HB0.out.trans (hb.mono HB0.out.size))
    have HC2 := Lib.hid (HC0.out.keep hb)
    clear hb
    go_wp2_with fail
    refine (renc_v rfl HS.out HX.out hln HOK.out HC2.out).mono ?_
    rintro e w3 ⟨rfl, hb⟩
    have HB3 := Lib.hid (HB2.out.trans (hb.mono HB2.out.size))
    clear hb
    go_wp2_with fail
    refine (live21_c _).mono ?_
    rintro e w4 ⟨rfl, hb⟩
    have HB4 := Lib.hid (HB3.out.trans (hb.mono HB3.out.size))
    clear hb
    go_wp2_with fail
    go_ret
    exact ⟨rfl, HB4.out⟩
end rowsWrites
end Go.Proofs.Ytojhenpaeedimaa
