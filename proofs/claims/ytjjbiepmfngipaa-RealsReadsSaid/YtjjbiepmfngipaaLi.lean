/-
  The walks of RealsTells and RealsReads.
-/
import Derived.Test.YtjjbiepmfngipaaLh
import Derived.Test.YtjjbiepmfngipaaVh
namespace Go.Proofs.Ytjjbiepmfngipaa
open Go.RowKit Go.IntWalk
open Pk Fl Re
set_option maxRecDepth 100000
attribute [local go_sem] Oper.semAt_some

namespace realsReads
set_option maxHeartbeats 4000000 in
theorem walk (l : List UInt8) (n : Int) (hz : l.length ≤ maxLen) (hwf : (Lit.int .i64 n).wf = true) (w : World) :
    Calls Try.prog 4 #[.string (ba l), .int .i64 n] w fun e w' => e = .returned (.bool true) ∧ Below w.heap.size w w' := by
  have hs := ba_size l
  have HN := Lib.hid (i64_in hwf)
  unfold maxLen at hz
  clear hwf
  by_cases h : 500 < l.length
  · go_enter Try.func4, Try.ntmps4
    go_wp2_with fail
    refine (live9_c _).mono ?_
    rintro e w1 ⟨rfl, hb1⟩
    go_wp2
    go_ret
    exact ⟨rfl, hb1⟩
  · have hx : l.length ≤ 100000 := by omega
    obtain ⟨r, hr⟩ : ∃ r, r = decR l n := ⟨_, rfl⟩
    have HRL := Lib.hid (show r.1.length ≤ 500 by rw [hr]; exact Nat.le_trans (decR_len l n) (by omega))
    have HR := Lib.hid hr
    clear hr
    go_enter Try.func4, Try.ntmps4
    go_wp2_with fail
    refine (decodeR_c l n HN.out.1 HN.out.2 hx _).mono ?_
    rintro e w1 ⟨A1, cap1, y1, rfl, q1, g1, a1, hb1⟩
    rw [← HR.out] at q1 ⊢
    have HA1 := Lib.hid a1
    have HQ1 := Lib.hid q1
    clear a1 q1
    go_wp2_with fail
    refine (rdecodeR_c l n HN.out.1 HN.out.2 hx _).mono ?_
    rintro e w2 ⟨A2, cap2, y2, rfl, q2, g2, a2, hm2⟩
    rw [← HR.out] at q2 ⊢
    have HA2 := Lib.hid a2
    have HA1 := Lib.hid (HA1.out.keep hm2)
    have hb2 := hb1.trans (hm2.mono hb1.size)
    have hl1 : y1.length ≤ maxLen := by
      have h1 := congrArg List.length HQ1.out
      rw [cbs_len] at h1
      have h2 := HRL.out
      unfold maxLen; omega
    have hl2 : y2.length ≤ maxLen := by
      have h1 := congrArg List.length q2
      rw [cbs_len] at h1
      have h2 := HRL.out
      unfold maxLen; omega
    have HEQ := Lib.hid (show cbs y1 = cbs y2 by rw [HQ1.out, q2])
    clear a2 hm2 hb1 q2
    go_wp2_with fail
    refine (rsame9_c A1 A2 cap1 cap2 y1 y2 hl1 hl2 g1 g2 _ HA1.out HA2.out).mono ?_
    rintro e w3 ⟨rfl, qd, rfl⟩
    rw [show decide (cbs y1 = cbs y2) = true by rw [HEQ.out]; simp]
    have hb3 := below_drewN hb2 qd
    have hrr : (r.2 == r.2) = true := by simp
    clear hb2 HA1 HA2 hl1 hl2
    go_wp2_with fail
    refine (live9_c _).mono ?_
    rintro e w11 ⟨rfl, hm11⟩
    go_wp2
    go_ret
    exact ⟨rfl, hb3.trans (hm11.mono hb3.size)⟩
end realsReads

namespace realsTells
theorem live (A : Option Addr) (cap : Nat) (xs : List Nat) (A1 : Option Addr) (cap1 : Nat) (ys : List Nat) (u : Int) (hz : xs.length ≤ 9223372036854775807) (hz1 : ys.length ≤ 9223372036854775807) (h : 100 < xs.length ∨ 100 < ys.length) (w : World) :
    Calls Try.prog 3 #[.slice A xs.length cap, .slice A1 ys.length cap1, .int .u64 u] w fun e w' => e = .returned (.bool true) ∧ Below w.heap.size w w' := by
  by_cases h1 : 100 < xs.length
  · clear h
    go_enter Try.func3, Try.ntmps3
    go_wp2_with fail
    refine (live9_c _).mono ?_
    rintro e w1 ⟨rfl, hb1⟩
    go_wp2
    go_ret
    exact ⟨rfl, hb1⟩
  · have h2 : 100 < ys.length := by omega
    clear h
    go_enter Try.func3, Try.ntmps3
    go_wp2_with fail
    refine (live9_c _).mono ?_
    rintro e w1 ⟨rfl, hb1⟩
    go_wp2
    go_ret
    exact ⟨rfl, hb1⟩

set_option maxHeartbeats 4000000 in
theorem walk (A : Option Addr) (cap : Nat) (xs : List Nat) (A1 : Option Addr) (cap1 : Nat) (ys : List Nat) (u : Int) (_hn : A = none → cap = 0) (_hk : xs.length ≤ cap) (hz : xs.length ≤ maxLen) (hw : Words xs) (_hn1 : A1 = none → cap1 = 0) (_hk1 : ys.length ≤ cap1) (hz1 : ys.length ≤ maxLen) (hw1 : Words ys) (hwu : (Lit.int .u64 u).wf = true) (w : World) (hc : At w w.heap.size A (fvs xs)) (hc1 : At w w.heap.size A1 (fvs ys)) :
    Calls Try.prog 3 #[.slice A xs.length cap, .slice A1 ys.length cap1, .int .u64 u] w fun e w' => e = .returned (.bool true) ∧ Below w.heap.size w w' := by
  obtain ⟨n, rfl, hn⟩ := nat64_of hwu
  have HZ := Lib.hid hz
  have HZ1 := Lib.hid hz1
  unfold maxLen at hz hz1
  by_cases h : 100 < xs.length ∨ 100 < ys.length
  · exact live A cap xs A1 cap1 ys _ (by omega) (by omega) h w
  · have HC := Lib.hid hc
    have HC1 := Lib.hid hc1
    have HW := Lib.hid hw
    have HW1 := Lib.hid hw1
    clear hwu hc hc1 hw hw1
    have h1 : xs.length ≤ 100 := by omega
    have h2 : ys.length ≤ 100 := by omega
    have hx : xs.length ≤ 100000 := by omega
    go_enter Try.func3, Try.ntmps3
    go_wp2_with fail
    refine (swap_c n hn _).mono ?_
    rintro e wz ⟨rfl, rfl⟩
    go_wp2_with fail
    refine (rswap_c n hn _).mono ?_
    rintro e wz ⟨rfl, rfl⟩
    go_wp2_with fail
    refine (encodeR_c A cap xs hx HW.out _ HC.out).mono ?_
    rintro e w1 ⟨rfl, hb1⟩
    obtain ⟨S, hS⟩ : ∃ S, S = ba (encR (cbs xs)) := ⟨_, rfl⟩
    rw [← hS]
    have HS := Lib.hid hS
    clear hS
    go_wp2_with fail
    refine (rencodeR_c A cap xs hx HW.out _ (HC.out.keep hb1)).mono ?_
    rintro e w2 ⟨rfl, hm2⟩
    rw [← HS.out]
    have hb2 := hb1.trans (hm2.mono hb1.size)
    have hss : (S.toList == S.toList) = true := by simp
    clear hb1 hm2
    go_wp2_with fail
    refine (same9_c A A1 cap cap1 xs ys HZ.out HZ1.out HW.out HW1.out _ (HC.out.keep hb2) (HC1.out.keep hb2)).mono ?_
    rintro e w3 ⟨rfl, hm3⟩
    have hb3 := hb2.trans (hm3.mono hb2.size)
    obtain ⟨b, hb⟩ : ∃ b, b = decide (cbs xs = cbs ys) := ⟨_, rfl⟩
    rw [← hb]
    have HB := Lib.hid hb
    clear hb hb2 hm3
    go_wp2_with fail
    refine (rsame9_c A A1 cap cap1 xs ys HZ.out HZ1.out HW.out HW1.out _ (HC.out.keep hb3) (HC1.out.keep hb3)).mono ?_
    rintro e w4 ⟨rfl, qd, rfl⟩
    rw [← HB.out]
    have hb4 := below_drewN hb3 qd
    have hbb : (b == b) = true := by simp
    clear hb3
    go_wp2_with fail
    refine (live9_c _).mono ?_
    rintro e w11 ⟨rfl, hm11⟩
    go_wp2
    go_ret
    exact ⟨rfl, hb4.trans (hm11.mono hb4.size)⟩
end realsTells
end Go.Proofs.Ytjjbiepmfngipaa
