/-
  The walks of DeltaTells and DeltaReads.
-/
import Derived.Test.YtacnbgfddidfiaaRj
import Derived.Test.YtacnbgfddidfiaaVb
namespace Go.Proofs.Ytacnbgfddidfiaa
open Go.RowKit Go.IntWalk
open Pk
set_option maxRecDepth 100000

theorem At.at' {w0 w : World} {A : Option Addr} {xs : List Value} (h : At w0 w0.heap.size A xs) (hb : Below w0.heap.size w0 w) : At w w.heap.size A xs := h.keep hb

namespace deltaTells
set_option maxHeartbeats 4000000 in
theorem walk (A : Option Addr) (cap : Nat) (xs : List Int) (hcap : xs.length ≤ cap) (hz : xs.length ≤ maxLen) (hw : ∀ x ∈ xs, (Lit.int .i64 x).wf = true) (w : World) (hc : At w w.heap.size A (ivs xs)) :
    Calls Try.prog 3 #[.slice A xs.length cap] w fun e w' => e = .returned (.bool true) ∧ Below w.heap.size w w' := by
  have HI := Lib.hid (ints_of hw)
  have HC := Lib.hid hc
  have hdl := dl_len 0 xs
  have hsl := sm_len xs 0
  have HDL := Lib.hid hdl
  have HSL := Lib.hid hsl
  have HCAP := Lib.hid hcap
  unfold maxLen at hz
  clear hw hc hdl hsl hcap
  by_cases h : 200 < xs.length
  · go_enter Try.func3, Try.ntmps3
    go_wp2_with fail
    refine (live5_c _).mono ?_
    rintro e w1 ⟨rfl, hb1⟩
    go_wp2
    go_ret
    exact ⟨rfl, hb1⟩
  · have hx : xs.length ≤ 100000 := by omega
    go_enter Try.func3, Try.ntmps3
    go_wp2_with fail
    refine (deltas_c A cap xs hx _ HC.out).mono ?_
    rintro e w1 ⟨A1, cap1, rfl, -, -, hat1, hb1⟩
    have HAT1 := Lib.hid hat1
    clear hat1
    go_wp2_with fail
    refine (rdeltas_c A cap xs hx HI.out _ (HC.out.keep hb1)).mono ?_
    rintro e w2 ⟨A2, cap2, rfl, -, -, hat2, hm2⟩
    have HAT2 := Lib.hid hat2
    have HAT1 := Lib.hid (HAT1.out.keep hm2)
    have hb2 := hb1.trans (hm2.mono hb1.size)
    clear hat2 hm2 hb1
    go_wp2_with fail
    refine (same5_k (dl 0 xs) (dl 0 xs) HDL.out HDL.out hx hx HAT1.out HAT2.out).mono ?_
    rintro e w3 ⟨rfl, hm3⟩
    rw [show decide (dl 0 xs = dl 0 xs) = true by simp]
    have hb3 := hb2.trans (hm3.mono hb2.size)
    clear hm3 hb2 HAT1 HAT2
    go_wp2_with fail
    refine (sums_c A cap xs hx _ (HC.out.keep hb3)).mono ?_
    rintro e w4 ⟨A1, cap1, rfl, -, -, hat1, hm4⟩
    have HAT1 := Lib.hid hat1
    have hb4 := hb3.trans (hm4.mono hb3.size)
    clear hat1 hm4 hb3
    go_wp2_with fail
    refine (rsums_c A cap xs hx HI.out _ (HC.out.keep hb4)).mono ?_
    rintro e w5 ⟨A2, cap2, rfl, -, -, hat2, hm5⟩
    have HAT2 := Lib.hid hat2
    have HAT1 := Lib.hid (HAT1.out.keep hm5)
    have hb5 := hb4.trans (hm5.mono hb4.size)
    clear hat2 hm5 hb4
    go_wp2_with fail
    refine (same5_k (sm 0 xs) (sm 0 xs) HSL.out HSL.out hx hx HAT1.out HAT2.out).mono ?_
    rintro e w6 ⟨rfl, hm6⟩
    rw [show decide (sm 0 xs = sm 0 xs) = true by simp]
    have hb6 := hb5.trans (hm6.mono hb5.size)
    clear hm6 hb5 HAT1 HAT2
    go_wp2_with fail
    refine (encode_c A cap xs hx _ (HC.out.keep hb6)).mono ?_
    rintro e w7 ⟨rfl, hm7⟩
    have hb7 := hb6.trans (hm7.mono hb6.size)
    clear hm7 hb6
    go_wp2_with fail
    refine (rencode_c A cap xs hx HI.out _ (HC.out.keep hb7)).mono ?_
    rintro e w8 ⟨rfl, hm8⟩
    have hb8 := hb7.trans (hm8.mono hb7.size)
    clear hm8 hb7
    go_wp2_with fail
    refine (rising_c A cap xs hx HCAP.out _ (HC.out.keep hb8)).mono ?_
    rintro e w9 ⟨rfl, hm9⟩
    have hb9 := hb8.trans (hm9.mono hb8.size)
    clear hm9 hb8
    go_wp2_with fail
    refine (rrising_c A cap xs hx _ (HC.out.keep hb9)).mono ?_
    rintro e w10 ⟨rfl, hm10⟩
    have hb10 := hb9.trans (hm10.mono hb9.size)
    have hrr : (rises xs == rises xs) = true := by simp
    clear hm10 hb9
    go_wp2_with fail
    refine (live5_c _).mono ?_
    rintro e w11 ⟨rfl, hm11⟩
    go_wp2
    go_ret
    exact ⟨rfl, hb10.trans (hm11.mono hb10.size)⟩
end deltaTells

namespace deltaReads
set_option maxHeartbeats 4000000 in
theorem walk (l : List UInt8) (n : Int) (hz : l.length ≤ maxLen) (hw : (Lit.int .i64 n).wf = true) (w : World) :
    Calls Try.prog 4 #[.string (ba l), .int .i64 n] w fun e w' => e = .returned (.bool true) ∧ Below w.heap.size w w' := by
  have hs := ba_size l
  have HN := Lib.hid (in64_of hw)
  unfold maxLen at hz
  clear hw
  by_cases h : 500 < l.length
  · go_enter Try.func4, Try.ntmps4
    go_wp2_with fail
    refine (live5_c _).mono ?_
    rintro e w1 ⟨rfl, hb1⟩
    go_wp2
    go_ret
    exact ⟨rfl, hb1⟩
  · have hx : l.length ≤ 100000 := by omega
    obtain ⟨r, hr⟩ : ∃ r, r = decV l n := ⟨_, rfl⟩
    have hrl : r.1.length ≤ 100000 := by rw [hr]; exact Nat.le_trans (decV_short l n) hx
    have HR := Lib.hid hr
    clear hr
    go_enter Try.func4, Try.ntmps4
    go_wp2_with fail
    refine (decode_c l n HN.out.1 HN.out.2 hx _).mono ?_
    rintro e w1 ⟨A1, cap1, rfl, -, -, hat1, hb1⟩
    rw [← HR.out] at hat1 ⊢
    have HAT1 := Lib.hid hat1
    clear hat1
    go_wp2_with fail
    refine (rdecode_c l n HN.out.1 HN.out.2 hx _).mono ?_
    rintro e w2 ⟨A2, cap2, rfl, -, -, hat2, hm2⟩
    rw [← HR.out] at hat2 ⊢
    have HAT2 := Lib.hid hat2
    have HAT1 := Lib.hid (HAT1.out.keep hm2)
    have hb2 := hb1.trans (hm2.mono hb1.size)
    clear hat2 hm2 hb1
    go_wp2_with fail
    refine (same5_k r.1 r.1 rfl rfl hrl hrl HAT1.out HAT2.out).mono ?_
    rintro e w3 ⟨rfl, hm3⟩
    rw [show decide (r.1 = r.1) = true by simp]
    have hb3 := hb2.trans (hm3.mono hb2.size)
    have hrr : (r.2 == r.2) = true := by simp
    clear hm3 hb2 HAT1 HAT2
    go_wp2_with fail
    refine (live5_c _).mono ?_
    rintro e w11 ⟨rfl, hm11⟩
    go_wp2
    go_ret
    exact ⟨rfl, hb3.trans (hm11.mono hb3.size)⟩
end deltaReads
end Go.Proofs.Ytacnbgfddidfiaa
