/-
  The walks of FlagsTells and FlagsReads.
-/
import Derived.Test.YtiehmeheilfocaaPl
import Derived.Test.YtiehmeheilfocaaVb
namespace Go.Proofs.Ytiehmeheilfocaa
open Go.RowKit Go.IntWalk
open Pk
set_option maxRecDepth 100000
attribute [local go_sem] Oper.semAt_some

theorem decF_short (l : List UInt8) (n : Int) : (decF l n).1.length ≤ 4096 := by
  by_cases h0 : (decF l n).2 = 0
  · obtain ⟨_, h2⟩ := decF_dec h0
    rcases Int.lt_or_le n 0 with hn | hn
    · rw [decF_neg hn]; simp
    · rcases Int.lt_or_le 4096 n with hb | hb
      · rw [decF_big hb]; simp
      · omega
  · rw [decF_err h0]; simp

namespace flagsReads
set_option maxHeartbeats 4000000 in
theorem walk (l : List UInt8) (n : Int) (hz : l.length ≤ maxLen) (hw : (Lit.int .i64 n).wf = true) (w : World) :
    Calls Try.prog 4 #[.string (ba l), .int .i64 n] w fun e w' => e = .returned (.bool true) ∧ Below w.heap.size w w' := by
  have hs := ba_size l
  have HN := Lib.hid (in64_of hw)
  unfold maxLen at hz
  clear hw
  by_cases h : 500 < l.length
  · go_enter Try.func4, Try.ntmps4
    go_wp2_with fail
    refine (live7_c _).mono ?_
    rintro e w1 ⟨rfl, hb1⟩
    go_wp2
    go_ret
    exact ⟨rfl, hb1⟩
  · have hx : l.length ≤ 90000 := by omega
    obtain ⟨r, hr⟩ : ∃ r, r = decF l n := ⟨_, rfl⟩
    have hrl : r.1.length ≤ 100000 := by rw [hr]; exact Nat.le_trans (decF_short l n) (by omega)
    have HR := Lib.hid hr
    clear hr
    go_enter Try.func4, Try.ntmps4
    go_wp2_with fail
    refine (fdecode_c l n HN.out.1 HN.out.2 (by omega) _).mono ?_
    rintro e w1 ⟨A1, cap1, rfl, -, -, hat1, hb1⟩
    rw [← HR.out] at hat1 ⊢
    have HAT1 := Lib.hid hat1
    clear hat1
    go_wp2_with fail
    refine (frdecode_c l n HN.out.1 HN.out.2 hx _).mono ?_
    rintro e w2 ⟨A2, cap2, rfl, -, -, hat2, hm2⟩
    rw [← HR.out] at hat2 ⊢
    have HAT2 := Lib.hid hat2
    have HAT1 := Lib.hid (HAT1.out.keep hm2)
    have hb2 := hb1.trans (hm2.mono hb1.size)
    clear hat2 hm2 hb1
    go_wp2_with fail
    refine (same7_k r.1 r.1 rfl rfl hrl hrl HAT1.out HAT2.out).mono ?_
    rintro e w3 ⟨rfl, hm3⟩
    rw [show decide (r.1 = r.1) = true by simp]
    have hb3 := hb2.trans (hm3.mono hb2.size)
    have hrr : (r.2 == r.2) = true := by simp
    clear hm3 hb2 HAT1 HAT2
    go_wp2_with fail
    refine (live7_c _).mono ?_
    rintro e w11 ⟨rfl, hm11⟩
    go_wp2
    go_ret
    exact ⟨rfl, hb3.trans (hm11.mono hb3.size)⟩
end flagsReads

namespace flagsTells
theorem live (A : Option Addr) (cap : Nat) (xs : List Bool) (A1 : Option Addr) (cap1 : Nat) (rr : List Int) (most : Int) (hz : xs.length ≤ 9223372036854775807) (hz1 : rr.length ≤ 9223372036854775807) (h : 200 < xs.length ∨ 40 < rr.length ∨ 300 < most) (w : World) :
    Calls Try.prog 3 #[.slice A xs.length cap, .slice A1 rr.length cap1, .int .i64 most] w fun e w' => e = .returned (.bool true) ∧ Below w.heap.size w w' := by
  by_cases h1 : 200 < xs.length
  · clear h
    go_enter Try.func3, Try.ntmps3
    go_wp2_with fail
    refine (live7_c _).mono ?_
    rintro e w1 ⟨rfl, hb1⟩
    go_wp2
    go_ret
    exact ⟨rfl, hb1⟩
  · by_cases h2 : 40 < rr.length
    · clear h
      go_enter Try.func3, Try.ntmps3
      go_wp2_with fail
      refine (live7_c _).mono ?_
      rintro e w1 ⟨rfl, hb1⟩
      go_wp2
      go_ret
      exact ⟨rfl, hb1⟩
    · have h3 : 300 < most := by omega
      clear h
      go_enter Try.func3, Try.ntmps3
      go_wp2_with fail
      refine (live7_c _).mono ?_
      rintro e w1 ⟨rfl, hb1⟩
      go_wp2
      go_ret
      exact ⟨rfl, hb1⟩

set_option maxHeartbeats 4000000 in
theorem walk (A : Option Addr) (cap : Nat) (xs : List Bool) (A1 : Option Addr) (cap1 : Nat) (rr : List Int) (most : Int) (hz : xs.length ≤ maxLen) (hz1 : rr.length ≤ maxLen) (hw1 : ∀ x ∈ rr, (Lit.int .i64 x).wf = true) (hwm : (Lit.int .i64 most).wf = true) (w : World) (hc : At w w.heap.size A (bvs xs)) (hc1 : At w w.heap.size A1 (rr.map (Value.int .i64))) :
    Calls Try.prog 3 #[.slice A xs.length cap, .slice A1 rr.length cap1, .int .i64 most] w fun e w' => e = .returned (.bool true) ∧ Below w.heap.size w w' := by
  have hin := in64_of hwm
  unfold In64 at hin
  obtain ⟨hm1, hm2⟩ := hin
  unfold maxLen at hz hz1
  by_cases h : 200 < xs.length ∨ 40 < rr.length ∨ 300 < most
  · exact live A cap xs A1 cap1 rr most (by omega) (by omega) h w
  · have HC := Lib.hid hc
    have HC1 := Lib.hid (show At w w.heap.size A1 (ivs rr) from hc1)
    have HRI := Lib.hid (fun x hx => in64_of (hw1 x hx))
    clear hwm hc hc1 hw1
    have h1 : xs.length ≤ 200 := by omega
    have h2 : rr.length ≤ 40 := by omega
    have h3 : most ≤ 300 := by omega
    have hx : xs.length ≤ 100000 := by omega
    have hx1 : rr.length ≤ 100000 := by omega
    have hm3 : most ≤ 100000 := by omega
    clear h hz hz1 hm2
    obtain ⟨sp, hsp⟩ : ∃ sp, sp = sprF rr most := ⟨_, rfl⟩
    have hspl : sp.1.length ≤ 100000 := by rw [hsp]; exact Nat.le_trans (sprF_short rr most (by omega)) (by omega)
    have HSP := Lib.hid hsp
    obtain ⟨rs, hrs⟩ : ∃ rs, rs = lenI xs := ⟨_, rfl⟩
    have hrl : rs.length ≤ 100000 := by rw [hrs]; exact Nat.le_trans (lenI_len xs) (by omega)
    have HRS := Lib.hid hrs
    clear hsp hrs
    have hM1 := Lib.hid hm1
    clear hm1
    go_enter Try.func3, Try.ntmps3
    go_wp2_with fail
    refine (spreadF_c A1 cap1 rr most hx1 hM1.out hm3 HRI.out _ HC1.out).mono ?_
    rintro e w1 ⟨B1, k1, rfl, -, -, hat1, hb1⟩
    rw [← HSP.out] at hat1 ⊢
    have HAT1 := Lib.hid hat1
    clear hat1
    go_wp2_with fail
    refine (rspreadF_c A1 cap1 rr most hx1 hM1.out hm3 HRI.out _ (HC1.out.keep hb1)).mono ?_
    rintro e w2 ⟨B2, k2, rfl, -, -, hat2, hm2⟩
    rw [← HSP.out] at hat2 ⊢
    have HAT2 := Lib.hid hat2
    have HAT1 := Lib.hid (HAT1.out.keep hm2)
    have hb2 := hb1.trans (hm2.mono hb1.size)
    clear hat2 hm2 hb1
    go_wp2_with fail
    refine (lengths_c A cap xs hx _ (HC.out.keep hb2)).mono ?_
    rintro e w3 ⟨B3, k3, rfl, -, -, hat3, hm3⟩
    rw [← HRS.out] at hat3 ⊢
    have HAT3 := Lib.hid hat3
    have HAT1 := Lib.hid (HAT1.out.keep hm3)
    have HAT2 := Lib.hid (HAT2.out.keep hm3)
    have hb3 := hb2.trans (hm3.mono hb2.size)
    clear hat3 hm3 hb2
    go_wp2_with fail
    refine (rlengths_c A cap xs hx _ (HC.out.keep hb3)).mono ?_
    rintro e w4 ⟨B4, k4, rfl, -, -, hat4, hm4⟩
    rw [← HRS.out] at hat4 ⊢
    have HAT4 := Lib.hid hat4
    have HAT1 := Lib.hid (HAT1.out.keep hm4)
    have HAT2 := Lib.hid (HAT2.out.keep hm4)
    have HAT3 := Lib.hid (HAT3.out.keep hm4)
    have hb4 := hb3.trans (hm4.mono hb3.size)
    clear hat4 hm4 hb3
    go_wp2_with fail
    refine (same5_k rs rs rfl rfl hrl hrl HAT3.out HAT4.out).mono ?_
    rintro e w5 ⟨rfl, hm5⟩
    rw [show decide (rs = rs) = true by simp]
    have HAT1 := Lib.hid (HAT1.out.keep hm5)
    have HAT2 := Lib.hid (HAT2.out.keep hm5)
    have hb5 := hb4.trans (hm5.mono hb4.size)
    clear hm5 hb4 HAT3 HAT4
    go_wp2_with fail
    refine (fencode_c A cap xs hx _ (HC.out.keep hb5)).mono ?_
    rintro e w6 ⟨rfl, hm6⟩
    have HAT1 := Lib.hid (HAT1.out.keep hm6)
    have HAT2 := Lib.hid (HAT2.out.keep hm6)
    have hb6 := hb5.trans (hm6.mono hb5.size)
    clear hm6 hb5
    go_wp2_with fail
    refine (frencode_c A cap xs hx _ (HC.out.keep hb6)).mono ?_
    rintro e w7 ⟨rfl, hm7⟩
    have HAT1 := Lib.hid (HAT1.out.keep hm7)
    have HAT2 := Lib.hid (HAT2.out.keep hm7)
    have hb7 := hb6.trans (hm7.mono hb6.size)
    clear hm7 hb6
    go_wp2_with fail
    refine (count_c A cap xs hx _ (HC.out.keep hb7)).mono ?_
    rintro e w8 ⟨rfl, rfl⟩
    go_wp2_with fail
    refine (rcount_c A cap xs hx _ (HC.out.keep hb7)).mono ?_
    rintro e w9 ⟨rfl, rfl⟩
    go_wp2_with fail
    refine (same7_k sp.1 sp.1 rfl rfl hspl hspl HAT1.out HAT2.out).mono ?_
    rintro e w10 ⟨rfl, hm10⟩
    rw [show decide (sp.1 = sp.1) = true by simp]
    have hb10 := hb7.trans (hm10.mono hb7.size)
    have hss : (sp.2 == sp.2) = true := by simp
    clear hm10 hb7 HAT1 HAT2
    go_wp2_with fail
    refine (live7_c _).mono ?_
    rintro e w11 ⟨rfl, hm11⟩
    go_wp2
    go_ret
    exact ⟨rfl, hb10.trans (hm11.mono hb10.size)⟩
end flagsTells
end Go.Proofs.Ytiehmeheilfocaa
