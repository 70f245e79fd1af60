/-
  The walks of RunsTells and RunsReads.
-/
import Derived.Test.YtacnbgfddidfiaaQm
import Derived.Test.YtacnbgfddidfiaaVb
namespace Go.Proofs.Ytacnbgfddidfiaa
open Go.RowKit Go.IntWalk
open Pk
set_option maxRecDepth 100000
attribute [local go_sem] Oper.semAt_some

theorem uvs_map (us : List Nat) : (us.map fun (u : Nat) => (u : Int)).map (Value.int .u64) = uvs us := by simp [uvs]
theorem decU_short (l : List UInt8) (n : Int) : (decU l n).1.length ≤ 4096 := by
  by_cases h0 : (decU l n).2 = 0
  · obtain ⟨_, h2⟩ := decU_dec h0
    rcases Int.lt_or_le n 0 with hn | hn
    · rw [decU_neg hn]; simp
    · rcases Int.lt_or_le 4096 n with hb | hb
      · rw [decU_big hb]; simp
      · omega
  · rw [decU_err h0]; simp
theorem sprV_short (r : List Run) (most : Int) (h : most ≤ 4096) : (sprV r most).1.length ≤ 4096 := by
  unfold sprV
  split
  · rename_i h1
    show (spr r).length ≤ 4096
    omega
  · simp

namespace runsReads
set_option maxHeartbeats 4000000 in
theorem walk (l : List UInt8) (n : Int) (hz : l.length ≤ maxLen) (hw : (Lit.int .i64 n).wf = true) (w : World) :
    Calls Try.prog 9 #[.string (ba l), .int .i64 n] w fun e w' => e = .returned (.bool true) ∧ Below w.heap.size w w' := by
  have hs := ba_size l
  have HN := Lib.hid (in64_of hw)
  unfold maxLen at hz
  clear hw
  by_cases h : 500 < l.length
  · go_enter Try.func9, Try.ntmps9
    go_wp2_with fail
    refine (live6_c _).mono ?_
    rintro e w1 ⟨rfl, hb1⟩
    go_wp2
    go_ret
    exact ⟨rfl, hb1⟩
  · have hx : l.length ≤ 100000 := by omega
    obtain ⟨r, hr⟩ : ∃ r, r = decU l n := ⟨_, rfl⟩
    have hrl : r.1.length ≤ 100000 := by rw [hr]; exact Nat.le_trans (decU_short l n) (by omega)
    have HR := Lib.hid hr
    clear hr
    go_enter Try.func9, Try.ntmps9
    go_wp2_with fail
    refine (udecode_c l n HN.out.1 HN.out.2 hx _).mono ?_
    rintro e w1 ⟨A1, cap1, rfl, -, -, hat1, hb1⟩
    rw [← HR.out] at hat1 ⊢
    have HAT1 := Lib.hid hat1
    clear hat1
    go_wp2_with fail
    refine (urdecode_c l n HN.out.1 HN.out.2 hx _).mono ?_
    rintro e w2 ⟨A2, cap2, rfl, -, -, hat2, hm2⟩
    rw [← HR.out] at hat2 ⊢
    have HAT2 := Lib.hid hat2
    have HAT1 := Lib.hid (HAT1.out.keep hm2)
    have hb2 := hb1.trans (hm2.mono hb1.size)
    clear hat2 hm2 hb1
    go_wp2_with fail
    refine (same6_k r.1 r.1 rfl rfl hrl hrl HAT1.out HAT2.out).mono ?_
    rintro e w3 ⟨rfl, hm3⟩
    rw [show decide (r.1 = r.1) = true by simp]
    have hb3 := hb2.trans (hm3.mono hb2.size)
    have hrr : (r.2 == r.2) = true := by simp
    clear hm3 hb2 HAT1 HAT2
    go_wp2_with fail
    refine (live6_c _).mono ?_
    rintro e w11 ⟨rfl, hm11⟩
    go_wp2
    go_ret
    exact ⟨rfl, hb3.trans (hm11.mono hb3.size)⟩
end runsReads

namespace runsTells
set_option maxHeartbeats 4000000 in
theorem walk (A : Option Addr) (cap : Nat) (xs : List Int) (A1 : Option Addr) (cap1 : Nat) (rr : List Run) (most : Int) (hz : xs.length ≤ maxLen) (hw : ∀ x ∈ xs, (Lit.int .u64 x).wf = true) (hz1 : rr.length ≤ maxLen) (hri : ∀ x ∈ rr, In64 x.2) (hwm : (Lit.int .i64 most).wf = true) (w : World) (hc : At w w.heap.size A (xs.map (Value.int .u64))) (hc1 : At w w.heap.size A1 (rvs rr)) :
    Calls Try.prog 8 #[.slice A xs.length cap, .slice A1 rr.length cap1, .int .i64 most] w fun e w' => e = .returned (.bool true) ∧ Below w.heap.size w w' := by
  obtain ⟨us, rfl, hus⟩ := nats_of hw
  rw [uvs_map] at hc
  rw [List.length_map] at hz ⊢
  have hin := in64_of hwm
  unfold In64 at hin
  obtain ⟨hm1, hm2⟩ := hin
  have HC := Lib.hid hc
  have HC1 := Lib.hid hc1
  have HU := Lib.hid (show Nums us from hus)
  have HRI := Lib.hid hri
  unfold maxLen at hz hz1
  clear hw hc hc1 hwm hus hri
  by_cases h : 200 < us.length ∨ 40 < rr.length ∨ 300 < most
  · by_cases h1 : 200 < us.length
    · go_enter Try.func8, Try.ntmps8
      go_wp2_with fail
      refine (live6_c _).mono ?_
      rintro e w1 ⟨rfl, hb1⟩
      go_wp2
      go_ret
      exact ⟨rfl, hb1⟩
    · by_cases h2 : 40 < rr.length
      · go_enter Try.func8, Try.ntmps8
        go_wp2_with fail
        refine (live6_c _).mono ?_
        rintro e w1 ⟨rfl, hb1⟩
        go_wp2
        go_ret
        exact ⟨rfl, hb1⟩
      · have h3 : 300 < most := by omega
        clear h
        go_enter Try.func8, Try.ntmps8
        go_wp2_with fail
        refine (live6_c _).mono ?_
        rintro e w1 ⟨rfl, hb1⟩
        go_wp2
        go_ret
        exact ⟨rfl, hb1⟩
  · have h1 : us.length ≤ 200 := by omega
    have h2 : rr.length ≤ 40 := by omega
    have h3 : most ≤ 300 := by omega
    have hx : us.length ≤ 100000 := by omega
    have hx1 : rr.length ≤ 100000 := by omega
    have hm3 : most ≤ 100000 := by omega
    clear h hz hz1 hm2
    obtain ⟨sp, hsp⟩ : ∃ sp, sp = sprV rr most := ⟨_, rfl⟩
    have hspl : sp.1.length ≤ 100000 := by rw [hsp]; exact Nat.le_trans (sprV_short rr most (by omega)) (by omega)
    have HSP := Lib.hid hsp
    obtain ⟨rs, hrs⟩ : ∃ rs, rs = runsL us := ⟨_, rfl⟩
    have hrl : rs.length ≤ 100000 := by rw [hrs]; exact Nat.le_trans (runs_len us) hx
    have HRS := Lib.hid hrs
    clear hsp hrs
    have hM1 := Lib.hid hm1
    clear hm1
    go_enter Try.func8, Try.ntmps8
    go_wp2_with fail
    refine (spread_c A1 cap1 rr most hx1 hM1.out hm3 HRI.out _ HC1.out).mono ?_
    rintro e w1 ⟨B1, k1, rfl, -, -, hat1, hb1⟩
    rw [← HSP.out] at hat1 ⊢
    have HAT1 := Lib.hid hat1
    clear hat1
    go_wp2_with fail
    refine (rspread_c A1 cap1 rr most hx1 hM1.out hm3 HRI.out _ (HC1.out.keep hb1)).mono ?_
    rintro e w2 ⟨B2, k2, rfl, -, -, hat2, hm2⟩
    rw [← HSP.out] at hat2 ⊢
    have HAT2 := Lib.hid hat2
    have HAT1 := Lib.hid (HAT1.out.keep hm2)
    have hb2 := hb1.trans (hm2.mono hb1.size)
    clear hat2 hm2 hb1
    go_wp2_with fail
    refine (runs_c A cap us hx _ (HC.out.keep hb2)).mono ?_
    rintro e w3 ⟨B3, k3, rfl, -, -, hat3, hm3⟩
    rw [← HRS.out] at hat3 ⊢
    have HAT3 := Lib.hid hat3
    have HAT1 := Lib.hid (HAT1.out.keep hm3)
    have HAT2 := Lib.hid (HAT2.out.keep hm3)
    have hb3 := hb2.trans (hm3.mono hb2.size)
    clear hat3 hm3 hb2
    go_wp2_with fail
    refine (rruns_c A cap us hx _ (HC.out.keep hb3)).mono ?_
    rintro e w4 ⟨B4, k4, rfl, -, -, hat4, hm4⟩
    rw [← HRS.out] at hat4 ⊢
    have HAT4 := Lib.hid hat4
    have HAT1 := Lib.hid (HAT1.out.keep hm4)
    have HAT2 := Lib.hid (HAT2.out.keep hm4)
    have HAT3 := Lib.hid (HAT3.out.keep hm4)
    have hb4 := hb3.trans (hm4.mono hb3.size)
    clear hat4 hm4 hb3
    go_wp2_with fail
    refine (sameR_k rs rs rfl rfl hrl hrl HAT3.out HAT4.out).mono ?_
    rintro e w5 ⟨rfl, hm5⟩
    rw [show decide (rs = rs) = true by simp]
    have HAT1 := Lib.hid (HAT1.out.keep hm5)
    have HAT2 := Lib.hid (HAT2.out.keep hm5)
    have hb5 := hb4.trans (hm5.mono hb4.size)
    clear hm5 hb4 HAT3 HAT4
    go_wp2_with fail
    refine (uencode_c A cap us hx HU.out _ (HC.out.keep hb5)).mono ?_
    rintro e w6 ⟨rfl, hm6⟩
    have HAT1 := Lib.hid (HAT1.out.keep hm6)
    have HAT2 := Lib.hid (HAT2.out.keep hm6)
    have hb6 := hb5.trans (hm6.mono hb5.size)
    clear hm6 hb5
    go_wp2_with fail
    refine (urencode_c A cap us hx HU.out _ (HC.out.keep hb6)).mono ?_
    rintro e w7 ⟨rfl, hm7⟩
    have HAT1 := Lib.hid (HAT1.out.keep hm7)
    have HAT2 := Lib.hid (HAT2.out.keep hm7)
    have hb7 := hb6.trans (hm7.mono hb6.size)
    clear hm7 hb6
    go_wp2_with fail
    refine (may_c A1 cap1 rr hx1 _ (HC1.out.keep hb7)).mono ?_
    rintro e w8 ⟨rfl, hm8⟩
    have HAT1 := Lib.hid (HAT1.out.keep hm8)
    have HAT2 := Lib.hid (HAT2.out.keep hm8)
    have hb8 := hb7.trans (hm8.mono hb7.size)
    clear hm8 hb7
    go_wp2_with fail
    refine (rmay_c A1 cap1 rr hx1 _ (HC1.out.keep hb8)).mono ?_
    rintro e w9 ⟨rfl, hm9⟩
    have HAT1 := Lib.hid (HAT1.out.keep hm9)
    have HAT2 := Lib.hid (HAT2.out.keep hm9)
    have hb9 := hb8.trans (hm9.mono hb8.size)
    have hmm : (mayP none rr == mayP none rr) = true := by simp
    clear hm9 hb8
    go_wp2_with fail
    refine (same6_k sp.1 sp.1 rfl rfl hspl hspl HAT1.out HAT2.out).mono ?_
    rintro e w10 ⟨rfl, hm10⟩
    rw [show decide (sp.1 = sp.1) = true by simp]
    have hb10 := hb9.trans (hm10.mono hb9.size)
    have hss : (sp.2 == sp.2) = true := by simp
    clear hm10 hb9 HAT1 HAT2
    go_wp2_with fail
    refine (live6_c _).mono ?_
    rintro e w11 ⟨rfl, hm11⟩
    go_wp2
    go_ret
    exact ⟨rfl, hb10.trans (hm11.mono hb10.size)⟩
end runsTells
end Go.Proofs.Ytacnbgfddidfiaa
