/-
  The walk of FlagsBack.
-/
import Derived.Test.YtiehmeheilfocaaPm
namespace Go.Proofs.Ytiehmeheilfocaa
open Go.RowKit Go.IntWalk
open Pk
set_option maxRecDepth 100000
attribute [local go_sem] Oper.semAt_some

theorem lenI_ints {l : List Bool} (h : l.length ≤ 100000) : ∀ x ∈ lenI l, In64 x := fun x hx => by
  unfold lenI at hx
  obtain ⟨y, hy, rfl⟩ := List.mem_map.1 hx
  have := lens_le hy
  unfold In64; omega
theorem sprF_back (l : List Bool) : sprF (lenI l) (l.length : Int) = (l, true) := by
  unfold lenI
  rw [sprF_nat (lens_pos l false) (by rw [lens_sum]; exact Nat.le_refl _), if_neg (lens_zero false l), sprB_lens]

namespace flagsBack
set_option maxHeartbeats 4000000 in
theorem walk (A : Option Addr) (cap : Nat) (us : List Bool) (s : List UInt8) (n : Int) (hz : us.length ≤ maxLen) (hzs : s.length ≤ maxLen) (hwn : (Lit.int .i64 n).wf = true) (w : World) (hc : At w w.heap.size A (bvs us)) :
    Calls Try.prog 5 #[.slice A us.length cap, .string (ba s), .int .i64 n] w fun e w' => e = .returned (.bool true) ∧ Below w.heap.size w w' := by
  have hss := ba_size s
  have HN := Lib.hid (in64_of hwn)
  have HC := Lib.hid hc
  unfold maxLen at hz hzs
  clear hc hwn
  by_cases h : 200 < us.length ∨ 500 < s.length
  · by_cases h1 : 200 < us.length
    · go_enter Try.func5, Try.ntmps5
      go_wp2_with fail
      refine (live7_c _).mono ?_
      rintro e w1 ⟨rfl, hb1⟩
      go_wp2
      go_ret
      exact ⟨rfl, hb1⟩
    · have h3 : 500 < s.length := by omega
      clear h
      go_enter Try.func5, Try.ntmps5
      go_wp2_with fail
      refine (live7_c _).mono ?_
      rintro e w1 ⟨rfl, hb1⟩
      go_wp2
      go_ret
      exact ⟨rfl, hb1⟩
  · have h1 : us.length ≤ 200 := by omega
    have h2 : s.length ≤ 500 := by omega
    have hx : us.length ≤ 100000 := by omega
    have hx2 : s.length ≤ 90000 := by omega
    have hel : (encF us).length ≤ 90000 := by have := encF_len hx; omega
    have hrl : (lenI us).length ≤ 100000 := Nat.le_trans (lenI_len us) (by omega)
    have HRI := Lib.hid (lenI_ints hx)
    have HENC := Lib.hid (decF_enc (l := us) (by omega))
    have HSPR := Lib.hid (sprF_back us)
    have HLEN := Lib.hid (fun (n : Int) => @decF_len us n (by omega))
    obtain ⟨t, ht⟩ : ∃ t, t = encF us := ⟨_, rfl⟩
    rw [← ht] at hel
    have HT := Lib.hid ht
    obtain ⟨rs, hrs⟩ : ∃ rs, rs = lenI us := ⟨_, rfl⟩
    rw [← hrs] at hrl HRI HSPR
    rw [← ht] at HENC HLEN
    have HRS := Lib.hid hrs
    obtain ⟨d, hd⟩ : ∃ d, d = decF s n := ⟨_, rfl⟩
    have hdl : d.1.length ≤ 100000 := by rw [hd]; exact Nat.le_trans (decF_short s n) (by omega)
    have HDD := Lib.hid (show d.2 = 0 → encF d.1 = s ∧ (d.1.length : Int) = n by rw [hd]; exact decF_dec)
    have HDE := Lib.hid (show d.2 ≠ 0 → d.1 = [] by rw [hd]; exact decF_err)
    have HD := Lib.hid hd
    clear h hz hzs ht hrs hd
    go_enter Try.func5, Try.ntmps5
    go_wp2_with fail
    refine (fencode_c A cap us hx _ HC.out).mono ?_
    rintro e w1 ⟨rfl, hb1⟩
    rw [← HT.out]
    go_wp2_with fail
    refine (fdecode_k t (us.length : Int) us 0 us.length HENC.out rfl (by omega) (by omega) hel _).mono ?_
    rintro e w2 ⟨A2, c2, rfl, hat2, hm2⟩
    have HAT2 := Lib.hid hat2
    have hb2 := hb1.trans (hm2.mono hb1.size)
    clear hat2 hm2 hb1
    go_wp2_with fail
    refine (lengths_k us rs HRS.out.symm rfl rfl hx (HC.out.keep hb2)).mono ?_
    rintro e w3 ⟨A3, c3, rfl, -, hat3, hm3⟩
    have HAT3 := Lib.hid hat3
    have HAT2 := Lib.hid (HAT2.out.keep hm3)
    have hb3 := hb2.trans (hm3.mono hb2.size)
    clear hat3 hm3 hb2
    go_wp2_with fail
    refine (spreadF_k rs (us.length : Int) us true HSPR.out rfl rfl hrl (by omega) (by omega) HRI.out HAT3.out).mono ?_
    rintro e w4 ⟨A4, c4, rfl, hat4, hm4⟩
    have HAT4 := Lib.hid hat4
    have HAT3 := Lib.hid (HAT3.out.keep hm4)
    have HAT2 := Lib.hid (HAT2.out.keep hm4)
    have hb4 := hb3.trans (hm4.mono hb3.size)
    clear hat4 hm4 hb3
    go_wp2_with fail
    refine (same7_k us us rfl rfl hx hx HAT2.out (HC.out.keep hb4)).mono ?_
    rintro e w5 ⟨rfl, hm5⟩
    rw [show decide (us = us) = true by simp]
    have HAT4 := Lib.hid (HAT4.out.keep hm5)
    have HAT3 := Lib.hid (HAT3.out.keep hm5)
    have hb5 := hb4.trans (hm5.mono hb4.size)
    clear hm5 hb4 HAT2
    go_wp2_with fail
    refine (same7_k us us rfl rfl hx hx HAT4.out (HC.out.keep hb5)).mono ?_
    rintro e w6 ⟨rfl, hm6⟩
    rw [show decide (us = us) = true by simp]
    have HAT3 := Lib.hid (HAT3.out.keep hm6)
    have hb6 := hb5.trans (hm6.mono hb5.size)
    clear hm6 hb5 HAT4
    have hb7 := hb6
    clear hb6 HAT3
    by_cases hn : n = (us.length : Int)
    · have hnb : (n != (us.length : Int)) = false := by simp [hn]
      clear hn
      by_cases hd0 : d.2 = 0
      · have hdb : (d.2 != 0) = false := by rw [hd0]; rfl
        obtain ⟨hd1, hd2⟩ := HDD.out hd0
        have hd2b : ((d.1.length : Int) == n) = true := by simpa using hd2
        have HD1 := Lib.hid hd1
        clear hd0 hd1 hd2
        go_wp2_with fail
        refine (fdecode_c s n HN.out.1 HN.out.2 (by omega) _).mono ?_
        rintro e w8 ⟨A8, c8, rfl, -, -, hat8, hm8⟩
        rw [← HD.out] at hat8 ⊢
        have HAT8 := Lib.hid hat8
        have hb8 := hb7.trans (hm8.mono hb7.size)
        clear hat8 hm8 hb7
        go_wp2_with fail
        refine (fencode_c A8 c8 d.1 hdl _ HAT8.out).mono ?_
        rintro e w9 ⟨rfl, hm9⟩
        rw [HD1.out]
        have hb9 := hb8.trans (hm9.mono hb8.size)
        clear hm9 hb8 HAT8
        go_wp2_with fail
        refine (live7_c _).mono ?_
        rintro e w10 ⟨rfl, hm10⟩
        go_wp2
        go_ret
        exact ⟨rfl, hb9.trans (hm10.mono hb9.size)⟩
      · have hdb : (d.2 != 0) = true := by simpa using hd0
        have hlen0 : d.1.length = 0 := by rw [HDE.out hd0]; rfl
        clear hd0
        go_wp2_with fail
        refine (fdecode_c s n HN.out.1 HN.out.2 (by omega) _).mono ?_
        rintro e w8 ⟨A8, c8, rfl, -, -, hat8, hm8⟩
        rw [← HD.out] at hat8 ⊢
        have hb8 := hb7.trans (hm8.mono hb7.size)
        clear hat8 hm8 hb7
        go_wp2_with fail
        refine (live7_c _).mono ?_
        rintro e w10 ⟨rfl, hm10⟩
        go_wp2
        go_ret
        exact ⟨rfl, hb8.trans (hm10.mono hb8.size)⟩
    · have hnb : (n != (us.length : Int)) = true := by simpa using hn
      obtain ⟨f, hf⟩ : ∃ f, f = decF t n := ⟨_, rfl⟩
      have hf0 : (f.2 == 0) = false := by have := HLEN.out n hn; rw [← hf] at this; simpa using this
      have HF := Lib.hid hf
      clear hn hf
      go_wp2_with fail
      refine (fdecode_c t n HN.out.1 HN.out.2 (by omega) _).mono ?_
      rintro e wf ⟨Af, cf, rfl, -, -, -, hmf⟩
      rw [← HF.out]
      have hb71 := hb7.trans (hmf.mono hb7.size)
      clear hmf hb7
      by_cases hd0 : d.2 = 0
      · have hdb : (d.2 != 0) = false := by rw [hd0]; rfl
        obtain ⟨hd1, hd2⟩ := HDD.out hd0
        have hd2b : ((d.1.length : Int) == n) = true := by simpa using hd2
        have HD1 := Lib.hid hd1
        clear hd0 hd1 hd2
        go_wp2_with fail
        refine (fdecode_c s n HN.out.1 HN.out.2 (by omega) _).mono ?_
        rintro e w8 ⟨A8, c8, rfl, -, -, hat8, hm8⟩
        rw [← HD.out] at hat8 ⊢
        have HAT8 := Lib.hid hat8
        have hb8 := hb71.trans (hm8.mono hb71.size)
        clear hat8 hm8 hb71
        go_wp2_with fail
        refine (fencode_c A8 c8 d.1 hdl _ HAT8.out).mono ?_
        rintro e w9 ⟨rfl, hm9⟩
        rw [HD1.out]
        have hb9 := hb8.trans (hm9.mono hb8.size)
        clear hm9 hb8 HAT8
        go_wp2_with fail
        refine (live7_c _).mono ?_
        rintro e w10 ⟨rfl, hm10⟩
        go_wp2
        go_ret
        exact ⟨rfl, hb9.trans (hm10.mono hb9.size)⟩
      · have hdb : (d.2 != 0) = true := by simpa using hd0
        have hlen0 : d.1.length = 0 := by rw [HDE.out hd0]; rfl
        clear hd0
        go_wp2_with fail
        refine (fdecode_c s n HN.out.1 HN.out.2 (by omega) _).mono ?_
        rintro e w8 ⟨A8, c8, rfl, -, -, hat8, hm8⟩
        rw [← HD.out] at hat8 ⊢
        have hb8 := hb71.trans (hm8.mono hb71.size)
        clear hat8 hm8 hb71
        go_wp2_with fail
        refine (live7_c _).mono ?_
        rintro e w10 ⟨rfl, hm10⟩
        go_wp2
        go_ret
        exact ⟨rfl, hb8.trans (hm10.mono hb8.size)⟩
end flagsBack
end Go.Proofs.Ytiehmeheilfocaa
