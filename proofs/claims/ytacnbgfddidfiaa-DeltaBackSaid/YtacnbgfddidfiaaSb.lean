/-
  The walk of DeltaBack.
-/
import Derived.Test.YtacnbgfddidfiaaSa
namespace Go.Proofs.Ytacnbgfddidfiaa
open Go.RowKit Go.IntWalk
open Pk
set_option maxRecDepth 100000

namespace deltaBack
theorem walk_out (A : Option Addr) (cap n : Nat) (l : List UInt8) (i : Int) (hn : n ≤ maxLen) (hz : l.length ≤ maxLen) (h : 200 < n ∨ (n ≤ 200 ∧ 500 < l.length)) (w : World) :
    Calls Try.prog 5 #[.slice A n cap, .string (ba l), .int .i64 i] w fun e w' => e = .returned (.bool true) ∧ Below w.heap.size w w' := by
  have hs := ba_size l
  unfold maxLen at hz hn
  rcases h with h | ⟨h0, h⟩
  all_goals
    go_enter Try.func5, Try.ntmps5
    go_wp2_with fail
    refine (live5_c _).mono ?_
    rintro e w1 ⟨rfl, hb1⟩
    go_wp2
    go_ret
    exact ⟨rfl, hb1⟩

set_option maxHeartbeats 8000000 in
theorem walk_in (A : Option Addr) (cap : Nat) (xs : List Int) (l : List UInt8) (n : Int) (hx : xs.length ≤ 200) (hl : l.length ≤ 500) (hxi : Ints xs) (hn : In64 n) (w : World) (hc : At w w.heap.size A (ivs xs)) :
    Calls Try.prog 5 #[.slice A xs.length cap, .string (ba l), .int .i64 n] w fun e w' => e = .returned (.bool true) ∧ Below w.heap.size w w' := by
  have hs := ba_size l
  have HI := Lib.hid hxi
  have HN := Lib.hid hn
  have HC := Lib.hid hc
  have HDL := Lib.hid (dl_len 0 xs)
  have HSL := Lib.hid (sm_len xs 0)
  obtain ⟨t, ht⟩ : ∃ t, t = encL xs := ⟨_, rfl⟩
  obtain ⟨ht1, ht2⟩ := encL_len xs
  rw [← ht] at ht1 ht2
  have hts := ba_size t
  have HT := Lib.hid ht
  have hdec : decV t (xs.length : Int) = (xs, 0) := by rw [ht]; exact dec_enc xs hxi
  have HDEC := Lib.hid hdec
  have hsd : sm 0 (dl 0 xs) = xs := sm_dl xs 0 hxi
  have hds : dl 0 (sm 0 xs) = xs := dl_sm xs 0 hxi
  have HSD := Lib.hid hsd
  have HDS := Lib.hid hds
  obtain ⟨r, hr⟩ : ∃ r, r = decV l n := ⟨_, rfl⟩
  have HR := Lib.hid hr
  obtain ⟨r', hr'⟩ : ∃ r', r' = decV t n := ⟨_, rfl⟩
  have HR' := Lib.hid hr'
  have hxx : xs.length ≤ 100000 := by omega
  have hlt : decide (t.length < xs.length) = false := by simp; omega
  have hlt2 : decide ((t.length : Int) < (xs.length : Int)) = false := by simp; omega
  have HT2 := Lib.hid (show t.length ≤ 100000 by omega)
  clear hxi hn hc ht hdec hsd hds hr hr' ht1 ht2
  go_enter Try.func5, Try.ntmps5
  go_wp2_with fail
  refine (encode_c A cap xs hxx _ HC.out).mono ?_
  rintro e w1 ⟨rfl, hb1⟩
  rw [← HT.out]
  go_wp2_with fail
  refine (decode_k t (xs.length : Int) xs 0 xs.length HDEC.out rfl (by omega) (by omega) HT2.out _).mono ?_
  rintro e w2 ⟨A2, cap2, rfl, hat2, hm2⟩
  have HAT2 := Lib.hid hat2
  have hb2 := hb1.trans (hm2.mono hb1.size)
  clear hat2 hm2 hb1
  go_wp2_with fail
  refine (same5_c A2 A cap2 cap xs xs (by unfold maxLen; omega) (by unfold maxLen; omega) _ HAT2.out (HC.out.keep hb2)).mono ?_
  rintro e w3 ⟨rfl, hm3⟩
  rw [show decide (xs = xs) = true by simp]
  have hb3 := hb2.trans (hm3.mono hb2.size)
  clear hm3 hb2 HAT2
  go_wp2_with fail
  refine (deltas_c A cap xs hxx _ (HC.out.keep hb3)).mono ?_
  rintro e w4 ⟨A4, cap4, rfl, -, -, hat4, hm4⟩
  have HAT4 := Lib.hid hat4
  have hb4 := hb3.trans (hm4.mono hb3.size)
  clear hat4 hm4 hb3
  go_wp2_with fail
  refine (sums_k (dl 0 xs) HDL.out hxx HAT4.out).mono ?_
  rintro e w5 ⟨A5, cap5, rfl, -, -, hat5, hm5⟩
  rw [HSD.out] at hat5
  have HAT5 := Lib.hid hat5
  have hb5 := hb4.trans (hm5.mono hb4.size)
  clear hat5 hm5 hb4 HAT4
  go_wp2_with fail
  refine (same5_c A5 A cap5 cap xs xs (by unfold maxLen; omega) (by unfold maxLen; omega) _ HAT5.out (HC.out.keep hb5)).mono ?_
  rintro e w6 ⟨rfl, hm6⟩
  rw [show decide (xs = xs) = true by simp]
  have hb6 := hb5.trans (hm6.mono hb5.size)
  clear hm6 hb5 HAT5
  go_wp2_with fail
  refine (sums_c A cap xs hxx _ (HC.out.keep hb6)).mono ?_
  rintro e w7 ⟨A7, cap7, rfl, -, -, hat7, hm7⟩
  have HAT7 := Lib.hid hat7
  have hb7 := hb6.trans (hm7.mono hb6.size)
  clear hat7 hm7 hb6
  go_wp2_with fail
  refine (deltas_k (sm 0 xs) HSL.out hxx HAT7.out).mono ?_
  rintro e w8 ⟨A8, cap8, rfl, -, -, hat8, hm8⟩
  rw [HDS.out] at hat8
  have HAT8 := Lib.hid hat8
  have hb8 := hb7.trans (hm8.mono hb7.size)
  clear hat8 hm8 hb7 HAT7
  go_wp2_with fail
  refine (same5_c A8 A cap8 cap xs xs (by unfold maxLen; omega) (by unfold maxLen; omega) _ HAT8.out (HC.out.keep hb8)).mono ?_
  rintro e w9 ⟨rfl, hm9⟩
  rw [show decide (xs = xs) = true by simp]
  have hb9 := hb8.trans (hm9.mono hb8.size)
  clear hm9 hb8 HAT8
  by_cases hne : n = (xs.length : Int)
  · have hnb : (n != (xs.length : Int)) = false := by simp [hne]
    clear hne
    go_wp2_with fail
    refine (decode_c l n HN.out.1 HN.out.2 (by omega) _).mono ?_
    rintro e wa ⟨Aa, capa, rfl, -, -, hata, hma⟩
    rw [← HR.out] at hata ⊢
    have HATA := Lib.hid hata
    have hba := hb9.trans (hma.mono hb9.size)
    clear hata hma hb9
    by_cases hz : r.2 = 0
    · have hzb : (r.2 != 0) = false := by simp [hz]
      obtain ⟨he1, he2⟩ := enc_dec (s := l) (n := n) (by rw [← HR.out]; exact hz)
      rw [← HR.out] at he1 he2
      have hk : r.1.length ≤ 100000 := by rw [HR.out]; exact Nat.le_trans (decV_short l n) (by omega)
      have hkn : ((r.1.length : Int) == n) = true := by simp [he2]
      have HE1 := Lib.hid he1
      clear hz he1 he2
      go_wp2_with fail
      refine (encode_c Aa capa r.1 hk _ HATA.out).mono ?_
      rintro e wb ⟨rfl, hmb⟩
      rw [HE1.out]
      have hbb := hba.trans (hmb.mono hba.size)
      clear hmb hba HATA
      go_wp2_with fail
      refine (live5_c _).mono ?_
      rintro e wl ⟨rfl, hml⟩
      go_wp2
      go_ret
      exact ⟨rfl, hbb.trans (hml.mono hbb.size)⟩
    · have hzb : (r.2 != 0) = true := by simpa using hz
      have hnil : r.1 = [] := by rw [HR.out]; exact decV_err (by rw [← HR.out]; exact hz)
      have hln : ((r.1.length : Int) == 0) = true := by rw [hnil]; rfl
      clear hz hnil
      go_wp2_with fail
      refine (live5_c _).mono ?_
      rintro e wl ⟨rfl, hml⟩
      go_wp2
      go_ret
      exact ⟨rfl, hba.trans (hml.mono hba.size)⟩

  · have hnb : (n != (xs.length : Int)) = true := by simpa using hne
    have hfz : r'.2 ≠ 0 := by rw [HR'.out, HT.out]; exact dec_len hne
    have hfb : (r'.2 == 0) = false := by simpa using hfz
    clear hne hfz
    go_wp2_with fail
    refine (decode_c t n HN.out.1 HN.out.2 HT2.out _).mono ?_
    rintro e w10 ⟨A10, cap10, rfl, -, -, hat10, hm10⟩
    rw [← HR'.out]
    have hb10 := hb9.trans (hm10.mono hb9.size)
    clear hat10 hm10 hb9
    go_wp2_with fail
    refine (decode_c l n HN.out.1 HN.out.2 (by omega) _).mono ?_
    rintro e wa ⟨Aa, capa, rfl, -, -, hata, hma⟩
    rw [← HR.out] at hata ⊢
    have HATA := Lib.hid hata
    have hba := hb10.trans (hma.mono hb10.size)
    clear hata hma hb10
    by_cases hz : r.2 = 0
    · have hzb : (r.2 != 0) = false := by simp [hz]
      obtain ⟨he1, he2⟩ := enc_dec (s := l) (n := n) (by rw [← HR.out]; exact hz)
      rw [← HR.out] at he1 he2
      have hk : r.1.length ≤ 100000 := by rw [HR.out]; exact Nat.le_trans (decV_short l n) (by omega)
      have hkn : ((r.1.length : Int) == n) = true := by simp [he2]
      have HE1 := Lib.hid he1
      clear hz he1 he2
      go_wp2_with fail
      refine (encode_c Aa capa r.1 hk _ HATA.out).mono ?_
      rintro e wb ⟨rfl, hmb⟩
      rw [HE1.out]
      have hbb := hba.trans (hmb.mono hba.size)
      clear hmb hba HATA
      go_wp2_with fail
      refine (live5_c _).mono ?_
      rintro e wl ⟨rfl, hml⟩
      go_wp2
      go_ret
      exact ⟨rfl, hbb.trans (hml.mono hbb.size)⟩
    · have hzb : (r.2 != 0) = true := by simpa using hz
      have hnil : r.1 = [] := by rw [HR.out]; exact decV_err (by rw [← HR.out]; exact hz)
      have hln : ((r.1.length : Int) == 0) = true := by rw [hnil]; rfl
      clear hz hnil
      go_wp2_with fail
      refine (live5_c _).mono ?_
      rintro e wl ⟨rfl, hml⟩
      go_wp2
      go_ret
      exact ⟨rfl, hba.trans (hml.mono hba.size)⟩

theorem walk (A : Option Addr) (cap : Nat) (xs : List Int) (l : List UInt8) (n : Int) (hz2 : xs.length ≤ maxLen) (hw : ∀ x ∈ xs, (Lit.int .i64 x).wf = true) (hz : l.length ≤ maxLen) (hn : (Lit.int .i64 n).wf = true) (w : World) (hc : At w w.heap.size A (ivs xs)) :
    Calls Try.prog 5 #[.slice A xs.length cap, .string (ba l), .int .i64 n] w fun e w' => e = .returned (.bool true) ∧ Below w.heap.size w w' := by
  rcases Nat.lt_or_ge 200 xs.length with h | h
  · exact walk_out A cap _ l n hz2 hz (.inl h) w
  · rcases Nat.lt_or_ge 500 l.length with h2 | h2
    · exact walk_out A cap _ l n hz2 hz (.inr ⟨h, h2⟩) w
    · exact walk_in A cap xs l n h h2 (ints_of hw) (in64_of hn) w hc
end deltaBack
end Go.Proofs.Ytacnbgfddidfiaa
