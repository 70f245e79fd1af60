/-
  Decode of texts, the program's and the document's.
-/
import Derived.Test.YtiehmeheilfocaaTh
namespace Go.Proofs.Ytiehmeheilfocaa
open Go.RowKit Go.IntWalk
open Pk Dc Wd
set_option maxRecDepth 100000
attribute [local go_sem] Oper.semAt_some

theorem decU_short (l : List UInt8) (n : Int) : (decU l n).1.length ≤ 4096 := by
  by_cases h0 : (decU l n).2 = 0
  · obtain ⟨_, h2⟩ := decU_dec h0
    rcases Int.lt_or_le n 0 with hn | hn
    · rw [decU_neg hn]; simp
    · rcases Int.lt_or_le 4096 n with hb | hb
      · rw [decU_big hb]; simp
      · omega
  · rw [decU_err h0]; simp
theorem decT_e1 {l : List UInt8} {n : Nat} {r : List Tx × Int × Int} (h : r.2.2 ≠ 0) : decT l n r = ([], r.2.2) := by rw [decT, if_pos h]
theorem decT_e2 {l : List UInt8} {n u : Nat} {W : List Tx} (h : (decU (l.drop u) n).2 ≠ 0) : decT l n (W, (u : Int), 0) = ([], (decU (l.drop u) n).2) := by
  rw [decT, if_neg (by simp)]; dsimp only; rw [Int.toNat_natCast, if_pos h]
theorem decT_ok {l : List UInt8} {n u : Nat} {W : List Tx} (h : (decU (l.drop u) n).2 = 0) (hm : mayW W (decU (l.drop u) n).1 = true) : decT l n (W, (u : Int), 0) = ((pk W [] (decU (l.drop u) n).1).1, 0) := by
  rw [decT, if_neg (by simp)]; dsimp only; rw [Int.toNat_natCast, if_neg (by rw [h]; simp), if_pos hm]
theorem decT_no {l : List UInt8} {n u : Nat} {W : List Tx} (h : (decU (l.drop u) n).2 = 0) (hm : mayW W (decU (l.drop u) n).1 = false) : decT l n (W, (u : Int), 0) = ([], 5) := by
  rw [decT, if_neg (by simp)]; dsimp only; rw [Int.toNat_natCast, if_neg (by rw [h]; simp), if_neg (by rw [hm]; simp)]

set_option maxHeartbeats 8000000 in
theorem ddecode_c (l : List UInt8) (n most : Int) (hn1 : -9223372036854775808 ≤ n) (hn2 : n ≤ 9223372036854775807) (hm : most ≤ 9223372036854775807) (hl : l.length ≤ 100000) (w : World) :
    Calls Try.prog 38 #[.string (ba l), .int .i64 n, .int .i64 most] w (SEnd (decD l n most).1 (.int .i64 (decD l n most).2) w) := by
  have hs := ba_size l
  have hnot : ∀ (x : Bool) (w : World), (Op.unary .not (.bool x)).run Try.prog w = .ok (.bool (!x)) w := fun _ _ => rfl
  rcases Int.lt_or_le n 0 with hneg | hpos
  · rw [decD_neg hneg]
    go_enter Try.func38, Try.ntmps38
    go_wp2_with fail
    go_ret2
    exact sEnd_nil (Below.refl _ _)
  rcases Int.lt_or_le 4096 n with hfar | hin
  · rw [decD_big hfar]
    go_enter Try.func38, Try.ntmps38
    go_wp2_with fail
    go_ret2
    exact sEnd_nil (Below.refl _ _)
  obtain ⟨N, rfl⟩ := Int.eq_ofNat_of_zero_le hpos
  have hN : N ≤ 4096 := by omega
  obtain ⟨res, hres⟩ : ∃ res, res = decD l (N : Int) most := ⟨_, rfl⟩
  have hr0 := hres
  rw [decD_in hN] at hr0
  rw [← hres]
  have t1 : decide ((N : Int) < 0) = false := by simp
  have t2 : decide ((4096 : Int) < (N : Int)) = false := by simp; omega
  obtain ⟨r, hr⟩ : ∃ r, r = tkW l N most := ⟨_, rfl⟩
  rw [← hr] at hr0
  have HR := Lib.hid hr
  have HRES := Lib.hid hr0
  clear hres hr0 hpos hin hn1 hn2 hr
  go_enter Try.func38, Try.ntmps38
  go_wp2_with fail
  refine (dtake_c l N most hN hm hl _).mono ?_
  rintro e w1 ⟨A1, k1, rfl, hat1, hb1⟩
  rw [← HR.out] at hat1 ⊢
  have HAT1 := Lib.hid hat1
  clear hat1
  by_cases he : r.2.2 = 0
  · obtain ⟨W, to, e0⟩ := r
    dsimp only at he
    subst he
    obtain ⟨q1, q2, u, rfl, hu⟩ := tkW_ok HR.out.symm
    have HT := Lib.hid (show ∀ t ∈ W, t.length ≤ 100000 from fun t ht => Nat.le_trans (q2 t ht) hl)
    have hWl : W.length ≤ 100000 := by omega
    have hext := extract_drop l u
    have hdl : (l.drop u).length ≤ 100000 := by rw [List.length_drop]; omega
    obtain ⟨S, hS⟩ : ∃ S, S = l.drop u := ⟨_, rfl⟩
    rw [← hS] at hext hdl
    have HS := Lib.hid hS
    obtain ⟨d, hd⟩ : ∃ d, d = decU S (N : Int) := ⟨_, rfl⟩
    have hdsh : d.1.length ≤ 4096 := by rw [hd]; exact decU_short _ _
    have HD := Lib.hid hd
    clear q1 q2 hS hd
    go_wp2_with fail
    refine (udecode_c S (N : Int) (by omega) (by omega) hdl _).mono ?_
    rintro e w2 ⟨A2, k2, rfl, -, -, hat2, hm2⟩
    rw [← HD.out] at hat2 ⊢
    have HAT2 := Lib.hid hat2
    have HAT1 := Lib.hid (HAT1.out.keep hm2)
    have hb2 := hb1.trans (hm2.mono hb1.size)
    clear hat2 hm2 hb1
    by_cases he2 : d.2 = 0
    · have hee : (d.2 != 0) = false := by rw [he2]; rfl
      have HE2 := Lib.hid he2
      clear he2
      go_wp2_with fail
      refine (mayD_c A1 A2 k1 k2 W d.1 hWl (by omega) HT.out _ HAT1.out HAT2.out).mono ?_
      rintro e w3 ⟨rfl, hm3⟩
      have HAT1 := Lib.hid (HAT1.out.keep hm3)
      have HAT2 := Lib.hid (HAT2.out.keep hm3)
      have hb3 := hb2.trans (hm3.mono hb2.size)
      clear hm3 hb2
      cases hmay : mayW W d.1
      · have hres2 : res = ([], 5) := by
          rw [HRES.out]
          refine decT_no ?_ ?_
          · rw [← HS.out, ← HD.out]; exact HE2.out
          · rw [← HS.out, ← HD.out]; exact hmay
        have HRES2 := Lib.hid hres2
        clear hres2 hmay
        go_wp2_with fail
        go_ret2
        rw [HRES2.out]
        exact sEnd_nil hb3
      · have hres2 : res = ((pk W [] d.1).1, 0) := by
          rw [HRES.out]
          have := decT_ok (W := W) (show (decU (l.drop u) N).2 = 0 by rw [← HS.out, ← HD.out]; exact HE2.out) (by rw [← HS.out, ← HD.out]; exact hmay)
          rw [this, ← HS.out, ← HD.out]
        have HRES2 := Lib.hid hres2
        clear hres2 hmay
        go_wp2_with fail
        refine (pick_c A1 A2 k1 k2 W d.1 hWl (by omega) _ HAT1.out HAT2.out).mono ?_
        rintro e w4 ⟨A4, k4, rfl, hcp4, hfr4, hat4, hm4⟩
        obtain ⟨P, hP⟩ : ∃ P, P = pk W [] d.1 := ⟨_, rfl⟩
        rw [← hP] at hcp4 hat4 HRES2 ⊢
        have hb4 := hb3.trans (hm4.mono hb3.size)
        have HF4 := Lib.hid hfr4
        have HB3 := Lib.hid hb3.size
        have HAT4 := Lib.hid hat4
        clear hm4 hb3 hfr4 hat4 hP
        go_wp2_with fail
        go_ret2
        rw [HRES2.out]
        exact ⟨_, _, rfl, hcp4, fun a h => Nat.le_trans HB3.out (HF4.out a h), HAT4.out, hb4⟩
    · have hee : (d.2 != 0) = true := by simpa using he2
      have hres2 : res = ([], d.2) := by
        rw [HRES.out]
        have := decT_e2 (W := W) (show (decU (l.drop u) N).2 ≠ 0 by rw [← HS.out, ← HD.out]; exact he2)
        rw [this, ← HS.out, ← HD.out]
      have HRES2 := Lib.hid hres2
      clear hres2 he2
      go_wp2_with fail
      go_ret2
      rw [HRES2.out]
      exact sEnd_nil hb2
  · have hee : (r.2.2 != 0) = true := by simpa using he
    have hres2 : res = ([], r.2.2) := by rw [HRES.out, decT_e1 he]
    have HRES2 := Lib.hid hres2
    clear hres2 he
    go_wp2_with fail
    go_ret2
    rw [HRES2.out]
    exact sEnd_nil hb1
end Go.Proofs.Ytiehmeheilfocaa
