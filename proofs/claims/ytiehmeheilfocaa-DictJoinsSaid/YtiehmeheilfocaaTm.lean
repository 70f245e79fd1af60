/-
  The walks of DictTells and DictReads.
-/
import Derived.Test.YtiehmeheilfocaaTl
import Derived.Test.YtiehmeheilfocaaVb
namespace Go.Proofs.Ytiehmeheilfocaa
open Go.RowKit Go.IntWalk
open Pk Dc Wd
set_option maxRecDepth 100000
attribute [local go_sem] Oper.semAt_some

theorem decD_short (l : List UInt8) (n most : Int) : (decD l n most).1.length ≤ 4096 := by
  by_cases h0 : (decD l n most).2 = 0
  · obtain ⟨_, h2, h3, _⟩ := decD_dec h0
    omega
  · rw [decD_err h0]; simp
theorem uvs_map (us : List Nat) : (us.map fun (u : Nat) => (u : Int)).map (Value.int .u64) = uvs us := by simp [uvs]

namespace dictReads
set_option maxHeartbeats 4000000 in
theorem walk (l : List UInt8) (n most : Int) (hz : l.length ≤ maxLen) (hw : (Lit.int .i64 n).wf = true) (hwm : (Lit.int .i64 most).wf = true) (w : World) :
    Calls Try.prog 9 #[.string (ba l), .int .i64 n, .int .i64 most] w fun e w' => e = .returned (.bool true) ∧ Below w.heap.size w w' := by
  have hs := ba_size l
  have HN := Lib.hid (in64_of hw)
  have HM := Lib.hid (in64_of hwm)
  unfold maxLen at hz
  clear hw hwm
  by_cases h : 500 < l.length
  · go_enter Try.func9, Try.ntmps9
    go_wp2_with fail
    refine (live8_c _).mono ?_
    rintro e w1 ⟨rfl, hb1⟩
    go_wp2
    go_ret
    exact ⟨rfl, hb1⟩
  · have hx : l.length ≤ 100000 := by omega
    obtain ⟨r, hr⟩ : ∃ r, r = decD l n most := ⟨_, rfl⟩
    have hrl : r.1.length ≤ 100000 := by rw [hr]; exact Nat.le_trans (decD_short l n most) (by omega)
    have HR := Lib.hid hr
    clear hr
    go_enter Try.func9, Try.ntmps9
    go_wp2_with fail
    refine (ddecode_c l n most HN.out.1 HN.out.2 HM.out.2 hx _).mono ?_
    rintro e w1 ⟨A1, cap1, rfl, -, -, hat1, hb1⟩
    rw [← HR.out] at hat1 ⊢
    have HAT1 := Lib.hid hat1
    clear hat1
    go_wp2_with fail
    refine (drdecode_c l n most HN.out.1 HN.out.2 HM.out.2 hx _).mono ?_
    rintro e w2 ⟨A2, cap2, rfl, -, -, hat2, hm2⟩
    rw [← HR.out] at hat2 ⊢
    have HAT2 := Lib.hid hat2
    have HAT1 := Lib.hid (HAT1.out.keep hm2)
    have hb2 := hb1.trans (hm2.mono hb1.size)
    clear hat2 hm2 hb1
    go_wp2_with fail
    refine (same4_k r.1 r.1 rfl rfl hrl hrl HAT1.out HAT2.out).mono ?_
    rintro e w3 ⟨rfl, hm3⟩
    rw [show decide (r.1 = r.1) = true by simp]
    have hb3 := hb2.trans (hm3.mono hb2.size)
    have hrr : (r.2 == r.2) = true := by simp
    clear hm3 hb2 HAT1 HAT2
    go_wp2_with fail
    refine (live8_c _).mono ?_
    rintro e w11 ⟨rfl, hm11⟩
    go_wp2
    go_ret
    exact ⟨rfl, hb3.trans (hm11.mono hb3.size)⟩
end dictReads

namespace dictTells
set_option maxHeartbeats 8000000 in
theorem walk (A : Option Addr) (cap : Nat) (l : List Tx) (A1 : Option Addr) (cap1 : Nat) (ws_ : List Tx) (A2 : Option Addr) (cap2 : Nat) (xs : List Int) (hz : l.length ≤ maxLen) (hlt : ∀ t ∈ l, t.length ≤ maxLen) (hz1 : ws_.length ≤ maxLen) (hwt : ∀ t ∈ ws_, t.length ≤ maxLen) (hz2 : xs.length ≤ maxLen) (hw2 : ∀ x ∈ xs, (Lit.int .u64 x).wf = true) (w : World) (hc : At w w.heap.size A (svs l)) (hc1 : At w w.heap.size A1 (svs ws_)) (hc2 : At w w.heap.size A2 (xs.map (Value.int .u64))) :
    Calls Try.prog 8 #[.slice A l.length cap, .slice A1 ws_.length cap1, .slice A2 xs.length cap2] w fun e w' => e = .returned (.bool true) ∧ Below w.heap.size w w' := by
  obtain ⟨us, rfl, hus⟩ := nats_of hw2
  rw [uvs_map] at hc2
  rw [List.length_map] at hz2 ⊢
  have hnot : ∀ (x : Bool) (w : World), (Op.unary .not (.bool x)).run Try.prog w = .ok (.bool (!x)) w := fun _ _ => rfl
  have HC := Lib.hid hc
  have HC1 := Lib.hid hc1
  have HC2 := Lib.hid hc2
  have HF1 := Lib.hid (few_c A cap l 60 60 60 60 rfl rfl (by decide) (by decide) hz hlt w hc)
  have HF2 := Lib.hid (few_c A1 cap1 ws_ 60 60 60 60 rfl rfl (by decide) (by decide) hz1 hwt w hc1)
  unfold maxLen at hz2
  clear hc hc1 hc2 hw2 hus hlt hwt
  cases hf1 : fewV l 60 60
  · rw [hf1] at HF1
    clear hf1 HF2
    go_enter Try.func8, Try.ntmps8
    go_wp2_with fail
    refine HF1.out.mono ?_
    rintro e w ⟨rfl, rfl⟩
    go_wp2_with fail
    refine (live8_c _).mono ?_
    rintro e w1 ⟨rfl, hb1⟩
    go_wp2
    go_ret
    exact ⟨rfl, hb1⟩
  · cases hf2 : fewV ws_ 60 60
    · rw [hf1] at HF1
      rw [hf2] at HF2
      clear hf1 hf2
      go_enter Try.func8, Try.ntmps8
      go_wp2_with fail
      refine HF1.out.mono ?_
      rintro e w ⟨rfl, rfl⟩
      go_wp2_with fail
      refine HF2.out.mono ?_
      rintro e w ⟨rfl, rfl⟩
      go_wp2_with fail
      refine (live8_c _).mono ?_
      rintro e w1 ⟨rfl, hb1⟩
      go_wp2
      go_ret
      exact ⟨rfl, hb1⟩
    · obtain ⟨l60, lt60⟩ := few_true hf1
      obtain ⟨v60, vt60⟩ := few_true hf2
      rw [hf1] at HF1
      rw [hf2] at HF2
      clear hf1 hf2 hz hz1
      by_cases h3 : 60 < us.length
      · go_enter Try.func8, Try.ntmps8
        go_wp2_with fail
        refine HF1.out.mono ?_
        rintro e w ⟨rfl, rfl⟩
        go_wp2_with fail
        refine HF2.out.mono ?_
        rintro e w ⟨rfl, rfl⟩
        go_wp2_with fail
        refine (live8_c _).mono ?_
        rintro e w1 ⟨rfl, hb1⟩
        go_wp2
        go_ret
        exact ⟨rfl, hb1⟩
      · have hx : l.length ≤ 100000 := by omega
        have hx1 : ws_.length ≤ 100000 := by omega
        have hx2 : us.length ≤ 100000 := by omega
        have HT := Lib.hid (show ∀ t ∈ l, t.length ≤ 100000 from fun t ht => Nat.le_trans (lt60 t ht) (by omega))
        have HT1 := Lib.hid (show ∀ t ∈ ws_, t.length ≤ 100000 from fun t ht => Nat.le_trans (vt60 t ht) (by omega))
        obtain ⟨V, hV⟩ : ∃ V, V = ws [] l := ⟨_, rfl⟩
        have hVl : V.length ≤ 100000 := by rw [hV]; have := ws_len l []; simp at this; omega
        obtain ⟨P, hP⟩ : ∃ P, P = pl [] l := ⟨_, rfl⟩
        have hPl : P.length = l.length := by rw [hP]; exact pl_len l []
        obtain ⟨K, hK⟩ : ∃ K, K = pk ws_ [] us := ⟨_, rfl⟩
        have hKl : K.1.length ≤ 100000 := by rw [hK]; have := @pk_len ws_ [] us; simp at this; omega
        have HV := Lib.hid hV
        have HP := Lib.hid hP
        have HK := Lib.hid hK
        have HPL := Lib.hid hPl
        obtain ⟨M, hM⟩ : ∃ M, M = mayW ws_ us := ⟨_, rfl⟩
        have HM := Lib.hid hM
        clear lt60 vt60 hV hP hK hM hPl
        go_enter Try.func8, Try.ntmps8
        go_wp2_with fail
        refine HF1.out.mono ?_
        rintro e w ⟨rfl, rfl⟩
        go_wp2_with fail
        refine HF2.out.mono ?_
        rintro e w ⟨rfl, rfl⟩
        go_wp2_with fail
        refine (words_c A cap l hx HT.out _ HC.out).mono ?_
        rintro e w1 ⟨B1, k1, B2, k2, rfl, -, -, -, -, hat1, hat2, hb1⟩
        rw [← HV.out] at hat1 ⊢
        rw [← HP.out] at hat2
        have H1 := Lib.hid hat1
        have H2 := Lib.hid hat2
        clear hat1 hat2
        go_wp2_with fail
        refine (rwords_c A cap l hx _ (HC.out.keep hb1)).mono ?_
        rintro e w2 ⟨B3, k3, B4, k4, rfl, -, -, -, -, hat3, hat4, hm2⟩
        rw [← HV.out] at hat3 ⊢
        rw [← HP.out] at hat4
        have H3 := Lib.hid hat3
        have H4 := Lib.hid hat4
        have H1 := Lib.hid (H1.out.keep hm2)
        have H2 := Lib.hid (H2.out.keep hm2)
        have hb2 := hb1.trans (hm2.mono hb1.size)
        clear hat3 hat4 hm2 hb1
        go_wp2_with fail
        refine (pick_c A1 A2 cap1 cap2 ws_ us hx1 hx2 _ (HC1.out.keep hb2) (HC2.out.keep hb2)).mono ?_
        rintro e w3 ⟨B5, k5, rfl, -, -, hat5, hm3⟩
        rw [← HK.out] at hat5 ⊢
        have H5 := Lib.hid hat5
        have H1 := Lib.hid (H1.out.keep hm3)
        have H2 := Lib.hid (H2.out.keep hm3)
        have H3 := Lib.hid (H3.out.keep hm3)
        have H4 := Lib.hid (H4.out.keep hm3)
        have hb3 := hb2.trans (hm3.mono hb2.size)
        clear hat5 hm3 hb2
        go_wp2_with fail
        refine (rpick_c A1 A2 cap1 cap2 ws_ us hx1 hx2 _ (HC1.out.keep hb3) (HC2.out.keep hb3)).mono ?_
        rintro e w4 ⟨B6, k6, rfl, -, -, hat6, hm4⟩
        rw [← HK.out] at hat6 ⊢
        have H6 := Lib.hid hat6
        have H1 := Lib.hid (H1.out.keep hm4)
        have H2 := Lib.hid (H2.out.keep hm4)
        have H3 := Lib.hid (H3.out.keep hm4)
        have H4 := Lib.hid (H4.out.keep hm4)
        have H5 := Lib.hid (H5.out.keep hm4)
        have hb4 := hb3.trans (hm4.mono hb3.size)
        clear hat6 hm4 hb3
        go_wp2_with fail
        refine (same4_k V V rfl rfl hVl hVl H1.out H3.out).mono ?_
        rintro e w5 ⟨rfl, hm5⟩
        rw [show decide (V = V) = true by simp]
        have H2 := Lib.hid (H2.out.keep hm5)
        have H4 := Lib.hid (H4.out.keep hm5)
        have H5 := Lib.hid (H5.out.keep hm5)
        have H6 := Lib.hid (H6.out.keep hm5)
        have hb5 := hb4.trans (hm5.mono hb4.size)
        clear hm5 hb4 H1 H3
        go_wp2_with fail
        refine (same6_k P P HPL.out HPL.out hx hx H2.out H4.out).mono ?_
        rintro e w6 ⟨rfl, hm6⟩
        rw [show decide (P = P) = true by simp]
        have H5 := Lib.hid (H5.out.keep hm6)
        have H6 := Lib.hid (H6.out.keep hm6)
        have hb6 := hb5.trans (hm6.mono hb5.size)
        clear hm6 hb5 H2 H4
        go_wp2_with fail
        refine (dencode_c A cap l hx HT.out _ (HC.out.keep hb6)).mono ?_
        rintro e w7 ⟨rfl, hm7⟩
        have H5 := Lib.hid (H5.out.keep hm7)
        have H6 := Lib.hid (H6.out.keep hm7)
        have hb7 := hb6.trans (hm7.mono hb6.size)
        clear hm7 hb6
        go_wp2_with fail
        refine (drencode_c A cap l hx HT.out _ (HC.out.keep hb7)).mono ?_
        rintro e w8 ⟨rfl, hm8⟩
        have H5 := Lib.hid (H5.out.keep hm8)
        have H6 := Lib.hid (H6.out.keep hm8)
        have hb8 := hb7.trans (hm8.mono hb7.size)
        clear hm8 hb7
        go_wp2_with fail
        refine (same4_k K.1 K.1 rfl rfl hKl hKl H5.out H6.out).mono ?_
        rintro e w9 ⟨rfl, hm9⟩
        rw [show decide (K.1 = K.1) = true by simp]
        have hb9 := hb8.trans (hm9.mono hb8.size)
        have hss : (K.2 == K.2) = true := by simp
        clear hm9 hb8 H5 H6
        go_wp2_with fail
        refine (mayD_c A1 A2 cap1 cap2 ws_ us hx1 hx2 HT1.out _ (HC1.out.keep hb9) (HC2.out.keep hb9)).mono ?_
        rintro e w10 ⟨rfl, hm10⟩
        rw [← HM.out]
        have hb10 := hb9.trans (hm10.mono hb9.size)
        clear hm10 hb9
        go_wp2_with fail
        refine (rmayD_c A1 A2 cap1 cap2 ws_ us hx1 hx2 _ (HC1.out.keep hb10) (HC2.out.keep hb10)).mono ?_
        rintro e w11 ⟨rfl, hm11⟩
        rw [← HM.out]
        have hb11 := hb10.trans (hm11.mono hb10.size)
        have hmm : (M == M) = true := by simp
        clear hm11 hb10
        go_wp2_with fail
        refine (live8_c _).mono ?_
        rintro e w12 ⟨rfl, hm12⟩
        go_wp2
        go_ret
        exact ⟨rfl, hb11.trans (hm12.mono hb11.size)⟩
end dictTells
end Go.Proofs.Ytiehmeheilfocaa
