/-
  The walk of DictBack.
-/
import Derived.Test.YtiehmeheilfocaaTm
namespace Go.Proofs.Ytiehmeheilfocaa
open Go.RowKit Go.IntWalk
open Pk Dc Wd
set_option maxRecDepth 100000
attribute [local go_sem] Oper.semAt_some

/-- M is the greatest length of these texts -/
def Top (a : List Tx) (M : Nat) : Prop := (∀ t ∈ a, t.length ≤ M) ∧ (M = 0 ∨ ∃ t ∈ a, t.length = M)
theorem top_nil : Top [] 0 := ⟨by simp, .inl rfl⟩
theorem top_snoc {a : List Tx} {M : Nat} {x : Tx} (h : Top a M) : Top (a ++ [x]) (max M x.length) := by
  refine ⟨fun t ht => ?_, ?_⟩
  · rcases List.mem_append.1 ht with ht | ht
    · have := h.1 t ht; omega
    · simp at ht; subst ht; omega
  · by_cases hm : x.length ≤ M
    · rw [Nat.max_eq_left hm]
      rcases h.2 with h0 | ⟨t, ht, h1⟩
      · exact .inl h0
      · exact .inr ⟨t, by simp [ht], h1⟩
    · exact .inr ⟨x, by simp, by omega⟩
def allV (a : List Tx) : Bool := a.all fun t => valid t
theorem allV_snoc (a : List Tx) (x : Tx) : allV (a ++ [x]) = (allV a && valid x) := by simp [allV]
theorem allV_iff {a : List Tx} : allV a = true ↔ ∀ t ∈ a, valid t = true := by simp [allV]
theorem takeT_snoc {α : Type} {l : List α} {k : Nat} {x : α} (h : l[k]? = some x) : l.take (k + 1) = l.take k ++ [x] := by
  rw [List.take_add_one, h]; rfl
theorem encD_len {l : List Tx} (h1 : l.length ≤ 60) (h2 : ∀ t ∈ l, t.length ≤ 60) : (encD l).length ≤ 10000 := by
  have hw := ws_len l []
  simp at hw
  have a1 := put_len10 (n := (ws [] l).length) (by omega)
  have a2 := enc4_len (ws [] l) 60 (by omega) (ws_texts h2)
  have a3 := encU_len (pl_nums (l := l) (by omega)) (by rw [pl_len]; omega)
  rw [pl_len] at a3
  have a4 : (60 + 10) * (ws [] l).length ≤ 70 * 60 := Nat.mul_le_mul (by omega) (by omega)
  unfold encD
  rw [List.length_append, List.length_append]
  omega

namespace dictBack
set_option maxHeartbeats 16000000 in
theorem walk (A : Option Addr) (cap : Nat) (l : List Tx) (s : List UInt8) (n : Int) (hz : l.length ≤ maxLen) (hlt : ∀ t ∈ l, t.length ≤ maxLen) (hzs : s.length ≤ maxLen) (hwn : (Lit.int .i64 n).wf = true) (w : World) (hc : At w w.heap.size A (svs l)) :
    Calls Try.prog 10 #[.slice A l.length cap, .string (ba s), .int .i64 n] w fun e w' => e = .returned (.bool true) ∧ Below w.heap.size w w' := by
  have hss := ba_size s
  have hnot : ∀ (x : Bool) (w : World), (Op.unary .not (.bool x)).run Try.prog w = .ok (.bool (!x)) w := fun _ _ => rfl
  have HN := Lib.hid (in64_of hwn)
  have HC := Lib.hid hc
  have HF1 := Lib.hid (few_c A cap l 60 60 60 60 rfl rfl (by decide) (by decide) hz hlt w hc)
  unfold maxLen at hzs
  clear hwn hc hlt
  cases hf1 : fewV l 60 60
  · rw [hf1] at HF1
    clear hf1
    go_enter Try.func10, Try.ntmps10
    go_wp2_with fail
    refine HF1.out.mono ?_
    rintro e w ⟨rfl, rfl⟩
    go_wp2_with fail
    refine (live8_c _).mono ?_
    rintro e w1 ⟨rfl, hb1⟩
    go_wp2
    go_ret
    exact ⟨rfl, hb1⟩
  · obtain ⟨l60, lt60⟩ := few_true hf1
    rw [hf1] at HF1
    clear hf1 hz
    by_cases h3 : 500 < s.length
    · go_enter Try.func10, Try.ntmps10
      go_wp2_with fail
      refine HF1.out.mono ?_
      rintro e w ⟨rfl, rfl⟩
      go_wp2_with fail
      refine (live8_c _).mono ?_
      rintro e w1 ⟨rfl, hb1⟩
      go_wp2
      go_ret
      exact ⟨rfl, hb1⟩
    · have hx : l.length ≤ 100000 := by omega
      have hx2 : s.length ≤ 100000 := by omega
      have HT := Lib.hid (show ∀ t ∈ l, t.length ≤ 100000 from fun t ht => Nat.le_trans (lt60 t ht) (by omega))
      have HLT := Lib.hid lt60
      have HLS := Lib.hid (show ∀ t ∈ l, t.length < 18446744073709551616 from fun t ht => Nat.lt_of_le_of_lt (lt60 t ht) (by omega))
      have hel := encD_len l60 lt60
      obtain ⟨t, ht⟩ : ∃ t, t = encD l := ⟨_, rfl⟩
      rw [← ht] at hel
      have hel2 : t.length ≤ 100000 := by omega
      have HTT := Lib.hid ht
      obtain ⟨d, hd⟩ : ∃ d, d = decD s n 60 := ⟨_, rfl⟩
      have hdl : d.1.length ≤ 100000 := by rw [hd]; exact Nat.le_trans (decD_short s n 60) (by omega)
      have HDD := Lib.hid (show d.2 = 0 → encD d.1 = s ∧ (d.1.length : Int) = n ∧ ∀ t ∈ d.1, t.length ≤ 100000 by
        rw [hd]
        intro h
        obtain ⟨a, b, _, g⟩ := decD_dec h
        exact ⟨a, b, fun t ht => by have := (g t ht).2; omega⟩)
      have HDE := Lib.hid (show d.2 ≠ 0 → d.1 = [] by rw [hd]; exact decD_err)
      have HD := Lib.hid hd
      clear lt60 ht hd hel
      go_enter Try.func10, Try.ntmps10
      go_wp2_with fail
      refine HF1.out.mono ?_
      rintro e w ⟨rfl, rfl⟩
      go_wp2_with fail
      go_loopg [7, 8, 9] l.length (fun m lo g i wr => ∃ k M : Nat, i = .int .i64 (k : Int) ∧ l.length - k ≤ m ∧ k ≤ l.length ∧ lo = .int .i64 (M : Int) ∧ Top (l.take k) M ∧ g = .bool (allV (l.take k)) ∧ M ≤ 60 ∧ wr = w)
      case atStart => exact ⟨0, 0, rfl, Nat.le_refl _, Nat.zero_le _, rfl, top_nil, rfl, by omega, rfl⟩
      case round =>
        obtain ⟨k, M, rfl, hmk, hk, rfl, htop, rfl, hM, rfl⟩ := hrel
        have HTOP := Lib.hid htop
        clear htop
        by_cases hlt : k < l.length
        · obtain ⟨x, hxk⟩ := some_at hlt
          obtain ⟨b, off, rfl, hbl, hcell⟩ := HC.out k _ (svs_at hxk)
          have hx60 := HLT.out x (mem_at hxk)
          have hxs := ba_size x
          have hmx : max (M : Int) (x.length : Int) = ((max M x.length : Nat) : Int) := by omega
          have HTS := Lib.hid (top_snoc (x := x) HTOP.out)
          have HVS := Lib.hid (allV_snoc (l.take k) x)
          rw [← takeT_snoc hxk] at HTS HVS
          obtain ⟨G, hG⟩ : ∃ G, G = allV (l.take k) := ⟨_, rfl⟩
          rw [← hG] at HVS ⊢
          have hxl : x.length ≤ 140737488351232 := by omega
          clear hxk hG
          cases G
          · go_wp2_with fail
            go_roundg (l.length - (k + 1))
            case measure => omega
            case rel => exact ⟨k + 1, max M x.length, by go_num, Nat.le_refl _, by omega, rfl, HTS.out, by rw [HVS.out]; rfl, by omega, by first | rfl | trivial⟩
          · go_wp2_with fail
            refine (rValid_c x hxl _).mono ?_
            rintro e wz ⟨rfl, rfl⟩
            go_wp2_with fail
            go_roundg (l.length - (k + 1))
            case measure => omega
            case rel => exact ⟨k + 1, max M x.length, by go_num, Nat.le_refl _, by omega, rfl, HTS.out, by rw [HVS.out]; rfl, by omega, by first | rfl | trivial⟩
        · obtain rfl : k = l.length := by omega
          rw [List.take_length]
          have htop := HTOP.out
          rw [List.take_length] at htop
          obtain ⟨G, hG⟩ : ∃ G, G = allV l := ⟨_, rfl⟩
          rw [← hG]
          have HTP := Lib.hid htop
          have HGG := Lib.hid (show G = true → ∀ t ∈ l, Good (M : Int) t from fun h t ht => ⟨allV_iff.1 (by rw [← hG]; exact h) t ht, by have := htop.1 t ht; omega⟩)
          have HGB := Lib.hid (show G = false → ¬ ∀ t ∈ l, Good (M : Int) t from fun h hg => by
            have : allV l = true := allV_iff.2 fun t ht => (hg t ht).1
            rw [← hG, h] at this; cases this)
          have HD1 := Lib.hid (show G = true → decD t (l.length : Int) (M : Int) = (l, 0) from fun h => by rw [HTT.out]; exact decD_enc (by omega) HLS.out (HGG.out h))
          have HD2 := Lib.hid (show G = false → decD t (l.length : Int) (M : Int) = ([], 4) from fun h => by
            rw [HTT.out]
            rcases decD_bad (by omega) HLS.out (HGB.out h) with ⟨_, x, hx, hlx⟩ | ⟨h4, _⟩
            · have := HTP.out.1 x hx; omega
            · exact Prod.ext (decD_err (by rw [h4]; decide)) h4)
          have HD3 := Lib.hid (show 0 < M → (decD t (l.length : Int) ((M : Int) - 1)).2 = 10 ∨ (decD t (l.length : Int) ((M : Int) - 1)).2 = 4 from fun h => by
            rw [HTT.out]
            refine (decD_bad (by omega) HLS.out ?_).imp (fun h => h.1) (fun h => h.1)
            intro hg
            rcases HTP.out.2 with h0 | ⟨x, hx, hlx⟩
            · omega
            · have := (hg x hx).2; omega)
          have HD4 := Lib.hid (show n ≠ (l.length : Int) → (decD t n (M : Int)).2 ≠ 0 from fun h => by rw [HTT.out]; exact decD_len (by omega) HLS.out (by omega) h)
          clear htop hG hmk hk hlt
          go_wp2_with fail
          refine (dencode_k l t HTT.out.symm rfl hx HT.out HC.out).mono ?_
          rintro e w1 ⟨rfl, hb1⟩
          go_wp2_with fail
          cases G
          · refine (ddecode_k t (l.length : Int) (M : Int) [] 4 0 (HD2.out rfl) rfl (by omega) (by omega) (by omega) hel2 _).mono ?_
            rintro e w2 ⟨A2, c2, rfl, -, hm2⟩
            have hb2 := hb1.trans (hm2.mono hb1.size)
            clear hm2 hb1
            by_cases hM0 : 0 < M
            · have hM1 : (0 : Int) < (M : Int) := by omega
              obtain ⟨f, hf⟩ : ∃ f, f = decD t (l.length : Int) ((M : Int) - 1) := ⟨_, rfl⟩
              have h104 := HD3.out hM0
              rw [← hf] at h104
              have HF5 := Lib.hid hf
              clear hf hM0
              rcases h104 with h10 | h10
              · have g1 : (f.2 != 10) = false := by rw [h10]; rfl
                clear h10
                go_wp2_with fail
                refine (ddecode_c t (l.length : Int) ((M : Int) - 1) (by omega) (by omega) (by omega) hel2 _).mono ?_
                rintro e wg ⟨Ag, cg, rfl, -, -, -, hmg⟩
                rw [← HF5.out]
                have hb61 := hb2.trans (hmg.mono hb2.size)
                clear hmg
                by_cases hn : n = (l.length : Int)
                · have hnb : (n != (l.length : Int)) = false := by simp [hn]
                  clear hn
                  by_cases hd0 : d.2 = 0
                  · have hdb : (d.2 != 0) = false := by rw [hd0]; rfl
                    obtain ⟨hd1, hd2, hd3⟩ := HDD.out hd0
                    have hd2b : ((d.1.length : Int) == n) = true := by simpa using hd2
                    have HX1 := Lib.hid hd1
                    have HX3 := Lib.hid hd3
                    clear hd0 hd1 hd2 hd3
                    go_wp2_with fail
                    refine (ddecode_c s n 60 HN.out.1 HN.out.2 (by omega) hx2 _).mono ?_
                    rintro e w8 ⟨A8, c8, rfl, -, -, hat8, hm8⟩
                    rw [← HD.out] at hat8 ⊢
                    have HAT8 := Lib.hid hat8
                    have hb8 := hb61.trans (hm8.mono hb61.size)
                    clear hat8 hm8
                    go_wp2_with fail
                    refine (dencode_k d.1 s HX1.out rfl hdl HX3.out HAT8.out).mono ?_
                    rintro e w9 ⟨rfl, hm9⟩
                    have hb9 := hb8.trans (hm9.mono hb8.size)
                    clear hm9 hb8 HAT8
                    go_wp2_with fail
                    refine (live8_c _).mono ?_
                    rintro e w10 ⟨rfl, hm10⟩
                    go_wp2
                    go_ret
                    exact ⟨rfl, hb9.trans (hm10.mono hb9.size)⟩
                  · have hdb : (d.2 != 0) = true := by simpa using hd0
                    have hlen0 : d.1.length = 0 := by rw [HDE.out hd0]; rfl
                    clear hd0
                    go_wp2_with fail
                    refine (ddecode_c s n 60 HN.out.1 HN.out.2 (by omega) hx2 _).mono ?_
                    rintro e w8 ⟨A8, c8, rfl, -, -, hat8, hm8⟩
                    rw [← HD.out] at hat8 ⊢
                    have hb8 := hb61.trans (hm8.mono hb61.size)
                    clear hat8 hm8
                    go_wp2_with fail
                    refine (live8_c _).mono ?_
                    rintro e w10 ⟨rfl, hm10⟩
                    go_wp2
                    go_ret
                    exact ⟨rfl, hb8.trans (hm10.mono hb8.size)⟩
                · have hnb : (n != (l.length : Int)) = true := by simpa using hn
                  obtain ⟨f, hf⟩ : ∃ f, f = decD t n (M : Int) := ⟨_, rfl⟩
                  have hf0 : (f.2 == 0) = false := by have := HD4.out hn; rw [← hf] at this; simpa using this
                  have HF := Lib.hid hf
                  clear hn hf
                  go_wp2_with fail
                  refine (ddecode_c t n (M : Int) HN.out.1 HN.out.2 (by omega) hel2 _).mono ?_
                  rintro e wf ⟨Af, cf, rfl, -, -, -, hmf⟩
                  rw [← HF.out]
                  have hb71 := hb61.trans (hmf.mono hb61.size)
                  clear hmf
                  by_cases hd0 : d.2 = 0
                  · have hdb : (d.2 != 0) = false := by rw [hd0]; rfl
                    obtain ⟨hd1, hd2, hd3⟩ := HDD.out hd0
                    have hd2b : ((d.1.length : Int) == n) = true := by simpa using hd2
                    have HX1 := Lib.hid hd1
                    have HX3 := Lib.hid hd3
                    clear hd0 hd1 hd2 hd3
                    go_wp2_with fail
                    refine (ddecode_c s n 60 HN.out.1 HN.out.2 (by omega) hx2 _).mono ?_
                    rintro e w8 ⟨A8, c8, rfl, -, -, hat8, hm8⟩
                    rw [← HD.out] at hat8 ⊢
                    have HAT8 := Lib.hid hat8
                    have hb8 := hb71.trans (hm8.mono hb71.size)
                    clear hat8 hm8
                    go_wp2_with fail
                    refine (dencode_k d.1 s HX1.out rfl hdl HX3.out HAT8.out).mono ?_
                    rintro e w9 ⟨rfl, hm9⟩
                    have hb9 := hb8.trans (hm9.mono hb8.size)
                    clear hm9 hb8 HAT8
                    go_wp2_with fail
                    refine (live8_c _).mono ?_
                    rintro e w10 ⟨rfl, hm10⟩
                    go_wp2
                    go_ret
                    exact ⟨rfl, hb9.trans (hm10.mono hb9.size)⟩
                  · have hdb : (d.2 != 0) = true := by simpa using hd0
                    have hlen0 : d.1.length = 0 := by rw [HDE.out hd0]; rfl
                    clear hd0
                    go_wp2_with fail
                    refine (ddecode_c s n 60 HN.out.1 HN.out.2 (by omega) hx2 _).mono ?_
                    rintro e w8 ⟨A8, c8, rfl, -, -, hat8, hm8⟩
                    rw [← HD.out] at hat8 ⊢
                    have hb8 := hb71.trans (hm8.mono hb71.size)
                    clear hat8 hm8
                    go_wp2_with fail
                    refine (live8_c _).mono ?_
                    rintro e w10 ⟨rfl, hm10⟩
                    go_wp2
                    go_ret
                    exact ⟨rfl, hb8.trans (hm10.mono hb8.size)⟩
              · have g1 : (f.2 != 10) = true := by rw [h10]; rfl
                have g2 : (f.2 != 4) = false := by rw [h10]; rfl
                clear h10
                go_wp2_with fail
                refine (ddecode_c t (l.length : Int) ((M : Int) - 1) (by omega) (by omega) (by omega) hel2 _).mono ?_
                rintro e wg ⟨Ag, cg, rfl, -, -, -, hmg⟩
                rw [← HF5.out]
                have hb61 := hb2.trans (hmg.mono hb2.size)
                clear hmg
                by_cases hn : n = (l.length : Int)
                · have hnb : (n != (l.length : Int)) = false := by simp [hn]
                  clear hn
                  by_cases hd0 : d.2 = 0
                  · have hdb : (d.2 != 0) = false := by rw [hd0]; rfl
                    obtain ⟨hd1, hd2, hd3⟩ := HDD.out hd0
                    have hd2b : ((d.1.length : Int) == n) = true := by simpa using hd2
                    have HX1 := Lib.hid hd1
                    have HX3 := Lib.hid hd3
                    clear hd0 hd1 hd2 hd3
                    go_wp2_with fail
                    refine (ddecode_c s n 60 HN.out.1 HN.out.2 (by omega) hx2 _).mono ?_
                    rintro e w8 ⟨A8, c8, rfl, -, -, hat8, hm8⟩
                    rw [← HD.out] at hat8 ⊢
                    have HAT8 := Lib.hid hat8
                    have hb8 := hb61.trans (hm8.mono hb61.size)
                    clear hat8 hm8
                    go_wp2_with fail
                    refine (dencode_k d.1 s HX1.out rfl hdl HX3.out HAT8.out).mono ?_
                    rintro e w9 ⟨rfl, hm9⟩
                    have hb9 := hb8.trans (hm9.mono hb8.size)
                    clear hm9 hb8 HAT8
                    go_wp2_with fail
                    refine (live8_c _).mono ?_
                    rintro e w10 ⟨rfl, hm10⟩
                    go_wp2
                    go_ret
                    exact ⟨rfl, hb9.trans (hm10.mono hb9.size)⟩
                  · have hdb : (d.2 != 0) = true := by simpa using hd0
                    have hlen0 : d.1.length = 0 := by rw [HDE.out hd0]; rfl
                    clear hd0
                    go_wp2_with fail
                    refine (ddecode_c s n 60 HN.out.1 HN.out.2 (by omega) hx2 _).mono ?_
                    rintro e w8 ⟨A8, c8, rfl, -, -, hat8, hm8⟩
                    rw [← HD.out] at hat8 ⊢
                    have hb8 := hb61.trans (hm8.mono hb61.size)
                    clear hat8 hm8
                    go_wp2_with fail
                    refine (live8_c _).mono ?_
                    rintro e w10 ⟨rfl, hm10⟩
                    go_wp2
                    go_ret
                    exact ⟨rfl, hb8.trans (hm10.mono hb8.size)⟩
                · have hnb : (n != (l.length : Int)) = true := by simpa using hn
                  obtain ⟨f, hf⟩ : ∃ f, f = decD t n (M : Int) := ⟨_, rfl⟩
                  have hf0 : (f.2 == 0) = false := by have := HD4.out hn; rw [← hf] at this; simpa using this
                  have HF := Lib.hid hf
                  clear hn hf
                  go_wp2_with fail
                  refine (ddecode_c t n (M : Int) HN.out.1 HN.out.2 (by omega) hel2 _).mono ?_
                  rintro e wf ⟨Af, cf, rfl, -, -, -, hmf⟩
                  rw [← HF.out]
                  have hb71 := hb61.trans (hmf.mono hb61.size)
                  clear hmf
                  by_cases hd0 : d.2 = 0
                  · have hdb : (d.2 != 0) = false := by rw [hd0]; rfl
                    obtain ⟨hd1, hd2, hd3⟩ := HDD.out hd0
                    have hd2b : ((d.1.length : Int) == n) = true := by simpa using hd2
                    have HX1 := Lib.hid hd1
                    have HX3 := Lib.hid hd3
                    clear hd0 hd1 hd2 hd3
                    go_wp2_with fail
                    refine (ddecode_c s n 60 HN.out.1 HN.out.2 (by omega) hx2 _).mono ?_
                    rintro e w8 ⟨A8, c8, rfl, -, -, hat8, hm8⟩
                    rw [← HD.out] at hat8 ⊢
                    have HAT8 := Lib.hid hat8
                    have hb8 := hb71.trans (hm8.mono hb71.size)
                    clear hat8 hm8
                    go_wp2_with fail
                    refine (dencode_k d.1 s HX1.out rfl hdl HX3.out HAT8.out).mono ?_
                    rintro e w9 ⟨rfl, hm9⟩
                    have hb9 := hb8.trans (hm9.mono hb8.size)
                    clear hm9 hb8 HAT8
                    go_wp2_with fail
                    refine (live8_c _).mono ?_
                    rintro e w10 ⟨rfl, hm10⟩
                    go_wp2
                    go_ret
                    exact ⟨rfl, hb9.trans (hm10.mono hb9.size)⟩
                  · have hdb : (d.2 != 0) = true := by simpa using hd0
                    have hlen0 : d.1.length = 0 := by rw [HDE.out hd0]; rfl
                    clear hd0
                    go_wp2_with fail
                    refine (ddecode_c s n 60 HN.out.1 HN.out.2 (by omega) hx2 _).mono ?_
                    rintro e w8 ⟨A8, c8, rfl, -, -, hat8, hm8⟩
                    rw [← HD.out] at hat8 ⊢
                    have hb8 := hb71.trans (hm8.mono hb71.size)
                    clear hat8 hm8
                    go_wp2_with fail
                    refine (live8_c _).mono ?_
                    rintro e w10 ⟨rfl, hm10⟩
                    go_wp2
                    go_ret
                    exact ⟨rfl, hb8.trans (hm10.mono hb8.size)⟩
            · have hM1 : ¬ (0 : Int) < (M : Int) := by omega
              clear hM0
              by_cases hn : n = (l.length : Int)
              · have hnb : (n != (l.length : Int)) = false := by simp [hn]
                clear hn
                by_cases hd0 : d.2 = 0
                · have hdb : (d.2 != 0) = false := by rw [hd0]; rfl
                  obtain ⟨hd1, hd2, hd3⟩ := HDD.out hd0
                  have hd2b : ((d.1.length : Int) == n) = true := by simpa using hd2
                  have HX1 := Lib.hid hd1
                  have HX3 := Lib.hid hd3
                  clear hd0 hd1 hd2 hd3
                  go_wp2_with fail
                  refine (ddecode_c s n 60 HN.out.1 HN.out.2 (by omega) hx2 _).mono ?_
                  rintro e w8 ⟨A8, c8, rfl, -, -, hat8, hm8⟩
                  rw [← HD.out] at hat8 ⊢
                  have HAT8 := Lib.hid hat8
                  have hb8 := hb2.trans (hm8.mono hb2.size)
                  clear hat8 hm8
                  go_wp2_with fail
                  refine (dencode_k d.1 s HX1.out rfl hdl HX3.out HAT8.out).mono ?_
                  rintro e w9 ⟨rfl, hm9⟩
                  have hb9 := hb8.trans (hm9.mono hb8.size)
                  clear hm9 hb8 HAT8
                  go_wp2_with fail
                  refine (live8_c _).mono ?_
                  rintro e w10 ⟨rfl, hm10⟩
                  go_wp2
                  go_ret
                  exact ⟨rfl, hb9.trans (hm10.mono hb9.size)⟩
                · have hdb : (d.2 != 0) = true := by simpa using hd0
                  have hlen0 : d.1.length = 0 := by rw [HDE.out hd0]; rfl
                  clear hd0
                  go_wp2_with fail
                  refine (ddecode_c s n 60 HN.out.1 HN.out.2 (by omega) hx2 _).mono ?_
                  rintro e w8 ⟨A8, c8, rfl, -, -, hat8, hm8⟩
                  rw [← HD.out] at hat8 ⊢
                  have hb8 := hb2.trans (hm8.mono hb2.size)
                  clear hat8 hm8
                  go_wp2_with fail
                  refine (live8_c _).mono ?_
                  rintro e w10 ⟨rfl, hm10⟩
                  go_wp2
                  go_ret
                  exact ⟨rfl, hb8.trans (hm10.mono hb8.size)⟩
              · have hnb : (n != (l.length : Int)) = true := by simpa using hn
                obtain ⟨f, hf⟩ : ∃ f, f = decD t n (M : Int) := ⟨_, rfl⟩
                have hf0 : (f.2 == 0) = false := by have := HD4.out hn; rw [← hf] at this; simpa using this
                have HF := Lib.hid hf
                clear hn hf
                go_wp2_with fail
                refine (ddecode_c t n (M : Int) HN.out.1 HN.out.2 (by omega) hel2 _).mono ?_
                rintro e wf ⟨Af, cf, rfl, -, -, -, hmf⟩
                rw [← HF.out]
                have hb71 := hb2.trans (hmf.mono hb2.size)
                clear hmf
                by_cases hd0 : d.2 = 0
                · have hdb : (d.2 != 0) = false := by rw [hd0]; rfl
                  obtain ⟨hd1, hd2, hd3⟩ := HDD.out hd0
                  have hd2b : ((d.1.length : Int) == n) = true := by simpa using hd2
                  have HX1 := Lib.hid hd1
                  have HX3 := Lib.hid hd3
                  clear hd0 hd1 hd2 hd3
                  go_wp2_with fail
                  refine (ddecode_c s n 60 HN.out.1 HN.out.2 (by omega) hx2 _).mono ?_
                  rintro e w8 ⟨A8, c8, rfl, -, -, hat8, hm8⟩
                  rw [← HD.out] at hat8 ⊢
                  have HAT8 := Lib.hid hat8
                  have hb8 := hb71.trans (hm8.mono hb71.size)
                  clear hat8 hm8
                  go_wp2_with fail
                  refine (dencode_k d.1 s HX1.out rfl hdl HX3.out HAT8.out).mono ?_
                  rintro e w9 ⟨rfl, hm9⟩
                  have hb9 := hb8.trans (hm9.mono hb8.size)
                  clear hm9 hb8 HAT8
                  go_wp2_with fail
                  refine (live8_c _).mono ?_
                  rintro e w10 ⟨rfl, hm10⟩
                  go_wp2
                  go_ret
                  exact ⟨rfl, hb9.trans (hm10.mono hb9.size)⟩
                · have hdb : (d.2 != 0) = true := by simpa using hd0
                  have hlen0 : d.1.length = 0 := by rw [HDE.out hd0]; rfl
                  clear hd0
                  go_wp2_with fail
                  refine (ddecode_c s n 60 HN.out.1 HN.out.2 (by omega) hx2 _).mono ?_
                  rintro e w8 ⟨A8, c8, rfl, -, -, hat8, hm8⟩
                  rw [← HD.out] at hat8 ⊢
                  have hb8 := hb71.trans (hm8.mono hb71.size)
                  clear hat8 hm8
                  go_wp2_with fail
                  refine (live8_c _).mono ?_
                  rintro e w10 ⟨rfl, hm10⟩
                  go_wp2
                  go_ret
                  exact ⟨rfl, hb8.trans (hm10.mono hb8.size)⟩
          · refine (ddecode_k t (l.length : Int) (M : Int) l 0 l.length (HD1.out rfl) rfl (by omega) (by omega) (by omega) hel2 _).mono ?_
            rintro e w2 ⟨A2, c2, rfl, hat2, hm2⟩
            have HAT2 := Lib.hid hat2
            have hb2 := hb1.trans (hm2.mono hb1.size)
            clear hat2 hm2 hb1
            go_wp2_with fail
            refine (same4_k l l rfl rfl hx hx HAT2.out (HC.out.keep hb2)).mono ?_
            rintro e w3 ⟨rfl, hm3⟩
            rw [show decide (l = l) = true by simp]
            have hb3 := hb2.trans (hm3.mono hb2.size)
            clear hm3 hb2 HAT2
            by_cases hM0 : 0 < M
            · have hM1 : (0 : Int) < (M : Int) := by omega
              obtain ⟨f, hf⟩ : ∃ f, f = decD t (l.length : Int) ((M : Int) - 1) := ⟨_, rfl⟩
              have h104 := HD3.out hM0
              rw [← hf] at h104
              have HF5 := Lib.hid hf
              clear hf hM0
              rcases h104 with h10 | h10
              · have g1 : (f.2 != 10) = false := by rw [h10]; rfl
                clear h10
                go_wp2_with fail
                refine (ddecode_c t (l.length : Int) ((M : Int) - 1) (by omega) (by omega) (by omega) hel2 _).mono ?_
                rintro e wg ⟨Ag, cg, rfl, -, -, -, hmg⟩
                rw [← HF5.out]
                have hb61 := hb3.trans (hmg.mono hb3.size)
                clear hmg
                by_cases hn : n = (l.length : Int)
                · have hnb : (n != (l.length : Int)) = false := by simp [hn]
                  clear hn
                  by_cases hd0 : d.2 = 0
                  · have hdb : (d.2 != 0) = false := by rw [hd0]; rfl
                    obtain ⟨hd1, hd2, hd3⟩ := HDD.out hd0
                    have hd2b : ((d.1.length : Int) == n) = true := by simpa using hd2
                    have HX1 := Lib.hid hd1
                    have HX3 := Lib.hid hd3
                    clear hd0 hd1 hd2 hd3
                    go_wp2_with fail
                    refine (ddecode_c s n 60 HN.out.1 HN.out.2 (by omega) hx2 _).mono ?_
                    rintro e w8 ⟨A8, c8, rfl, -, -, hat8, hm8⟩
                    rw [← HD.out] at hat8 ⊢
                    have HAT8 := Lib.hid hat8
                    have hb8 := hb61.trans (hm8.mono hb61.size)
                    clear hat8 hm8
                    go_wp2_with fail
                    refine (dencode_k d.1 s HX1.out rfl hdl HX3.out HAT8.out).mono ?_
                    rintro e w9 ⟨rfl, hm9⟩
                    have hb9 := hb8.trans (hm9.mono hb8.size)
                    clear hm9 hb8 HAT8
                    go_wp2_with fail
                    refine (live8_c _).mono ?_
                    rintro e w10 ⟨rfl, hm10⟩
                    go_wp2
                    go_ret
                    exact ⟨rfl, hb9.trans (hm10.mono hb9.size)⟩
                  · have hdb : (d.2 != 0) = true := by simpa using hd0
                    have hlen0 : d.1.length = 0 := by rw [HDE.out hd0]; rfl
                    clear hd0
                    go_wp2_with fail
                    refine (ddecode_c s n 60 HN.out.1 HN.out.2 (by omega) hx2 _).mono ?_
                    rintro e w8 ⟨A8, c8, rfl, -, -, hat8, hm8⟩
                    rw [← HD.out] at hat8 ⊢
                    have hb8 := hb61.trans (hm8.mono hb61.size)
                    clear hat8 hm8
                    go_wp2_with fail
                    refine (live8_c _).mono ?_
                    rintro e w10 ⟨rfl, hm10⟩
                    go_wp2
                    go_ret
                    exact ⟨rfl, hb8.trans (hm10.mono hb8.size)⟩
                · have hnb : (n != (l.length : Int)) = true := by simpa using hn
                  obtain ⟨f, hf⟩ : ∃ f, f = decD t n (M : Int) := ⟨_, rfl⟩
                  have hf0 : (f.2 == 0) = false := by have := HD4.out hn; rw [← hf] at this; simpa using this
                  have HF := Lib.hid hf
                  clear hn hf
                  go_wp2_with fail
                  refine (ddecode_c t n (M : Int) HN.out.1 HN.out.2 (by omega) hel2 _).mono ?_
                  rintro e wf ⟨Af, cf, rfl, -, -, -, hmf⟩
                  rw [← HF.out]
                  have hb71 := hb61.trans (hmf.mono hb61.size)
                  clear hmf
                  by_cases hd0 : d.2 = 0
                  · have hdb : (d.2 != 0) = false := by rw [hd0]; rfl
                    obtain ⟨hd1, hd2, hd3⟩ := HDD.out hd0
                    have hd2b : ((d.1.length : Int) == n) = true := by simpa using hd2
                    have HX1 := Lib.hid hd1
                    have HX3 := Lib.hid hd3
                    clear hd0 hd1 hd2 hd3
                    go_wp2_with fail
                    refine (ddecode_c s n 60 HN.out.1 HN.out.2 (by omega) hx2 _).mono ?_
                    rintro e w8 ⟨A8, c8, rfl, -, -, hat8, hm8⟩
                    rw [← HD.out] at hat8 ⊢
                    have HAT8 := Lib.hid hat8
                    have hb8 := hb71.trans (hm8.mono hb71.size)
                    clear hat8 hm8
                    go_wp2_with fail
                    refine (dencode_k d.1 s HX1.out rfl hdl HX3.out HAT8.out).mono ?_
                    rintro e w9 ⟨rfl, hm9⟩
                    have hb9 := hb8.trans (hm9.mono hb8.size)
                    clear hm9 hb8 HAT8
                    go_wp2_with fail
                    refine (live8_c _).mono ?_
                    rintro e w10 ⟨rfl, hm10⟩
                    go_wp2
                    go_ret
                    exact ⟨rfl, hb9.trans (hm10.mono hb9.size)⟩
                  · have hdb : (d.2 != 0) = true := by simpa using hd0
                    have hlen0 : d.1.length = 0 := by rw [HDE.out hd0]; rfl
                    clear hd0
                    go_wp2_with fail
                    refine (ddecode_c s n 60 HN.out.1 HN.out.2 (by omega) hx2 _).mono ?_
                    rintro e w8 ⟨A8, c8, rfl, -, -, hat8, hm8⟩
                    rw [← HD.out] at hat8 ⊢
                    have hb8 := hb71.trans (hm8.mono hb71.size)
                    clear hat8 hm8
                    go_wp2_with fail
                    refine (live8_c _).mono ?_
                    rintro e w10 ⟨rfl, hm10⟩
                    go_wp2
                    go_ret
                    exact ⟨rfl, hb8.trans (hm10.mono hb8.size)⟩
              · have g1 : (f.2 != 10) = true := by rw [h10]; rfl
                have g2 : (f.2 != 4) = false := by rw [h10]; rfl
                clear h10
                go_wp2_with fail
                refine (ddecode_c t (l.length : Int) ((M : Int) - 1) (by omega) (by omega) (by omega) hel2 _).mono ?_
                rintro e wg ⟨Ag, cg, rfl, -, -, -, hmg⟩
                rw [← HF5.out]
                have hb61 := hb3.trans (hmg.mono hb3.size)
                clear hmg
                by_cases hn : n = (l.length : Int)
                · have hnb : (n != (l.length : Int)) = false := by simp [hn]
                  clear hn
                  by_cases hd0 : d.2 = 0
                  · have hdb : (d.2 != 0) = false := by rw [hd0]; rfl
                    obtain ⟨hd1, hd2, hd3⟩ := HDD.out hd0
                    have hd2b : ((d.1.length : Int) == n) = true := by simpa using hd2
                    have HX1 := Lib.hid hd1
                    have HX3 := Lib.hid hd3
                    clear hd0 hd1 hd2 hd3
                    go_wp2_with fail
                    refine (ddecode_c s n 60 HN.out.1 HN.out.2 (by omega) hx2 _).mono ?_
                    rintro e w8 ⟨A8, c8, rfl, -, -, hat8, hm8⟩
                    rw [← HD.out] at hat8 ⊢
                    have HAT8 := Lib.hid hat8
                    have hb8 := hb61.trans (hm8.mono hb61.size)
                    clear hat8 hm8
                    go_wp2_with fail
                    refine (dencode_k d.1 s HX1.out rfl hdl HX3.out HAT8.out).mono ?_
                    rintro e w9 ⟨rfl, hm9⟩
                    have hb9 := hb8.trans (hm9.mono hb8.size)
                    clear hm9 hb8 HAT8
                    go_wp2_with fail
                    refine (live8_c _).mono ?_
                    rintro e w10 ⟨rfl, hm10⟩
                    go_wp2
                    go_ret
                    exact ⟨rfl, hb9.trans (hm10.mono hb9.size)⟩
                  · have hdb : (d.2 != 0) = true := by simpa using hd0
                    have hlen0 : d.1.length = 0 := by rw [HDE.out hd0]; rfl
                    clear hd0
                    go_wp2_with fail
                    refine (ddecode_c s n 60 HN.out.1 HN.out.2 (by omega) hx2 _).mono ?_
                    rintro e w8 ⟨A8, c8, rfl, -, -, hat8, hm8⟩
                    rw [← HD.out] at hat8 ⊢
                    have hb8 := hb61.trans (hm8.mono hb61.size)
                    clear hat8 hm8
                    go_wp2_with fail
                    refine (live8_c _).mono ?_
                    rintro e w10 ⟨rfl, hm10⟩
                    go_wp2
                    go_ret
                    exact ⟨rfl, hb8.trans (hm10.mono hb8.size)⟩
                · have hnb : (n != (l.length : Int)) = true := by simpa using hn
                  obtain ⟨f, hf⟩ : ∃ f, f = decD t n (M : Int) := ⟨_, rfl⟩
                  have hf0 : (f.2 == 0) = false := by have := HD4.out hn; rw [← hf] at this; simpa using this
                  have HF := Lib.hid hf
                  clear hn hf
                  go_wp2_with fail
                  refine (ddecode_c t n (M : Int) HN.out.1 HN.out.2 (by omega) hel2 _).mono ?_
                  rintro e wf ⟨Af, cf, rfl, -, -, -, hmf⟩
                  rw [← HF.out]
                  have hb71 := hb61.trans (hmf.mono hb61.size)
                  clear hmf
                  by_cases hd0 : d.2 = 0
                  · have hdb : (d.2 != 0) = false := by rw [hd0]; rfl
                    obtain ⟨hd1, hd2, hd3⟩ := HDD.out hd0
                    have hd2b : ((d.1.length : Int) == n) = true := by simpa using hd2
                    have HX1 := Lib.hid hd1
                    have HX3 := Lib.hid hd3
                    clear hd0 hd1 hd2 hd3
                    go_wp2_with fail
                    refine (ddecode_c s n 60 HN.out.1 HN.out.2 (by omega) hx2 _).mono ?_
                    rintro e w8 ⟨A8, c8, rfl, -, -, hat8, hm8⟩
                    rw [← HD.out] at hat8 ⊢
                    have HAT8 := Lib.hid hat8
                    have hb8 := hb71.trans (hm8.mono hb71.size)
                    clear hat8 hm8
                    go_wp2_with fail
                    refine (dencode_k d.1 s HX1.out rfl hdl HX3.out HAT8.out).mono ?_
                    rintro e w9 ⟨rfl, hm9⟩
                    have hb9 := hb8.trans (hm9.mono hb8.size)
                    clear hm9 hb8 HAT8
                    go_wp2_with fail
                    refine (live8_c _).mono ?_
                    rintro e w10 ⟨rfl, hm10⟩
                    go_wp2
                    go_ret
                    exact ⟨rfl, hb9.trans (hm10.mono hb9.size)⟩
                  · have hdb : (d.2 != 0) = true := by simpa using hd0
                    have hlen0 : d.1.length = 0 := by rw [HDE.out hd0]; rfl
                    clear hd0
                    go_wp2_with fail
                    refine (ddecode_c s n 60 HN.out.1 HN.out.2 (by omega) hx2 _).mono ?_
                    rintro e w8 ⟨A8, c8, rfl, -, -, hat8, hm8⟩
                    rw [← HD.out] at hat8 ⊢
                    have hb8 := hb71.trans (hm8.mono hb71.size)
                    clear hat8 hm8
                    go_wp2_with fail
                    refine (live8_c _).mono ?_
                    rintro e w10 ⟨rfl, hm10⟩
                    go_wp2
                    go_ret
                    exact ⟨rfl, hb8.trans (hm10.mono hb8.size)⟩
            · have hM1 : ¬ (0 : Int) < (M : Int) := by omega
              clear hM0
              by_cases hn : n = (l.length : Int)
              · have hnb : (n != (l.length : Int)) = false := by simp [hn]
                clear hn
                by_cases hd0 : d.2 = 0
                · have hdb : (d.2 != 0) = false := by rw [hd0]; rfl
                  obtain ⟨hd1, hd2, hd3⟩ := HDD.out hd0
                  have hd2b : ((d.1.length : Int) == n) = true := by simpa using hd2
                  have HX1 := Lib.hid hd1
                  have HX3 := Lib.hid hd3
                  clear hd0 hd1 hd2 hd3
                  go_wp2_with fail
                  refine (ddecode_c s n 60 HN.out.1 HN.out.2 (by omega) hx2 _).mono ?_
                  rintro e w8 ⟨A8, c8, rfl, -, -, hat8, hm8⟩
                  rw [← HD.out] at hat8 ⊢
                  have HAT8 := Lib.hid hat8
                  have hb8 := hb3.trans (hm8.mono hb3.size)
                  clear hat8 hm8
                  go_wp2_with fail
                  refine (dencode_k d.1 s HX1.out rfl hdl HX3.out HAT8.out).mono ?_
                  rintro e w9 ⟨rfl, hm9⟩
                  have hb9 := hb8.trans (hm9.mono hb8.size)
                  clear hm9 hb8 HAT8
                  go_wp2_with fail
                  refine (live8_c _).mono ?_
                  rintro e w10 ⟨rfl, hm10⟩
                  go_wp2
                  go_ret
                  exact ⟨rfl, hb9.trans (hm10.mono hb9.size)⟩
                · have hdb : (d.2 != 0) = true := by simpa using hd0
                  have hlen0 : d.1.length = 0 := by rw [HDE.out hd0]; rfl
                  clear hd0
                  go_wp2_with fail
                  refine (ddecode_c s n 60 HN.out.1 HN.out.2 (by omega) hx2 _).mono ?_
                  rintro e w8 ⟨A8, c8, rfl, -, -, hat8, hm8⟩
                  rw [← HD.out] at hat8 ⊢
                  have hb8 := hb3.trans (hm8.mono hb3.size)
                  clear hat8 hm8
                  go_wp2_with fail
                  refine (live8_c _).mono ?_
                  rintro e w10 ⟨rfl, hm10⟩
                  go_wp2
                  go_ret
                  exact ⟨rfl, hb8.trans (hm10.mono hb8.size)⟩
              · have hnb : (n != (l.length : Int)) = true := by simpa using hn
                obtain ⟨f, hf⟩ : ∃ f, f = decD t n (M : Int) := ⟨_, rfl⟩
                have hf0 : (f.2 == 0) = false := by have := HD4.out hn; rw [← hf] at this; simpa using this
                have HF := Lib.hid hf
                clear hn hf
                go_wp2_with fail
                refine (ddecode_c t n (M : Int) HN.out.1 HN.out.2 (by omega) hel2 _).mono ?_
                rintro e wf ⟨Af, cf, rfl, -, -, -, hmf⟩
                rw [← HF.out]
                have hb71 := hb3.trans (hmf.mono hb3.size)
                clear hmf
                by_cases hd0 : d.2 = 0
                · have hdb : (d.2 != 0) = false := by rw [hd0]; rfl
                  obtain ⟨hd1, hd2, hd3⟩ := HDD.out hd0
                  have hd2b : ((d.1.length : Int) == n) = true := by simpa using hd2
                  have HX1 := Lib.hid hd1
                  have HX3 := Lib.hid hd3
                  clear hd0 hd1 hd2 hd3
                  go_wp2_with fail
                  refine (ddecode_c s n 60 HN.out.1 HN.out.2 (by omega) hx2 _).mono ?_
                  rintro e w8 ⟨A8, c8, rfl, -, -, hat8, hm8⟩
                  rw [← HD.out] at hat8 ⊢
                  have HAT8 := Lib.hid hat8
                  have hb8 := hb71.trans (hm8.mono hb71.size)
                  clear hat8 hm8
                  go_wp2_with fail
                  refine (dencode_k d.1 s HX1.out rfl hdl HX3.out HAT8.out).mono ?_
                  rintro e w9 ⟨rfl, hm9⟩
                  have hb9 := hb8.trans (hm9.mono hb8.size)
                  clear hm9 hb8 HAT8
                  go_wp2_with fail
                  refine (live8_c _).mono ?_
                  rintro e w10 ⟨rfl, hm10⟩
                  go_wp2
                  go_ret
                  exact ⟨rfl, hb9.trans (hm10.mono hb9.size)⟩
                · have hdb : (d.2 != 0) = true := by simpa using hd0
                  have hlen0 : d.1.length = 0 := by rw [HDE.out hd0]; rfl
                  clear hd0
                  go_wp2_with fail
                  refine (ddecode_c s n 60 HN.out.1 HN.out.2 (by omega) hx2 _).mono ?_
                  rintro e w8 ⟨A8, c8, rfl, -, -, hat8, hm8⟩
                  rw [← HD.out] at hat8 ⊢
                  have hb8 := hb71.trans (hm8.mono hb71.size)
                  clear hat8 hm8
                  go_wp2_with fail
                  refine (live8_c _).mono ?_
                  rintro e w10 ⟨rfl, hm10⟩
                  go_wp2
                  go_ret
                  exact ⟨rfl, hb8.trans (hm10.mono hb8.size)⟩
end dictBack
end Go.Proofs.Ytiehmeheilfocaa
