/-
  May these be Words of a list? the program's, and the document's.
-/
import Derived.Test.YtiehmeheilfocaaTd
import Derived.Test.YtiehmeheilfocaaQl
namespace Go.Proofs.Ytiehmeheilfocaa
open Go.RowKit Go.IntWalk
open Pk Dc
set_option maxRecDepth 100000
attribute [local go_sem] Oper.semAt_some

theorem rs_drop {at_ : List Nat} {k p n : Nat} (h : at_[k]? = some p) : Dc.rs n (at_.drop k) = if n < p then none else Dc.rs (if p = n then n + 1 else n) (at_.drop (k + 1)) := by
  rw [drop_at_cons h, Dc.rs]

set_option maxHeartbeats 8000000 in
theorem mayD_c (A1 A2 : Option Addr) (c1 c2 : Nat) (words : List Tx) (at_ : List Nat) (hx1 : words.length ≤ 100000) (hx2 : at_.length ≤ 100000) (hts : ∀ t ∈ words, t.length ≤ 100000) (w : World) (h1 : At w w.heap.size A1 (svs words)) (h2 : At w w.heap.size A2 (uvs at_)) :
    Calls Try.prog 36 #[.slice A1 words.length c1, .slice A2 at_.length c2] w fun e w' => e = .returned (.bool (mayW words at_)) ∧ Below w.heap.size w w' := by
  have H1 := Lib.hid h1
  have H2 := Lib.hid h2
  have HT := Lib.hid hts
  have hwl := ws_len words []
  rw [List.length_nil] at hwl
  clear h1 h2 hts
  go_enter Try.func36, Try.ntmps36
  go_wp2_with fail
  refine (words_c A1 c1 words hx1 HT.out _ H1.out).mono ?_
  rintro e w1 ⟨B1, k1, B2, k2, rfl, -, -, -, -, -, -, hb1⟩
  obtain ⟨m, hm⟩ : ∃ m, m = (ws [] words).length := ⟨_, rfl⟩
  have hmw : mayW words at_ = (decide (m = words.length) && decide (Dc.rs 0 at_ = some words.length)) := by unfold mayW; rw [hm]
  rw [← hm] at hwl ⊢
  have HMW := Lib.hid hmw
  clear hm hmw
  by_cases hml : m < words.length
  · have hd : decide (m = words.length) = false := by simp; omega
    have HD := Lib.hid hd
    clear hd
    go_wp2_with fail
    go_ret
    exact ⟨ret_bool (by rw [HMW.out, HD.out]; rfl), hb1⟩
  · have hd : decide (m = words.length) = true := by simp; omega
    have HD := Lib.hid hd
    clear hd
    have hb10 := hb1.size
    go_wp2_with fail
    go_loopw [7, 22] (fun n i wr => ∃ (k N : Nat), n = .int .u64 (N : Int) ∧ i = .int .i64 (k : Int) ∧ k ≤ at_.length ∧ N ≤ k ∧ Dc.rs N (at_.drop k) = Dc.rs 0 at_ ∧ wr = w1) (fun _ i _ => at_.length - (intOf i).toNat)
    case atStart => exact ⟨0, 0, rfl, rfl, Nat.zero_le _, Nat.le_refl _, rfl, rfl⟩
    case round =>
      obtain ⟨k, N, rfl, rfl, hk, hNk, hrs, rfl⟩ := hrel
      have HRS := Lib.hid hrs
      clear hrs
      by_cases hlt : k < at_.length
      · obtain ⟨p, hpk⟩ := some_at hlt
        obtain ⟨b2, o2, rfl, _, hcp⟩ := (H2.out.below hb1) k _ (uvs_at hpk)
        have HST := Lib.hid (rs_drop (n := N) hpk)
        clear hpk
        by_cases hfar : N < p
        · have hfar2 : (N : Int) < (p : Int) := by omega
          have hno : Dc.rs 0 at_ = none := by rw [← HRS.out, HST.out, if_pos hfar]
          have HNO := Lib.hid hno
          clear hno
          go_wp2_with fail
          go_ret
          exact ⟨ret_bool (by rw [HMW.out, HNO.out]; simp), hb1⟩
        · by_cases hpe : p = N
          · have hee : ((p : Int) == (N : Int)) = true := by simp [hpe]
            have hst2 : Dc.rs (N + 1) (at_.drop (k + 1)) = Dc.rs 0 at_ := by
              have := HST.out
              rw [if_neg hfar, if_pos hpe] at this
              rw [← this]; exact HRS.out
            have HS2 := Lib.hid hst2
            have hle : ¬ (N : Int) < (p : Int) := by omega
            have HPE := Lib.hid hpe
            clear hst2 hpe hfar
            go_wp2_with fail
            go_roundw
            case rel => exact ⟨k + 1, N + 1, by go_num, by go_num, by omega, by omega, HS2.out, by first | rfl | trivial⟩
            case measure => simp only [intOf]; omega
          · have hee : ((p : Int) == (N : Int)) = false := by simp; omega
            have hst2 : Dc.rs N (at_.drop (k + 1)) = Dc.rs 0 at_ := by
              have := HST.out
              rw [if_neg hfar, if_neg hpe] at this
              rw [← this]; exact HRS.out
            have HS2 := Lib.hid hst2
            have hle : ¬ (N : Int) < (p : Int) := by omega
            clear hst2 hpe hfar
            go_wp2_with fail
            go_roundw
            case rel => exact ⟨k + 1, N, rfl, by go_num, by omega, by omega, HS2.out, by first | rfl | trivial⟩
            case measure => simp only [intOf]; omega
      · obtain rfl : k = at_.length := by omega
        have hend : Dc.rs 0 at_ = some N := by rw [← HRS.out, List.drop_length]; rfl
        have HE := Lib.hid hend
        have hwu : IntKind.u64.wrap (words.length : Int) = (words.length : Int) := by rw [IntKind.wrap_u64]; omega
        clear hend
        go_wp2_with fail
        go_ret
        refine ⟨ret_bool ?_, hb1⟩
        rw [HMW.out, HD.out, HE.out]
        by_cases h : N = words.length <;> simp [h]
        omega

set_option maxHeartbeats 8000000 in
theorem rmayD_c (A1 A2 : Option Addr) (c1 c2 : Nat) (words : List Tx) (at_ : List Nat) (hx1 : words.length ≤ 100000) (hx2 : at_.length ≤ 100000) (w : World) (h1 : At w w.heap.size A1 (svs words)) (h2 : At w w.heap.size A2 (uvs at_)) :
    Calls Try.prog 37 #[.slice A1 words.length c1, .slice A2 at_.length c2] w fun e w' => e = .returned (.bool (mayW words at_)) ∧ Below w.heap.size w w' := by
  have hnot : ∀ (x : Bool) (w : World), (Op.unary .not (.bool x)).run Try.prog w = .ok (.bool (!x)) w := fun _ _ => rfl
  have H1 := Lib.hid h1
  have H2 := Lib.hid h2
  clear h1 h2
  have hpl := @pk_len words [] at_
  have hiff := may_iff words at_
  unfold MayD at hiff
  obtain ⟨r, hr⟩ : ∃ r, r = pk words [] at_ := ⟨_, rfl⟩
  rw [← hr] at hpl hiff
  have HR := Lib.hid hr
  obtain ⟨l, b⟩ := r
  simp only [List.length_nil] at hpl
  go_enter Try.func37, Try.ntmps37
  go_wp2_with fail
  refine (rpick_c A1 A2 c1 c2 words at_ hx1 hx2 _ H1.out H2.out).mono ?_
  rintro e w1 ⟨B1, k1, rfl, -, -, hat1, hb1⟩
  rw [← HR.out] at hat1 ⊢
  have HAT1 := Lib.hid hat1
  clear hat1 hr
  cases b
  · have hno : mayW words at_ = false := by
      rw [← Bool.not_eq_true, hiff]
      rintro ⟨l', h, _⟩
      simp at h
    have HNO := Lib.hid hno
    clear hno hiff
    go_wp2_with fail
    go_ret
    exact ⟨ret_bool (by rw [HNO.out]), hb1⟩
  · have hll : l.length ≤ 100000 := by omega
    have hval : mayW words at_ = (decide (ws [] l = words) && decide (pl [] l = at_)) := by
      rw [Bool.eq_iff_iff, hiff, Bool.and_eq_true, decide_eq_true_eq, decide_eq_true_eq]
      constructor
      · rintro ⟨l', h, h2, h3⟩
        simp only [Prod.mk.injEq, and_true] at h
        subst h
        exact ⟨h2, h3⟩
      · rintro ⟨h2, h3⟩
        exact ⟨l, rfl, h2, h3⟩
    have HVAL := Lib.hid hval
    have hwl := ws_len l []
    rw [List.length_nil] at hwl
    clear hval hiff
    go_wp2_with fail
    refine (rwords_c B1 k1 l hll _ HAT1.out).mono ?_
    rintro e w2 ⟨B2, k2, B3, k3, rfl, -, -, -, -, hat2, hat3, hm2⟩
    have HAT2 := Lib.hid hat2
    have HAT3 := Lib.hid hat3
    have hb2 := hb1.trans (hm2.mono hb1.size)
    clear hat2 hat3 hm2 hb1
    go_wp2_with fail
    refine (same4_k (ws [] l) words rfl rfl (by omega) hx1 HAT2.out (H1.out.keep hb2)).mono ?_
    rintro e w3 ⟨rfl, hm3⟩
    have HAT3 := Lib.hid (HAT3.out.keep hm3)
    have hb3 := hb2.trans (hm3.mono hb2.size)
    clear hm3 hb2 HAT2
    by_cases hw : ws [] l = words
    · have hwd : decide (ws [] l = words) = true := by simp [hw]
      rw [hwd]
      have HWD := Lib.hid hwd
      clear hw hwd
      go_wp2_with fail
      refine (same6_k (pl [] l) at_ (pl_len l []) rfl hll hx2 HAT3.out (H2.out.keep hb3)).mono ?_
      rintro e w4 ⟨rfl, hm4⟩
      have hb4 := hb3.trans (hm4.mono hb3.size)
      go_wp2
      go_ret
      exact ⟨ret_bool (by rw [HVAL.out, HWD.out]; rfl), hb4⟩
    · have hwd : decide (ws [] l = words) = false := by simp [hw]
      rw [hwd]
      have HWD := Lib.hid hwd
      clear hw hwd
      go_wp2_with fail
      go_ret
      exact ⟨ret_bool (by rw [HVAL.out, HWD.out]; rfl), hb3⟩
end Go.Proofs.Ytiehmeheilfocaa
