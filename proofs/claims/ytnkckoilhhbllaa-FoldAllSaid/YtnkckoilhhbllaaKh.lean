/-
  The walk of FoldAll.
-/
import Derived.Test.YtnkckoilhhbllaaKz
import Derived.Test.YtnkckoilhhbllaaIb
import Derived.Test.YtnkckoilhhbllaaIc
namespace Go.Proofs.Ytnkckoilhhbllaa
open Go.RowKit Go.IntWalk
open Gr
set_option maxRecDepth 100000
attribute [local go_sem] Oper.semAt_some

theorem putsI_len : ∀ (l o : List Int), (putsI o l).length ≤ o.length + l.length
  | [], o => Nat.le_refl _
  | x :: t, o => by
    have h1 := putsI_len t (insI o x)
    have h2 := insI_len x o
    rw [show putsI o (x :: t) = putsI (insI o x) t from rfl, List.length_cons]
    omega
theorem namR_len : ∀ l : List Rw, (namR l).length = 2 * l.length
  | [] => rfl
  | r :: t => by
    have h := namR_len t
    rw [show namR (r :: t) = ch r :: pa r :: namR t from rfl, List.length_cons, List.length_cons, List.length_cons]
    omega
theorem namM_len : ∀ l : List Mv, (namM l).length = 2 * l.length
  | [] => rfl
  | r :: t => by
    have h := namM_len t
    rw [show namM (r :: t) = ch (mw r) :: pa (mw r) :: namM t from rfl, List.length_cons, List.length_cons, List.length_cons]
    omega
theorem nodP_len (l : List Rw) (ms : List Mv) : (nodP l ms).length ≤ 1 + 2 * l.length + 2 * ms.length := by
  have h := putsI_len (namR l ++ namM ms) [0]
  rw [List.length_append, namR_len, namM_len] at h
  simp only [List.length_cons, List.length_nil] at h
  unfold nodP
  omega
theorem same5_t {A1 A2 : Option Addr} {c1 c2 : Nat} {xs : List Int} (hx : xs.length ≤ maxLen) {w : World} (h1 : At w w.heap.size A1 (ivs xs)) (h2 : At w w.heap.size A2 (ivs xs)) :
    Calls Try.prog 27 #[.slice A1 xs.length c1, .slice A2 xs.length c2] w fun e w' => e = .returned (.bool true) ∧ Below w.heap.size w w' := by
  have := same5_c A1 A2 c1 c2 xs xs hx hx w h1 h2
  rwa [show decide (xs = xs) = true by simp] at this

namespace foldAll
set_option maxHeartbeats 16000000 in
theorem walk (A1 A2 : Option Addr) (c1 c2 : Nat) (l : List Rw) (ms : List Mv) (hA1 : A1 = none → c1 = 0) (hc1 : l.length ≤ c1) (hl : l.length ≤ maxLen) (hM : Rows_ l) (hi1 : ∀ x ∈ l, In64 (ch x) ∧ In64 (pa x))
    (hml : ms.length ≤ maxLen) (hMM : Moves_ ms) (hi2 : ∀ x ∈ ms, In64 (ch (mw x)) ∧ In64 (pa (mw x)))
    (w : World) (ha1 : At w w.heap.size A1 (tvs l)) (ha2 : At w w.heap.size A2 (mvs ms)) :
    Calls Try.prog 4 #[.slice A1 l.length c1, .slice A2 ms.length c2] w fun e w' => e = .returned (.bool true) ∧ Below w.heap.size w w' := by
  have H1 := Lib.hid ha1
  have H2 := Lib.hid ha2
  have HA := Lib.hid hA1
  have HM := Lib.hid hM
  have HMM := Lib.hid hMM
  have HL := Lib.hid hl
  have HML := Lib.hid hml
  have HI := Lib.hid (nodes64 hi1 hi2)
  clear ha1 ha2 hA1 hM hMM hml hi1 hi2
  unfold maxLen at hl
  cases hf : few l with
  | false =>
    have HF := Lib.hid hf
    clear hf
    go_enter Try.func4, Try.ntmps4
    go_wp2_with fail
    refine (few_c A1 c1 l HL.out _ H1.out).mono ?_
    rintro e w1 ⟨rfl, rfl⟩
    rw [HF.out]
    go_wp2_with fail
    refine (live14_c _).mono ?_
    rintro e w2 ⟨rfl, hb⟩
    go_wp2_with fail
    go_ret
    exact ⟨rfl, hb⟩
  | true =>
    obtain ⟨hl60, -⟩ := few_in hf
    have HF := Lib.hid hf
    clear hf
    cases hg : fewM ms 60 with
    | false =>
      have HG := Lib.hid hg
      clear hg
      go_enter Try.func4, Try.ntmps4
      go_wp2_with fail
      refine (few_c A1 c1 l HL.out _ H1.out).mono ?_
      rintro e w1 ⟨rfl, rfl⟩
      rw [HF.out]
      go_wp2_with fail
      refine (rmfew_c A2 c2 ms 60 HML.out (by decide) _ H2.out).mono ?_
      rintro e w1 ⟨rfl, rfl⟩
      rw [HG.out]
      go_wp2_with fail
      refine (live14_c _).mono ?_
      rintro e w2 ⟨rfl, hb⟩
      go_wp2_with fail
      go_ret
      exact ⟨rfl, hb⟩
    | true =>
      obtain ⟨hm60, -⟩ := fewM_in hg
      have HG := Lib.hid hg
      clear hg
      go_enter Try.func4, Try.ntmps4
      go_wp2_with fail
      refine (few_c A1 c1 l HL.out _ H1.out).mono ?_
      rintro e w1 ⟨rfl, rfl⟩
      rw [HF.out]
      go_wp2_with fail
      refine (rmfew_c A2 c2 ms 60 HML.out (by decide) _ H2.out).mono ?_
      rintro e w1 ⟨rfl, rfl⟩
      rw [HG.out]
      go_wp2_with fail
      refine (mall_c A1 A2 c1 c2 l ms (by omega) HA.out hc1 (allP_above (by omega)) _ H1.out H2.out).mono ?_
      rintro e w3 ⟨B3, d3, rfl, p3, -, -, hb3⟩
      have HB3 := Lib.hid hb3
      have P3 := Lib.hid p3
      clear hb3 p3
      go_wp2_with fail
      refine (rall_c A1 A2 c1 c2 l ms (by omega) HA.out hc1 (fun k hk A cap a b W h => rabove_c A cap _ a b (by have := allP_len l (ms.take k); rw [List.length_take] at this; unfold maxLen; omega) W h) _ (H1.out.keep HB3.out) (H2.out.keep HB3.out)).mono ?_
      rintro e w4 ⟨B4, d4, rfl, p4, -, -, hb4⟩
      have HB4 := Lib.hid (HB3.out.trans (hb4.mono HB3.out.size))
      have P4 := Lib.hid p4
      have P3b := Lib.hid (P3.out.keep hb4)
      clear hb4 p4
      have hlx : (allP l ms).length ≤ 120 := by have := allP_len l ms; omega
      have HRX := Lib.hid (allP_rows HM.out HMM.out)
      obtain ⟨X, hX⟩ : ∃ X, allP l ms = X := ⟨_, rfl⟩
      rw [hX] at P4 P3b hlx HRX ⊢
      clear hX
      go_wp2_with fail
      refine (rsame_t (by unfold maxLen; omega) HRX.out P3b.out P4.out).mono ?_
      rintro e w5 ⟨rfl, hb5⟩
      have HB5 := Lib.hid (HB4.out.trans (hb5.mono HB4.out.size))
      clear hb5
      go_wp2_with fail
      refine (nodes_c A1 A2 c1 c2 l ms (by omega) (by omega) HI.out _ (H1.out.keep HB5.out) (H2.out.keep HB5.out)).mono ?_
      rintro e w6 ⟨B6, d6, rfl, p6, hb6⟩
      have HB6 := Lib.hid (HB5.out.trans (hb6.mono HB5.out.size))
      have P6 := Lib.hid p6
      clear hb6 p6
      go_wp2_with fail
      refine (rnodes_c A1 A2 c1 c2 l ms (by omega) (by omega) _ (H1.out.keep HB6.out) (H2.out.keep HB6.out)).mono ?_
      rintro e w7 ⟨B7, d7, rfl, p7, -, -, hb7⟩
      have HB7 := Lib.hid (HB6.out.trans (hb7.mono HB6.out.size))
      have P7 := Lib.hid p7
      have P6b := Lib.hid (P6.out.keep hb7)
      clear hb7 p7
      have hln := nodP_len l ms
      obtain ⟨Y, hY⟩ : ∃ Y, nodP l ms = Y := ⟨_, rfl⟩
      rw [hY] at P7 P6b hln ⊢
      clear hY
      go_wp2_with fail
      refine (same5_t (by unfold maxLen; omega) P6b.out P7.out).mono ?_
      rintro e w8 ⟨rfl, hb8⟩
      have HB8 := Lib.hid (HB7.out.trans (hb8.mono HB7.out.size))
      clear hb8
      go_wp2_with fail
      refine (live14_c _).mono ?_
      rintro e w9 ⟨rfl, hb9⟩
      have hb10 := HB8.out.trans (hb9.mono HB8.out.size)
      clear hb9
      go_wp2_with fail
      go_ret
      exact ⟨rfl, hb10⟩
end foldAll
end Go.Proofs.Ytnkckoilhhbllaa
