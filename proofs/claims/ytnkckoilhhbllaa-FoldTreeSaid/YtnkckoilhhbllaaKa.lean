/-
  The walk of FoldDoes.
-/
import Derived.Test.YtnkckoilhhbllaaQd
import Derived.Test.YtnkckoilhhbllaaSe
import Derived.Test.YtnkckoilhhbllaaUg
namespace Go.Proofs.Ytnkckoilhhbllaa
open Go.RowKit Go.IntWalk
open Gr
set_option maxRecDepth 100000
attribute [local go_sem] Oper.semAt_some

theorem sameP_refl : ∀ l : List Rw, sameP l l = true
  | [] => rfl
  | r :: l => by rw [sameP, alikeP_refl, sameP_refl l]; rfl
theorem doP_rows {l : List Rw} {m : Mv} (h : Rows_ l) (hm : rk (mw m) < 18446744073709551616 ∧ (nm (mw m)).length ≤ maxLen) : Rows_ (doP l m) := by
  unfold doP
  split
  · exact h
  · intro r hr
    rcases setP_mem hr with rfl | hr
    · exact hm
    · exact h r hr
theorem rsame_t {A1 A2 : Option Addr} {c1 c2 : Nat} {xs : List Rw} (hx : xs.length ≤ maxLen) (hwx : Rows_ xs) {w : World} (h1 : At w w.heap.size A1 (tvs xs)) (h2 : At w w.heap.size A2 (tvs xs)) :
    Calls Try.prog 21 #[.slice A1 xs.length c1, .slice A2 xs.length c2] w fun e w' => e = .returned (.bool true) ∧ Below w.heap.size w w' := by
  have := rsame_c A1 A2 c1 c2 xs xs hx hx hwx hwx w h1 h2
  rwa [sameP_refl] at this
theorem mbarred_k {A : Option Addr} {cap : Nat} {l : List Rw} {m : Mv} {q : Bool} (hq : barP l m = q) (hl : l.length ≤ 100000) {w : World} (hc : At w w.heap.size A (tvs l)) :
    Calls Try.prog 22 #[.slice A l.length cap, .agg #[.int .i64 (mc m), .int .i64 (mr m), .int .i64 (pa (mw m)), .int .i64 (ch (mw m)), .string (ba (nm (mw m))), .float .f64 (rk (mw m))]] w fun e w' => e = .returned (.bool q) ∧ Below w.heap.size w w' := by
  subst hq
  exact mbarred_c A cap l m (fun a b W h => above_any hl A cap a b W h) w hc
theorem rbarred_k {A : Option Addr} {cap : Nat} {l : List Rw} {m : Mv} {q : Bool} (hq : barP l m = q) (hl : l.length ≤ maxLen) {w : World} (hc : At w w.heap.size A (tvs l)) :
    Calls Try.prog 23 #[.slice A l.length cap, .agg #[.int .i64 (mc m), .int .i64 (mr m), .int .i64 (pa (mw m)), .int .i64 (ch (mw m)), .string (ba (nm (mw m))), .float .f64 (rk (mw m))]] w fun e w' => e = .returned (.bool q) ∧ Below w.heap.size w w' := by
  subst hq
  exact rbarred_c A cap l m (fun a b W h => rabove_c A cap l a b hl W h) w hc
theorem eq_bool (q : Bool) : (q == q) = true := by cases q <;> rfl

namespace foldDoes
set_option maxHeartbeats 8000000 in
theorem walk (A : Option Addr) (cap : Nat) (l : List Rw) (m : Mv) (hA : A = none → cap = 0) (hcap : l.length ≤ cap) (hl : l.length ≤ maxLen) (hM : Rows_ l) (hm1 : rk (mw m) < 18446744073709551616) (hm2 : (nm (mw m)).length ≤ maxLen) (w : World) (hc : At w w.heap.size A (tvs l)) :
    Calls Try.prog 3 #[.slice A l.length cap, .agg #[.int .i64 (mc m), .int .i64 (mr m), .int .i64 (pa (mw m)), .int .i64 (ch (mw m)), .string (ba (nm (mw m))), .float .f64 (rk (mw m))]] w fun e w' => e = .returned (.bool true) ∧ Below w.heap.size w w' := by
  obtain ⟨w0, hw0⟩ : ∃ w0, w0 = w.alloc (.cells #[.int .i64 (mc m), .int .i64 (mr m), .int .i64 (pa (mw m)), .int .i64 (ch (mw m)), .string (ba (nm (mw m))), .float .f64 (rk (mw m))] 27) := ⟨_, rfl⟩
  have HBX := Lib.hid (show Below w.heap.size w w0 by rw [hw0]; exact (Below.refl w.heap.size w).alloc (Nat.le_refl _) _)
  have HI := Lib.hid (show Is w0 w.heap.size 27 [.int .i64 (mc m), .int .i64 (mr m), .int .i64 (pa (mw m)), .int .i64 (ch (mw m)), .string (ba (nm (mw m))), .float .f64 (rk (mw m))] by rw [hw0]; exact is_new w 27 [.int .i64 (mc m), .int .i64 (mr m), .int .i64 (pa (mw m)), .int .i64 (ch (mw m)), .string (ba (nm (mw m))), .float .f64 (rk (mw m))])
  have HC := Lib.hid (hc.keep HBX.out)
  have HA := Lib.hid hA
  have HM := Lib.hid hM
  have HM2 := Lib.hid (And.intro hm1 hm2)
  have HL := Lib.hid hl
  have HW := Lib.hid hw0
  have hsz := ba_size (nm (mw m))
  obtain ⟨g0, g1, g2, g3, g4, g5⟩ := box6 (m := m) HI.out
  unfold maxLen at hm2
  clear hc hA hM hl hm1 hw0
  cases hf : few l with
  | false =>
    have HF := Lib.hid hf
    clear hf
    go_enter Try.func3, Try.ntmps3
    go_wp2_with fail
    rw [← HW.out]
    refine (few_c A cap l HL.out _ HC.out).mono ?_
    rintro e w1 ⟨rfl, rfl⟩
    rw [HF.out]
    go_wp2_with fail
    refine (live14_c _).mono ?_
    rintro e w2 ⟨rfl, hb⟩
    go_wp2_with fail
    go_ret
    exact ⟨rfl, HBX.out.trans (hb.mono HBX.out.size)⟩
  | true =>
    obtain ⟨hl60, -⟩ := few_in hf
    have HF := Lib.hid hf
    clear hf
    by_cases hlong : 100 < (nm (mw m)).length
    · go_enter Try.func3, Try.ntmps3
      go_wp2_with fail
      rw [← HW.out]
      refine (few_c A cap l HL.out _ HC.out).mono ?_
      rintro e w1 ⟨rfl, rfl⟩
      rw [HF.out]
      go_wp2_with fail
      refine (live14_c _).mono ?_
      rintro e w2 ⟨rfl, hb⟩
      go_wp2_with fail
      go_ret
      exact ⟨rfl, HBX.out.trans (hb.mono HBX.out.size)⟩
    · have hl' : l.length ≤ 100000 := by omega
      go_enter Try.func3, Try.ntmps3
      go_wp2_with fail
      rw [← HW.out]
      refine (few_c A cap l HL.out _ HC.out).mono ?_
      rintro e w1 ⟨rfl, rfl⟩
      rw [HF.out]
      go_wp2_with fail
      refine (mdo_c A cap l m hl' HA.out hcap (fun a b W h => above_any hl' A cap a b W h) _ HC.out).mono ?_
      rintro e w3 ⟨A3, cap3, rfl, h3, n3, c3, hb3⟩
      have HI3 := Lib.hid (is_below HI.out hb3 (is_lt HI.out))
      have HB3 := Lib.hid hb3
      have H3 := Lib.hid h3
      clear h3 n3 hb3 g0 g1 g2 g3 g4 g5
      obtain ⟨g0, g1, g2, g3, g4, g5⟩ := box6 (m := m) HI3.out
      go_wp2_with fail
      refine (rdo_c A cap l m hl' HA.out hcap (fun a b W h => rabove_c A cap l a b HL.out W h) _ (HC.out.keep HB3.out)).mono ?_
      rintro e w4 ⟨A4, cap4, rfl, h4, n4, c4, hb4⟩
      have HI4 := Lib.hid (is_below HI3.out hb4 (is_lt HI3.out))
      have hb34 := HB3.out.trans (hb4.mono HB3.out.size)
      have HB4 := Lib.hid hb34
      have H4 := Lib.hid h4
      have H34 := Lib.hid (H3.out.keep hb4)
      have HC4 := Lib.hid (HC.out.keep hb34)
      have hlt : (doP l m).length ≤ maxLen := by have := doP_len l m; unfold maxLen; omega
      have hrt := doP_rows HM.out HM2.out (m := m)
      have HLT := Lib.hid hlt
      have HRT := Lib.hid hrt
      clear h4 n4 hb4 hb34 g0 g1 g2 g3 g4 g5 hlt hrt
      obtain ⟨q, hq⟩ : ∃ q, barP l m = q := ⟨_, rfl⟩
      have HQ := Lib.hid hq
      have hq2 : ((!q) == (!q)) = true := by cases q <;> rfl
      have hq3 : (q == q) = true := by cases q <;> rfl
      rw [hq]
      clear hq
      obtain ⟨T, hT⟩ : ∃ T, doP l m = T := ⟨_, rfl⟩
      rw [hT] at H34 H4 HLT HRT ⊢
      clear hT
      cases q <;>
      · go_wp2_with fail
        refine quiet_held (fun w' => Below w4.heap.size w4 w') (by kernel_rfl) (by kernel_rfl) (Below.refl _ _).drew ?_
        repeat (first
          | go_big_quiet_skip
          | (go_big_quiet_want; go_big_quiet_op; go_big_quiet_on)
          | (go_big_quiet_want; apply Exists.intro; refine ⟨fun wq hq => ?_, ?_⟩; (focus (obtain ⟨g0, g1, g2, g3, g4, g5⟩ := box6 (m := m) (is_below HI4.out hq (is_lt HI4.out)); unfold Oper.quietAt; go_simp; all_goals (first | rfl | (refine (rsame_t HLT.out HRT.out (H34.out.keep hq) (H4.out.keep hq)).mono ?_; rintro e w5 ⟨rfl, hbn⟩; exact ⟨rfl, hq.trans (hbn.mono hq.size)⟩) | (refine (mbarred_k HQ.out hl' (HC4.out.keep hq)).mono ?_; rintro e w5 ⟨rfl, hbn⟩; exact ⟨rfl, hq.trans (hbn.mono hq.size)⟩) | (refine (rbarred_k HQ.out HL.out (HC4.out.keep hq)).mono ?_; rintro e w5 ⟨rfl, hbn⟩; exact ⟨rfl, hq.trans (hbn.mono hq.size)⟩) | (refine (live14_c _).mono ?_; rintro e w5 ⟨rfl, hbn⟩; exact ⟨rfl, hq.trans (hbn.mono hq.size)⟩)))); simp only [Act.put, List.setIfInBounds_toArray, List.set_cons_zero, List.set_cons_succ]; go_big_quiet_on))
        refine wpQuiet_nil ?_
        intro wq hwq
        go_wp2_with fail
        go_ret
        exact ⟨rfl, HBX.out.trans ((HB4.out.trans (hwq.mono HB4.out.size)).mono HBX.out.size)⟩
end foldDoes
end Go.Proofs.Ytnkckoilhhbllaa
