/-
  The walk of RankDense.
-/
import Derived.Test.YtaahfcljcejemaaVc
namespace Go.Proofs.Ytaahfcljcejemaa
open Go.RowKit
open Fl
set_option maxRecDepth 100000

namespace rankDense
/-- how far apart -/
def gap (x y : Nat) : Nat := max x y - min x y
theorem gap_half {x y k : Nat} (h : far x y = true) (hk : k < 64) (hg : gap x y ≤ lim k) : gap x (md x y) ≤ lim (k + 1) := by
  have hf : 2 ≤ gap x y := (far_iff _ _).1 h
  have hl := lim_succ k hk
  unfold gap md at *
  omega
theorem gap_end {x y : Nat} (h : far x y = true) (hg : gap x y ≤ lim 64) : False := by
  have hf : 2 ≤ gap x y := (far_iff _ _).1 h
  rw [lim_end] at hg
  omega

set_option maxHeartbeats 2000000 in
theorem walk (a b : Nat) (wa : (Lit.float .f64 a).wf = true) (wb : (Lit.float .f64 b).wf = true) (w : World) :
    Calls Try.prog 13 #[.float .f64 a, .float .f64 b] w fun e w' => e = .returned (.bool true) ∧ Below w.heap.size w w' := by
  have ha := f64_lt wa
  have hb := f64_lt wb
  have hg0 : gap (ky a) (ky b) ≤ lim 0 := by
    have := ky_lt a
    have := ky_lt b
    rw [lim_zero]; unfold gap; omega
  clear wa wb
  go_enter Try.func13, Try.ntmps13
  go_wp2_with fail
  refine (compare_c a b ha hb _).mono ?_
  rintro e w1 ⟨rfl, hb1⟩
  obtain ⟨c, hc⟩ : ∃ c, c = cm (ky a) (ky b) := ⟨_, rfl⟩
  rw [← hc]
  have HC := Lib.hid hc
  clear hc
  go_wp2_with fail
  go_loopw [1, 6] (fun bv nv wr => ∃ (k z : Nat), nv = .int .i64 k ∧ bv = .float .f64 z ∧ z < 18446744073709551616 ∧ k ≤ 64 ∧ gap (ky a) (ky z) ≤ lim k ∧ Hid (c = cm (ky a) (ky z)) ∧ (k = 0 ∨ c ≠ 0) ∧ Below w.heap.size w wr)
    (fun _ nv _ => (70 - intOf nv).toNat)
  case atStart => exact ⟨0, b, rfl, rfl, hb, by omega, hg0, HC, .inl rfl, hb1⟩
  case round =>
    clear hg0 HC hb1
    obtain ⟨k, z, rfl, rfl, hz, hk, hg, HZ, hor, hbw⟩ := hrel
    cases hbo : bo a z
    · have H0 := Lib.hid hg
      have H1 := Lib.hid hor
      clear hg hor
      by_cases hc0 : (c != 0) = true
      · go_wp2_with fail
        refine (between_c a z ha hz _).mono ?_
        rintro e w2 ⟨rfl, hb2⟩
        rw [hbo]
        have c2 := hbw.trans (hb2.mono hbw.size)
        go_wp2_with fail
        refine (live2_c _).mono ?_
        rintro e w3 ⟨rfl, hb3⟩
        go_wp2
        go_ret
        exact ⟨rfl, c2.trans (hb3.mono c2.size)⟩
      · rw [Bool.not_eq_true] at hc0
        have hk0 : k = 0 := by
          rcases H1.out with h | h
          · exact h
          · rw [bne_eq_false_iff_eq] at hc0; exact absurd hc0 h
        subst hk0
        go_wp2_with fail
        refine (between_c a z ha hz _).mono ?_
        rintro e w2 ⟨rfl, hb2⟩
        rw [hbo]
        have c2 := hbw.trans (hb2.mono hbw.size)
        go_wp2_with fail
        refine (live2_c _).mono ?_
        rintro e w3 ⟨rfl, hb3⟩
        go_wp2
        go_ret
        exact ⟨rfl, c2.trans (hb3.mono c2.size)⟩
    · obtain ⟨k1, k2⟩ := rankMiddle.bw_yes ha hz hbo
      have hfar := (rankMiddle.bo_yes hbo).1
      obtain ⟨k3, k4⟩ := md_between hfar
      have k5 := far_ne hfar
      have hk64 : k < 64 := by
        rcases Nat.lt_or_ge k 64 with h | h
        · exact h
        · exfalso
          have : k = 64 := by omega
          subst this
          exact gap_end hfar hg
      have hg2 := gap_half hfar hk64 hg
      rw [← k1] at hg2 k3 k4
      have hbwl := rankTells.bw_lt a z
      have e1 : (cm (ky a) (ky (bw a z)) != c) = false := by rw [k3, ← HZ.out]; simp
      have e2 : (cm (ky (bw a z)) (ky z) != c) = false := by rw [k4, ← HZ.out]; simp
      have hcne : c ≠ 0 := by
        rw [HZ.out]
        rcases cm_tri (ky a) (ky z) with ⟨a1, a2, a3⟩ | ⟨a1, a2, a3⟩ | ⟨a1, a2, a3⟩ <;> omega
      have HZ2 : Hid (c = cm (ky a) (ky (bw a z))) := by show c = _; rw [k3]; exact HZ.out
      have HG := Lib.hid hg2
      have HNE := Lib.hid hcne
      have HGo := Lib.hid hor
      clear k1 k2 k3 k4 k5 hg hg2 hcne hor hfar
      go_wp2_with fail
      refine (between_c a z ha hz _).mono ?_
      rintro e w2 ⟨rfl, hb2⟩
      rw [hbo]
      have c2 := hbw.trans (hb2.mono hbw.size)
      go_wp2_with fail
      refine (compare_c a (bw a z) ha hbwl _).mono ?_
      rintro e w3 ⟨rfl, hb3⟩
      have c3 := c2.trans (hb3.mono c2.size)
      go_wp2_with fail
      refine (compare_c (bw a z) z hbwl hz _).mono ?_
      rintro e w4 ⟨rfl, hb4⟩
      have c4 := c3.trans (hb4.mono c3.size)
      go_wp2
      go_roundw
      case rel => exact ⟨k + 1, bw a z, by go_num, rfl, hbwl, by omega, HG.out, HZ2, .inr HNE.out, c4⟩
      case measure => simp only [intOf]; omega
end rankDense
end Go.Proofs.Ytaahfcljcejemaa
