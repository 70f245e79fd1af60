/-
  Spread, the document's.
-/
import Derived.Test.YtacnbgfddidfiaaQf
import Derived.Sort.LoopGhostIn
namespace Go.Proofs.Ytacnbgfddidfiaa
open Go.RowKit Go.IntWalk
open Pk
set_option maxRecDepth 100000
attribute [local go_sem] Oper.semAt_some

theorem own_snocU {w : World} {base n : Nat} {v : Value} {xs : List Nat} {x : Nat} (h : w.ownsRow base 34 1 v (n + 1) (uvs xs ++ [.int .u64 (x : Int)])) : w.ownsRow base 34 1 v (n + 1) (uvs (xs ++ [x])) := by
  rw [uvs_snoc]; exact h

set_option maxHeartbeats 4000000 in
theorem rspread_c (A : Option Addr) (cap : Nat) (r : List Run) (most : Int) (hr : r.length ≤ 100000) (hm1 : -9223372036854775808 ≤ most) (hm2 : most ≤ 100000) (hri : ∀ x ∈ r, In64 x.2) (w : World) (hc : At w w.heap.size A (rvs r)) :
    Calls Try.prog 29 #[.slice A r.length cap, .int .i64 most] w (LstEnd (sprV r most).1 (.bool (sprV r most).2) w) := by
  obtain ⟨i0, hi, hz0, hz1, hz2⟩ := info_parts Try.info34
  have HC := Lib.hid hc
  have HRI := Lib.hid hri
  clear hc hri
  obtain ⟨res, hres⟩ : ∃ res, res = sprV r most := ⟨_, rfl⟩
  have HR := Lib.hid hres
  rw [← hres]
  clear hres
  go_enter Try.func29, Try.ntmps29
  go_wp2_with fail
  refine (rmay_c A cap r hr w HC.out).mono ?_
  rintro e w1 ⟨rfl, hb1⟩
  by_cases hmay : mayP none r = true
  · rw [hmay]
    have HM := Lib.hid hmay
    clear hmay
    by_cases hneg : most < 0
    · have t1 : decide (most < 0) = true := by simp [hneg]
      have HN := Lib.hid hneg
      clear hneg
      go_wp2_with fail
      go_ret2
      rw [HR.out, sprV_far (by have := HN.out; omega)]
      exact lstEnd_nil hb1
    · have t1 : decide (most < 0) = false := by simp; omega
      obtain ⟨N, rfl⟩ := Int.eq_ofNat_of_zero_le (show 0 ≤ most by omega)
      clear hneg
      go_wp2_with fail
      go_loopg [6, 7] r.length (fun m s i wr => ∃ k : Nat, i = .int .i64 (k : Int) ∧ r.length - k ≤ m ∧ k ≤ r.length ∧ (spr (r.take k)).length ≤ N ∧ (∃ A' cap', s = .slice A' (spr (r.take k)).length cap') ∧ wr.ownsRow w.heap.size 34 1 s (spr (r.take k)).length (uvs (spr (r.take k))) ∧ Below w.heap.size w wr)
      case atStart => exact ⟨0, rfl, by omega, Nat.zero_le _, Nat.zero_le _, ⟨none, 0, rfl⟩, ⟨rfl, .inl ⟨rfl, rfl⟩⟩, hb1⟩
      case round =>
        clear hb1
        obtain ⟨k, rfl, hmk, hk, hsN, ⟨A0, cap0, rfl⟩, hown, hb⟩ := hrel
        have hb0 := hb.size
        by_cases hlt : k < r.length
        · obtain ⟨⟨v, c⟩, hxk⟩ := some_at hlt
          have hc1 := may_pos HM.out (mem_at hxk)
          have hci : In64 c := HRI.out _ (mem_at hxk)
          obtain ⟨b, off, rfl, hbl, hcv, hcc⟩ := run_cells (HC.out.below hb) hxk
          dsimp only at hcv hcc hc1
          have hst := spr_take_step hxk
          have hsl := congrArg List.length hst
          rw [List.length_append, List.length_replicate] at hsl
          have hle2 := spr_take_le r (k + 1)
          have HST := Lib.hid hst
          have HSL := Lib.hid hsl
          obtain ⟨n, hn⟩ : ∃ n, n = (spr (r.take k)).length := ⟨_, rfl⟩
          rw [← hn] at hown hsl hsN ⊢
          have HNN := Lib.hid hn
          have HXK := Lib.hid hxk
          have hnN : (n : Int) ≤ (N : Int) := by omega
          unfold In64 at hci
          obtain ⟨hci1, hci2⟩ := hci
          clear hst hn hxk
          by_cases hfar : (N : Int) - (n : Int) < c
          · have t2 : decide ((N : Int) - (n : Int) < c) = true := by simp [hfar]
            have hf2 : (N : Int) < ((spr r).length : Int) := by omega
            have HF := Lib.hid hf2
            clear hf2 hfar hle2 hsl
            go_wp2_with fail
            go_ret2
            rw [HR.out, sprV_far HF.out]
            exact lstEnd_nil hb
          · have t2 : decide ((N : Int) - (n : Int) < c) = false := by simp; omega
            obtain ⟨q, rfl⟩ := Int.eq_ofNat_of_zero_le (show 0 ≤ c by omega)
            rw [Int.toNat_natCast] at hsl HST HSL
            have hnq : n + q ≤ N := by omega
            have hN1 : N ≤ 100000 := by omega
            clear hfar hle2 hsl
            go_wp2_with fail
            go_loopg [6, 8] q (fun m s i wr2 => ∃ j : Nat, i = .int .i64 (j : Int) ∧ q - j ≤ m ∧ j ≤ q ∧ (∃ A' cap', s = .slice A' (n + j) cap') ∧ wr2.ownsRow w.heap.size 34 1 s (n + j) (uvs (spr (r.take k) ++ List.replicate j v)) ∧ Below w.heap.size w wr2)
            case atStart => exact ⟨0, rfl, by omega, Nat.zero_le _, ⟨_, _, rfl⟩, by simpa using hown, hb⟩
            case round =>
              clear hcv hcc hown hb hb0
              obtain ⟨j, rfl, hmj, hj, ⟨A1, cap1, rfl⟩, hown, hb⟩ := hrel
              have hb0 := hb.size
              obtain ⟨b', off', hbe, _, hcv, hcc⟩ := run_cells (HC.out.below hb) HXK.out
              cases hbe
              dsimp only at hcv hcc
              have hnj : n + j ≤ 100000 := by omega
              by_cases hjq : j < q
              · go_wp2_with (at_builtin; refine wpList_append_own _ rfl _ _ 37 rfl w.heap.size 34 i0 (.int .u64 0) 1 8 Try.underlying37 hi hz0 hz1 hz2 rfl (by decide) _ _ _ rfl (hown.alloc _) ⟨wr.heap.size, 0, none⟩ 1 1 [.int .u64 (v : Int)] rfl rfl (cell_one_new _ _ _) (by simp [Value.oneCell']) (by unfold maxLen; omega) (by omega) (by simp; omega) ?_; intro v' w2 hown' hgrow _)
                have hb2 := below_ownI hb hb0 hown hgrow
                obtain ⟨g', cap', rfl⟩ := ownsRow_succ hown'
                have ho2 := own_snocU hown'
                rw [List.append_assoc, ← rep_snoc] at ho2
                clear hown hown' hgrow hb hcv hcc
                go_roundg (q - (j + 1))
                case measure => omega
                case rel => exact ⟨j + 1, by go_num, Nat.le_refl _, by omega, ⟨_, _, rfl⟩, ho2, hb2⟩
              · obtain rfl : j = q := by omega
                go_wp2_with fail
                rw [← HST.out] at hown
                go_roundg (r.length - (k + 1))
                case measure => omega
                case rel => exact ⟨k + 1, by go_num, Nat.le_refl _, by omega, by rw [HSL.out, ← HNN.out]; exact hnq, ⟨_, _, by rw [HSL.out, ← HNN.out]⟩, by rw [HSL.out, ← HNN.out]; exact hown, hb⟩
        · obtain rfl : k = r.length := by omega
          rw [List.take_length] at hown hsN
          obtain ⟨A', cap', hA, ha, hfr, hcp⟩ := own_at hown
          cases hA
          rw [List.take_length]
          go_wp2_with fail
          go_ret2
          rw [HR.out, sprV_ok HM.out (by omega)]
          exact ⟨_, _, rfl, hcp, hfr, ha, hb⟩
  · have hmf : mayP none r = false := by simpa using hmay
    rw [hmf]
    have HM := Lib.hid hmf
    clear hmay hmf
    go_wp2_with fail
    go_ret2
    rw [HR.out, sprV_may HM.out]
    exact lstEnd_nil hb1
end Go.Proofs.Ytacnbgfddidfiaa
