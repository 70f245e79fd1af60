/-
  May these be runs? the program's, and the document's.
-/
import Derived.Test.YtacnbgfddidfiaaQc
namespace Go.Proofs.Ytacnbgfddidfiaa
open Go.RowKit Go.IntWalk
open Pk
set_option maxRecDepth 100000
attribute [local go_sem] Oper.semAt_some

theorem run_cells {w : World} {B k : Nat} {A : Option Addr} {r : List Run} {x : Run} (h : At w B A (rvs r)) (hk : r[k]? = some x) :
    ∃ b off, A = some ⟨b, off, none⟩ ∧ b < B ∧ w.cell? ⟨b, off + k * 2, none⟩ = some (.int .u64 (x.1 : Int)) ∧ w.cell? ⟨b, off + k * 2 + 1, none⟩ = some (.int .i64 x.2) := by
  obtain ⟨h1, h2⟩ := rvs_at hk
  obtain ⟨b, off, hA, hlt, hc⟩ := h _ _ h1
  obtain ⟨b', off', hA', _, hc'⟩ := h _ _ h2
  rw [hA] at hA'
  cases hA'
  exact ⟨b, off, hA, hlt, hc, hc'⟩
/-- the number ahead of place k -/
def ahd (r : List Run) : Nat → Option Nat
  | 0 => none
  | j + 1 => r[j]?.map (·.1)
theorem may_step {r : List Run} {k v : Nat} {c : Int} (h : r[k]? = some (v, c)) : mayP (ahd r k) (r.drop k) = (decide (1 ≤ c) && !(ahd r k == some v) && mayP (ahd r (k + 1)) (r.drop (k + 1))) := by
  rw [drop_at_cons h, mayP]
  have : ahd r (k + 1) = some v := by simp [ahd, h]
  rw [this]

theorem may_low {r : List Run} {v k : Nat} {c : Int} (hm : (decide (1 ≤ c) && !(ahd r k == some v) && mayP (ahd r (k + 1)) (r.drop (k + 1))) = mayP none r) (h : c < 1) : mayP none r = false := by
  rw [← hm, decide_eq_false (by omega)]; rfl
theorem may_twice {r : List Run} {v j : Nat} {c : Int} {y : Run} (hm : (decide (1 ≤ c) && !(ahd r (j + 1) == some v) && mayP (ahd r (j + 1 + 1)) (r.drop (j + 1 + 1))) = mayP none r) (hy : r[j]? = some y) (h : y.1 = v) : mayP none r = false := by
  rw [← hm]
  simp [ahd, hy, h]
theorem may_next0 {r : List Run} {v : Nat} {c : Int} (hm : (decide (1 ≤ c) && !(ahd r 0 == some v) && mayP (ahd r (0 + 1)) (r.drop (0 + 1))) = mayP none r) (h : ¬ c < 1) : mayP (ahd r 1) (r.drop 1) = mayP none r := by
  rw [← hm, decide_eq_true (by omega)]
  simp [ahd]
theorem may_next {r : List Run} {v j : Nat} {c : Int} {y : Run} (hm : (decide (1 ≤ c) && !(ahd r (j + 1) == some v) && mayP (ahd r (j + 1 + 1)) (r.drop (j + 1 + 1))) = mayP none r) (h : ¬ c < 1) (hy : r[j]? = some y) (hne : y.1 ≠ v) : mayP (ahd r (j + 1 + 1)) (r.drop (j + 1 + 1)) = mayP none r := by
  rw [← hm, decide_eq_true (show 1 ≤ c by omega)]
  have : (ahd r (j + 1) == some v) = false := by simp [ahd, hy, hne]
  rw [this]
  rfl

set_option maxHeartbeats 4000000 in
theorem may_c (A : Option Addr) (cap : Nat) (r : List Run) (hr : r.length ≤ 100000) (w : World) (hc : At w w.heap.size A (rvs r)) :
    Calls Try.prog 35 #[.slice A r.length cap] w fun e w' => e = .returned (.bool (mayP none r)) ∧ Below w.heap.size w w' := by
  have HC := Lib.hid hc
  clear hc
  go_enter Try.func35, Try.ntmps35
  go_wp2_with fail
  go_loopw [7] (fun i wr => ∃ k : Nat, i = .int .i64 (k : Int) ∧ k ≤ r.length ∧ mayP (ahd r k) (r.drop k) = mayP none r ∧ Below w.heap.size w wr)
    (fun i _ => r.length - (intOf i).toNat)
  case atStart => exact ⟨0, rfl, Nat.zero_le _, rfl, Below.refl _ _⟩
  case round =>
    obtain ⟨k, rfl, hk, hm, hb⟩ := hrel
    have hb0 := hb.size
    by_cases hlt : k < r.length
    · obtain ⟨⟨v, c⟩, hxk⟩ := some_at hlt
      rw [may_step hxk] at hm
      have HM := Lib.hid hm
      have HX := Lib.hid hxk
      clear hm
      by_cases hc1 : c < 1
      · obtain ⟨b, off, rfl, hbl, hcv, hcc⟩ := run_cells (HC.out.below hb) hxk
        dsimp only at hcv hcc
        clear hxk
        have t1 : decide (c < 1) = true := by simp [hc1]
        go_wp2_with fail
        go_quiet (fail)
        go_wp2_with fail
        go_ret
        exact ⟨by rw [may_low HM.out hc1]; rfl, below_drewN (hb.alloc hb0 _) nq⟩
      · have t1 : decide (c < 1) = false := by simp; omega
        have HC1 := Lib.hid hc1
        clear hc1
        by_cases h0 : k = 0
        · subst h0
          obtain ⟨b, off, rfl, hbl, hcv, hcc⟩ := run_cells (HC.out.below hb) hxk
          simp only [Nat.zero_mul, Nat.add_zero] at hcv hcc
          clear hxk
          go_wp2_with fail
          go_quiet (fail)
          go_wp2_with fail
          go_roundw
          case rel => exact ⟨1, by go_num, by omega, may_next0 HM.out (by have := HC1.out; omega), below_drewN (hb.alloc hb0 _) nq⟩
          case measure => simp only [intOf]; omega
        · obtain ⟨j, rfl⟩ : ∃ j, k = j + 1 := ⟨k - 1, by omega⟩
          have hjl : j < r.length := by omega
          obtain ⟨y, hyj⟩ := some_at hjl
          obtain ⟨b, off, rfl, hbl, hcv, hcc⟩ := run_cells (HC.out.below hb) hxk
          obtain ⟨b', off', hbe, _, hcy, -⟩ := run_cells (HC.out.below hb) hyj
          cases hbe
          obtain ⟨b', off', hbe, _, hcy2, -⟩ := run_cells (HC.out.below (hb.alloc hb0 (.cells #[.int .u64 (v : Int), .int .i64 c] 51))) hyj
          cases hbe
          dsimp only at hcv hcc
          have hjs : (0 : Int) ≤ (j : Int) + 1 := by omega
          have hj1 : decide ((0 : Int) < (j : Int) + 1) = true := by simp
          have hjw : IntKind.i64.wrap (j : Int) = (j : Int) := by rw [i64_left]; exact wrap64_in _ (by omega)
          have HYJ := Lib.hid hyj
          clear hxk h0 hyj
          by_cases hyv : y.1 = v
          · have hee : (((v : Int)) == ((y.1 : Int))) = true := by rw [hyv]; simp
            go_wp2_with fail
            go_quiet (fail)
            go_wp2_with fail
            go_ret
            exact ⟨by rw [may_twice HM.out HYJ.out hyv]; rfl, below_drewN (hb.alloc hb0 _) nq⟩
          · have hee : (((v : Int)) == ((y.1 : Int))) = false := by simp; omega
            go_wp2_with fail
            go_quiet (fail)
            go_wp2_with fail
            go_roundw
            case rel => exact ⟨j + 1 + 1, by go_num, by omega, may_next HM.out (by have := HC1.out; omega) HYJ.out hyv, below_drewN (hb.alloc hb0 _) nq⟩
            case measure => simp only [intOf]; omega
    · obtain rfl : k = r.length := by omega
      rw [List.drop_length] at hm
      go_wp2_with fail
      go_ret
      exact ⟨by rw [← hm]; rfl, hb⟩

set_option maxHeartbeats 4000000 in
theorem rmay_c (A : Option Addr) (cap : Nat) (r : List Run) (hr : r.length ≤ 100000) (w : World) (hc : At w w.heap.size A (rvs r)) :
    Calls Try.prog 36 #[.slice A r.length cap] w fun e w' => e = .returned (.bool (mayP none r)) ∧ Below w.heap.size w w' := by
  have HC := Lib.hid hc
  clear hc
  go_enter Try.func36, Try.ntmps36
  go_wp2_with fail
  go_loopw [3] (fun i wr => ∃ k : Nat, i = .int .i64 (k : Int) ∧ k ≤ r.length ∧ mayP (ahd r k) (r.drop k) = mayP none r ∧ Below w.heap.size w wr)
    (fun i _ => r.length - (intOf i).toNat)
  case atStart => exact ⟨0, rfl, Nat.zero_le _, rfl, Below.refl _ _⟩
  case round =>
    obtain ⟨k, rfl, hk, hm, hb⟩ := hrel
    have hb0 := hb.size
    by_cases hlt : k < r.length
    · obtain ⟨⟨v, c⟩, hxk⟩ := some_at hlt
      rw [may_step hxk] at hm
      have HM := Lib.hid hm
      have HX := Lib.hid hxk
      clear hm
      by_cases hc1 : c < 1
      · obtain ⟨b, off, rfl, hbl, hcv, hcc⟩ := run_cells (HC.out.below hb) hxk
        dsimp only at hcv hcc
        clear hxk
        have t1 : decide (c < 1) = true := by simp [hc1]
        go_wp2_with fail
        go_quiet (fail)
        go_wp2_with fail
        go_ret
        exact ⟨by rw [may_low HM.out hc1]; rfl, below_drewN hb nq⟩
      · have t1 : decide (c < 1) = false := by simp; omega
        have HC1 := Lib.hid hc1
        clear hc1
        by_cases h0 : k = 0
        · subst h0
          obtain ⟨b, off, rfl, hbl, hcv, hcc⟩ := run_cells (HC.out.below hb) hxk
          simp only [Nat.zero_mul, Nat.add_zero] at hcv hcc
          clear hxk
          go_wp2_with fail
          go_quiet (fail)
          go_wp2_with fail
          go_roundw
          case rel => exact ⟨1, by go_num, by omega, may_next0 HM.out (by have := HC1.out; omega), below_drewN hb nq⟩
          case measure => simp only [intOf]; omega
        · obtain ⟨j, rfl⟩ : ∃ j, k = j + 1 := ⟨k - 1, by omega⟩
          have hjl : j < r.length := by omega
          obtain ⟨y, hyj⟩ := some_at hjl
          obtain ⟨b, off, rfl, hbl, hcv, hcc⟩ := run_cells (HC.out.below hb) hxk
          obtain ⟨b', off', hbe, _, hcy, -⟩ := run_cells (HC.out.below hb) hyj
          cases hbe
          dsimp only at hcv hcc
          have hjs : (0 : Int) ≤ (j : Int) + 1 := by omega
          have hj1 : decide ((0 : Int) < (j : Int) + 1) = true := by simp
          have hjw : IntKind.i64.wrap (j : Int) = (j : Int) := by rw [i64_left]; exact wrap64_in _ (by omega)
          have HYJ := Lib.hid hyj
          clear hxk h0 hyj
          by_cases hyv : y.1 = v
          · have hee : (((y.1 : Int)) == ((v : Int))) = true := by rw [hyv]; simp
            go_wp2_with fail
            go_quiet (fail)
            go_wp2_with fail
            go_ret
            exact ⟨by rw [may_twice HM.out HYJ.out hyv]; rfl, below_drewN hb nq⟩
          · have hee : (((y.1 : Int)) == ((v : Int))) = false := by simp; omega
            go_wp2_with fail
            go_quiet (fail)
            go_wp2_with fail
            go_roundw
            case rel => exact ⟨j + 1 + 1, by go_num, by omega, may_next HM.out (by have := HC1.out; omega) HYJ.out hyv, below_drewN hb nq⟩
            case measure => simp only [intOf]; omega
    · obtain rfl : k = r.length := by omega
      rw [List.drop_length] at hm
      go_wp2_with fail
      go_ret
      exact ⟨by rw [← hm]; rfl, hb⟩

end Go.Proofs.Ytacnbgfddidfiaa
