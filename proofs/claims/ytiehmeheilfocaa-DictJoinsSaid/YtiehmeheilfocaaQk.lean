/-
  Two lists held against each other, of numbers and of runs.
-/
import Derived.Test.YtiehmeheilfocaaQd
import Derived.Laws.StructEq
namespace Go.Proofs.Ytiehmeheilfocaa
open Go.RowKit Go.IntWalk
open Pk
set_option maxRecDepth 100000
attribute [local go_sem] Oper.semAt_some

theorem same6_q (A1 A2 : Option Addr) (c1 c2 : Nat) (xs ys : List Nat) (hx : xs.length ≤ maxLen) (hy : ys.length ≤ maxLen) (w : World) (h1 : At w w.heap.size A1 (uvs xs)) (h2 : At w w.heap.size A2 (uvs ys)) :
    Calls Try.prog 33 #[.slice A1 xs.length c1, .slice A2 ys.length c2] w fun e w' => e = .returned (.bool (decide (xs = ys))) ∧ ∃ q, w' = w.drewN q := by
  unfold maxLen at hx hy
  have H1 := Lib.hid h1
  have H2 := Lib.hid h2
  clear h1 h2
  by_cases hl : xs.length = ys.length
  · obtain ⟨n, hn⟩ : ∃ n, n = ys.length := ⟨_, rfl⟩
    have hn1 : xs.length = n := by omega
    rw [← hn, hn1]
    rw [hn1] at hx hl
    rw [← hn] at hy hl
    have HN := Lib.hid hn
    have HN1 := Lib.hid hn1
    clear hn hn1
    go_enter Try.func33, Try.ntmps33
    go_wp2_with fail
    go_loopw [5] (fun i wr => ∃ k : Nat, i = .int .i64 (k : Int) ∧ k ≤ n ∧ xs.take k = ys.take k ∧ ∃ q, wr = w.drewN q) (fun i _ => n - (intOf i).toNat)
    case atStart => exact ⟨0, rfl, Nat.zero_le _, rfl, 0, rfl⟩
    case round =>
      obtain ⟨k, rfl, hk, heq, hq⟩ := hrel
      have HQ := Lib.hid hq
      clear hq
      have HEQ := Lib.hid heq
      clear heq
      by_cases hlt : k < n
      · obtain ⟨x, hxk⟩ := some_at (show k < xs.length by rw [HN1.out]; exact hlt)
        obtain ⟨y, hyk⟩ := some_at (show k < ys.length by rw [← HN.out]; exact hlt)
        obtain ⟨b1, o1, rfl, _, hc1⟩ := (at_drewE H1.out HQ.out) k _ (uvs_at hxk)
        obtain ⟨b2, o2, rfl, _, hc2⟩ := (at_drewE H2.out HQ.out) k _ (uvs_at hyk)
        have HE := Lib.hid (ext_take HEQ.out hxk hyk)
        have HX := Lib.hid hxk
        have HY := Lib.hid hyk
        clear hxk hyk
        by_cases hxy : x = y
        · have ht : ((x : Int) != (y : Int)) = false := by simp [hxy]
          have HT := Lib.hid hxy
          clear hxy
          go_wp2_with fail
          go_quiet (fail)
          go_wp2
          go_roundw
          case rel => exact ⟨k + 1, by go_num, by omega, HE.out.2 HT.out, drewE HQ.out _⟩
          case measure => simp only [intOf]; omega
        · have ht : ((x : Int) != (y : Int)) = true := by simp; omega
          have HT := Lib.hid hxy
          clear hxy
          go_wp2_with fail
          go_quiet (fail)
          go_wp2
          go_ret
          refine ⟨ret_bool ?_, drewE HQ.out _⟩
          have : ¬ xs = ys := fun e => HT.out (HE.out.1 (by rw [e]))
          simp [this]
      · obtain rfl : k = n := by omega
        go_wp2_with fail
        go_ret
        refine ⟨ret_bool ?_, HQ.out⟩
        have h := HEQ.out
        rw [List.take_of_length_le (by rw [HN1.out]; exact Nat.le_refl _), List.take_of_length_le (by rw [← HN.out]; exact Nat.le_refl _)] at h
        simp [h]
  · have HL := Lib.hid hl
    have ht : ((xs.length : Int) != (ys.length : Int)) = true := by simp only [bne_iff_ne, ne_eq]; omega
    clear hl
    go_enter Try.func33, Try.ntmps33
    go_wp2_with fail
    go_ret
    refine ⟨ret_bool ?_, 0, rfl⟩
    have : ¬ xs = ys := fun e => HL.out (by rw [e])
    simp [this]
theorem same6_c (A1 A2 : Option Addr) (c1 c2 : Nat) (xs ys : List Nat) (hx : xs.length ≤ maxLen) (hy : ys.length ≤ maxLen) (w : World) (h1 : At w w.heap.size A1 (uvs xs)) (h2 : At w w.heap.size A2 (uvs ys)) :
    Calls Try.prog 33 #[.slice A1 xs.length c1, .slice A2 ys.length c2] w fun e w' => e = .returned (.bool (decide (xs = ys))) ∧ Below w.heap.size w w' := by
  refine (same6_q A1 A2 c1 c2 xs ys hx hy w h1 h2).mono ?_
  rintro e w' ⟨rfl, q, rfl⟩
  exact ⟨rfl, below_drewN (Below.refl _ _) q⟩

theorem run_under : Try.prog.underlying 100 = some (.struct (Try.prog.fieldsOf 100)) := by kernel_rfl
theorem run_stood : Try.prog.stoodInHeld 100 = false := by kernel_rfl
theorem run_guard : Try.prog.eqGuardType Try.prog.depth 100 = false := by kernel_rfl
def runNe (a b c d : Int) : Bool := !(a == c && b == d)
theorem neq_runs (a b c d : Int) (w : World) : (binOp .neq 100 (.agg #[.int .u64 a, .int .i64 b]) (.agg #[.int .u64 c, .int .i64 d])).run Try.prog w = .ok (.bool (runNe a b c d)) w := by
  unfold runNe
  rw [run_neq_struct, show (10000 : Nat) = 9999 + 1 from rfl, run_equalIn_agg w 9999 _ _ _ run_under run_stood]
  simp only [Program.fieldsOf, Try.underlying100]
  simp [Op.eqFields, go_sem, run_equalIn_int _ 9998 _ _ _ _ _ Try.underlying56, run_equalIn_int _ 9998 _ _ _ _ _ Try.underlying3]
  by_cases h1 : a = c <;> by_cases h2 : b = d <;> simp [h1, h2]
theorem runNe_same (x : Run) : runNe (x.1 : Int) x.2 (x.1 : Int) x.2 = false := by simp [runNe]
theorem runNe_not {x y : Run} (h : x ≠ y) : runNe (x.1 : Int) x.2 (y.1 : Int) y.2 = true := by
  simp only [runNe, Bool.not_eq_true', Bool.and_eq_false_iff, beq_eq_false_iff_ne]
  rcases Decidable.em (x.1 = y.1) with h1 | h1
  · exact .inr fun e => h (Prod.ext h1 e)
  · exact .inl (by omega)
attribute [-go_sem] run_neq_struct
attribute [local go_sem] run_guard neq_runs

end Go.Proofs.Ytiehmeheilfocaa
