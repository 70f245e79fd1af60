/-
  Two lists of flags held against each other; how many are true.
-/
import Derived.Test.YtiehmeheilfocaaPa
namespace Go.Proofs.Ytiehmeheilfocaa
open Go.RowKit Go.IntWalk
open Pk
set_option maxRecDepth 100000
attribute [local go_sem] Oper.semAt_some

theorem same7_q (A1 A2 : Option Addr) (c1 c2 : Nat) (xs ys : List Bool) (hx : xs.length ≤ maxLen) (hy : ys.length ≤ maxLen) (w : World) (h1 : At w w.heap.size A1 (bvs xs)) (h2 : At w w.heap.size A2 (bvs ys)) :
    Calls Try.prog 23 #[.slice A1 xs.length c1, .slice A2 ys.length c2] w fun e w' => e = .returned (.bool (decide (xs = ys))) ∧ ∃ q, w' = w.drewN q := by
  unfold maxLen at hx hy
  have H1 := Lib.hid h1
  have H2 := Lib.hid h2
  clear h1 h2
  by_cases hl : xs.length = ys.length
  · obtain ⟨n, hn⟩ : ∃ n, n = ys.length := ⟨_, rfl⟩
    have hn1 : xs.length = n := by omega
    rw [← hn, hn1]
    rw [hn1] at hx hl
    rw [← hn] at hy hl
    have HN := Lib.hid hn
    have HN1 := Lib.hid hn1
    clear hn hn1
    go_enter Try.func23, Try.ntmps23
    go_wp2_with fail
    go_loopw [5] (fun i wr => ∃ k : Nat, i = .int .i64 (k : Int) ∧ k ≤ n ∧ xs.take k = ys.take k ∧ ∃ q, wr = w.drewN q) (fun i _ => n - (intOf i).toNat)
    case atStart => exact ⟨0, rfl, Nat.zero_le _, rfl, 0, rfl⟩
    case round =>
      obtain ⟨k, rfl, hk, heq, hq⟩ := hrel
      have HQ := Lib.hid hq
      clear hq
      have HEQ := Lib.hid heq
      clear heq
      by_cases hlt : k < n
      · obtain ⟨x, hxk⟩ := some_at (show k < xs.length by rw [HN1.out]; exact hlt)
        obtain ⟨y, hyk⟩ := some_at (show k < ys.length by rw [← HN.out]; exact hlt)
        obtain ⟨b1, o1, rfl, _, hc1⟩ := (at_drewE H1.out HQ.out) k _ (bvs_at hxk)
        obtain ⟨b2, o2, rfl, _, hc2⟩ := (at_drewE H2.out HQ.out) k _ (bvs_at hyk)
        have HE := Lib.hid (ext_take HEQ.out hxk hyk)
        have HX := Lib.hid hxk
        have HY := Lib.hid hyk
        clear hxk hyk
        rcases x with _ | _ <;> rcases y with _ | _
        · go_wp2_with fail
          go_quiet (fail)
          go_wp2
          refine ⟨⟨k + 1, by go_num, by omega, HE.out.2 (by first | rfl | trivial), drewE HQ.out _⟩, ?_⟩
          simp only [intOf]; omega
        · go_wp2_with fail
          go_quiet (fail)
          go_wp2
          go_ret
          refine ⟨ret_bool ?_, drewE HQ.out _⟩
          have h0 : ¬ xs = ys := fun e => (by simpa using HE.out.1 (by rw [e]))
          simp [h0]
        · go_wp2_with fail
          go_quiet (fail)
          go_wp2
          go_ret
          refine ⟨ret_bool ?_, drewE HQ.out _⟩
          have h0 : ¬ xs = ys := fun e => (by simpa using HE.out.1 (by rw [e]))
          simp [h0]
        · go_wp2_with fail
          go_quiet (fail)
          go_wp2
          refine ⟨⟨k + 1, by go_num, by omega, HE.out.2 (by first | rfl | trivial), drewE HQ.out _⟩, ?_⟩
          simp only [intOf]; omega
      · obtain rfl : k = n := by omega
        go_wp2_with fail
        go_ret
        refine ⟨ret_bool ?_, HQ.out⟩
        have h := HEQ.out
        rw [List.take_of_length_le (by rw [HN1.out]; exact Nat.le_refl _), List.take_of_length_le (by rw [← HN.out]; exact Nat.le_refl _)] at h
        simp [h]
  · have HL := Lib.hid hl
    have ht : ((xs.length : Int) != (ys.length : Int)) = true := by simp only [bne_iff_ne, ne_eq]; omega
    clear hl
    go_enter Try.func23, Try.ntmps23
    go_wp2_with fail
    go_ret
    refine ⟨ret_bool ?_, 0, rfl⟩
    have : ¬ xs = ys := fun e => HL.out (by rw [e])
    simp [this]
theorem same7_c (A1 A2 : Option Addr) (c1 c2 : Nat) (xs ys : List Bool) (hx : xs.length ≤ maxLen) (hy : ys.length ≤ maxLen) (w : World) (h1 : At w w.heap.size A1 (bvs xs)) (h2 : At w w.heap.size A2 (bvs ys)) :
    Calls Try.prog 23 #[.slice A1 xs.length c1, .slice A2 ys.length c2] w fun e w' => e = .returned (.bool (decide (xs = ys))) ∧ Below w.heap.size w w' := by
  refine (same7_q A1 A2 c1 c2 xs ys hx hy w h1 h2).mono ?_
  rintro e w' ⟨rfl, q, rfl⟩
  exact ⟨rfl, below_drewN (Below.refl _ _) q⟩

theorem same7_k {A1 A2 : Option Addr} {c1 c2 n m : Nat} (xs ys : List Bool) (hn : xs.length = n) (hm : ys.length = m) (hx : n ≤ 100000) (hy : m ≤ 100000) {w : World} (h1 : At w w.heap.size A1 (bvs xs)) (h2 : At w w.heap.size A2 (bvs ys)) :
    Calls Try.prog 23 #[.slice A1 n c1, .slice A2 m c2] w fun e w' => e = .returned (.bool (decide (xs = ys))) ∧ Below w.heap.size w w' := by
  subst hn; subst hm; exact same7_c A1 A2 c1 c2 xs ys (by unfold maxLen; omega) (by unfold maxLen; omega) w h1 h2

/-- how many are true -/
def cnt (l : List Bool) : Nat := l.count true
theorem cnt_le (l : List Bool) : cnt l ≤ l.length := List.count_le_length
theorem cnt_take {l : List Bool} {k : Nat} {x : Bool} (h : l[k]? = some x) : cnt (l.take (k + 1)) = cnt (l.take k) + (if x then 1 else 0) := by
  unfold cnt
  rw [List.take_add_one, h, List.count_append]
  cases x <;> simp

theorem count_c (A : Option Addr) (cap : Nat) (l : List Bool) (hx : l.length ≤ 100000) (w : World) (hc : At w w.heap.size A (bvs l)) :
    Calls Try.prog 21 #[.slice A l.length cap] w fun e w' => e = .returned (.int .i64 (cnt l : Int)) ∧ w' = w := by
  have HC := Lib.hid hc
  clear hc
  go_enter Try.func21, Try.ntmps21
  go_wp2_with fail
  go_loopw [3, 8] (fun c i wr => ∃ k : Nat, c = .int .i64 (cnt (l.take k) : Int) ∧ i = .int .i64 (k : Int) ∧ k ≤ l.length ∧ wr = w) (fun _ i _ => l.length - (intOf i).toNat)
  case atStart => exact ⟨0, rfl, rfl, Nat.zero_le _, rfl⟩
  case round =>
    obtain ⟨k, rfl, rfl, hk, rfl⟩ := hrel
    have hcl := cnt_le (l.take k)
    rw [List.length_take] at hcl
    by_cases hlt : k < l.length
    · obtain ⟨x, hxk⟩ := some_at hlt
      obtain ⟨b, off, rfl, _, hcell⟩ := HC.out k _ (bvs_at hxk)
      have HT := Lib.hid (cnt_take hxk)
      clear hxk
      have hc1 : cnt (l.take k) ≤ 100000 := by omega
      clear hcl
      cases x
      · go_wp2_with fail
        go_roundw
        case rel => exact ⟨k + 1, by rw [HT.out]; rfl, by go_num, by omega, trivial⟩
        case measure => simp only [intOf]; omega
      · go_wp2_with fail
        go_roundw
        case rel => exact ⟨k + 1, by rw [HT.out]; go_num, by go_num, by omega, trivial⟩
        case measure => simp only [intOf]; omega
    · obtain rfl : k = l.length := by omega
      rw [List.take_length]
      go_wp2_with fail
      go_ret
      exact ⟨rfl, rfl⟩
theorem rcount_c (A : Option Addr) (cap : Nat) (l : List Bool) (hx : l.length ≤ 100000) (w : World) (hc : At w w.heap.size A (bvs l)) :
    Calls Try.prog 22 #[.slice A l.length cap] w fun e w' => e = .returned (.int .i64 (cnt l : Int)) ∧ w' = w := by
  have HC := Lib.hid hc
  clear hc
  go_enter Try.func22, Try.ntmps22
  go_wp2_with fail
  go_loopw [3, 4] (fun c i wr => ∃ k : Nat, c = .int .i64 (cnt (l.take k) : Int) ∧ i = .int .i64 (k : Int) ∧ k ≤ l.length ∧ wr = w) (fun _ i _ => l.length - (intOf i).toNat)
  case atStart => exact ⟨0, rfl, rfl, Nat.zero_le _, rfl⟩
  case round =>
    obtain ⟨k, rfl, rfl, hk, rfl⟩ := hrel
    have hcl := cnt_le (l.take k)
    rw [List.length_take] at hcl
    by_cases hlt : k < l.length
    · obtain ⟨x, hxk⟩ := some_at hlt
      obtain ⟨b, off, rfl, _, hcell⟩ := HC.out k _ (bvs_at hxk)
      have HT := Lib.hid (cnt_take hxk)
      clear hxk
      have hc1 : cnt (l.take k) ≤ 100000 := by omega
      clear hcl
      cases x
      · go_wp2_with fail
        go_roundw
        case rel => exact ⟨k + 1, by rw [HT.out]; rfl, by go_num, by omega, trivial⟩
        case measure => simp only [intOf]; omega
      · go_wp2_with fail
        go_roundw
        case rel => exact ⟨k + 1, by rw [HT.out]; go_num, by go_num, by omega, trivial⟩
        case measure => simp only [intOf]; omega
    · obtain rfl : k = l.length := by omega
      rw [List.take_length]
      go_wp2_with fail
      go_ret
      exact ⟨rfl, rfl⟩
end Go.Proofs.Ytiehmeheilfocaa
