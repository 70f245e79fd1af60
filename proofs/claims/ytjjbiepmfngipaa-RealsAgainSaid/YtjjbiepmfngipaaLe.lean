/-
  Same, the program's (slices.EqualFunc) and the document's.
-/
import Derived.Test.YtjjbiepmfngipaaLd
namespace Go.Proofs.Ytjjbiepmfngipaa
open Go.RowKit Go.IntWalk
open Pk Fl Re
set_option maxRecDepth 100000

theorem cbs_at {l : List Nat} {k x : Nat} (h : l[k]? = some x) : (cbs l)[k]? = some (cb x) := by simp [cbs, h]
theorem eq_int {a b : Nat} (h : a = b) : (((a : Int) == (b : Int))) = true := by rw [h]; simp
theorem ne_int {a b : Nat} (h : a ≠ b) : (((a : Int) == (b : Int))) = false := by rw [beq_eq_false_iff_ne]; omega
theorem q_same {P : Program} {f : FuncId} {args : Array Value} {w : World} {n : Nat} {v : Value} (h : Calls P f args (w.drewN n) fun e w' => e = .returned v ∧ w.drewN n = w') :
    Calls P f args (w.drewN n) fun e w'' => e = .returned v ∧ ∃ m, w'' = w.drewN m := h.mono fun _ _ ⟨he, hm⟩ => ⟨he, n, hm.symm⟩

set_option maxHeartbeats 1000000 in
theorem equal_c (A1 A2 : Option Addr) (c1 c2 : Nat) (xs ys : List Nat) (hx : xs.length ≤ maxLen) (hy : ys.length ≤ maxLen) (hwx : Words xs) (hwy : Words ys) (w : World) (h1 : At w w.heap.size A1 (fvs xs)) (h2 : At w w.heap.size A2 (fvs ys)) :
    Calls Try.prog 40 #[.slice A1 xs.length c1, .slice A2 ys.length c2, .func (.func 22) #[] #[]] w fun e w' => e = .returned (.bool (decide (cbs xs = cbs ys))) ∧ Below w.heap.size w w' := by
  unfold maxLen at hx hy
  have H1 := Lib.hid h1
  have H2 := Lib.hid h2
  have HWX := Lib.hid hwx
  have HWY := Lib.hid hwy
  clear h1 h2 hwx hwy
  by_cases hl : xs.length = ys.length
  · obtain ⟨n, hn⟩ : ∃ n, n = ys.length := ⟨_, rfl⟩
    have hn1 : xs.length = n := by omega
    rw [← hn, hn1]
    rw [hn1] at hx hl
    rw [← hn] at hy hl
    have HN := Lib.hid hn
    have HN1 := Lib.hid hn1
    clear hn hn1
    go_enter Try.func40, Try.ntmps40
    go_wp2_with fail
    go_loopw [7, 8, 9, 17] (fun _ _ _ i wr => ∃ k : Nat, i = .int .i64 (k : Int) ∧ k ≤ n ∧ (cbs xs).take k = (cbs ys).take k ∧ Below w.heap.size w wr) (fun _ _ _ i _ => n - (intOf i).toNat)
    case atStart => exact ⟨0, rfl, Nat.zero_le _, rfl, Below.refl _ _⟩
    case round =>
      obtain ⟨k, rfl, hk, heq, hb⟩ := hrel
      have HEQ := Lib.hid heq
      clear heq
      by_cases hlt : k < n
      · obtain ⟨x, hxk⟩ := some_at (show k < xs.length by rw [HN1.out]; exact hlt)
        obtain ⟨y, hyk⟩ := some_at (show k < ys.length by rw [← HN.out]; exact hlt)
        obtain ⟨b1, o1, rfl, hb1, hc1⟩ := H1.out k _ (fvs_at hxk)
        obtain ⟨b2, o2, rfl, hb2, hc2⟩ := H2.out k _ (fvs_at hyk)
        have hd1 := cell_below hc1 hb hb1
        have hd2 := cell_below hc2 hb hb2
        have hx64 := words_at HWX.out hxk
        have hy64 := words_at HWY.out hyk
        have HE := Lib.hid (ext_take HEQ.out (cbs_at hxk) (cbs_at hyk))
        clear hxk hyk hc1 hc2
        by_cases hxy : cb x = cb y
        · have ht := eq_int hxy
          have HT := Lib.hid hxy
          clear hxy
          go_wp2_with fail
          refine (same_c x y hx64 hy64 _).mono ?_
          rintro e w2 ⟨rfl, hm⟩
          rw [ht]
          have hb' := hb.trans (hm.mono hb.size)
          clear hm hd1 hd2
          go_wp2_with fail
          go_roundw
          case rel => exact ⟨k + 1, by go_num, by omega, HE.out.2 HT.out, hb'⟩
          case measure => simp only [intOf]; omega
        · have ht := ne_int hxy
          have HT := Lib.hid hxy
          clear hxy
          go_wp2_with fail
          refine (same_c x y hx64 hy64 _).mono ?_
          rintro e w2 ⟨rfl, hm⟩
          rw [ht]
          have hb' := hb.trans (hm.mono hb.size)
          clear hm hd1 hd2
          go_wp2_with fail
          go_ret
          refine ⟨ret_bool ?_, hb'⟩
          have : ¬ cbs xs = cbs ys := fun e => HT.out (HE.out.1 (by rw [e]))
          simp [this]
      · obtain rfl : k = n := by omega
        go_wp2_with fail
        go_ret
        refine ⟨ret_bool ?_, hb⟩
        have h := HEQ.out
        rw [List.take_of_length_le (by rw [cbs_len, HN1.out]; exact Nat.le_refl _), List.take_of_length_le (by rw [cbs_len, ← HN.out]; exact Nat.le_refl _)] at h
        simp [h]
  · have HL := Lib.hid hl
    have hne : ((xs.length : Int) != (ys.length : Int)) = true := by rw [bne_iff_ne]; omega
    go_enter Try.func40, Try.ntmps40
    go_wp2_with fail
    go_ret
    refine ⟨ret_bool ?_, Below.refl _ _⟩
    have : ¬ cbs xs = cbs ys := fun e => HL.out (by have := congrArg List.length e; rwa [cbs_len, cbs_len] at this)
    simp [this]
theorem same9_c (A1 A2 : Option Addr) (c1 c2 : Nat) (xs ys : List Nat) (hx : xs.length ≤ maxLen) (hy : ys.length ≤ maxLen) (hwx : Words xs) (hwy : Words ys) (w : World) (h1 : At w w.heap.size A1 (fvs xs)) (h2 : At w w.heap.size A2 (fvs ys)) :
    Calls Try.prog 18 #[.slice A1 xs.length c1, .slice A2 ys.length c2] w fun e w' => e = .returned (.bool (decide (cbs xs = cbs ys))) ∧ Below w.heap.size w w' := by
  have H1 := Lib.hid h1
  have H2 := Lib.hid h2
  clear h1 h2
  go_enter Try.func18, Try.ntmps18
  go_wp2_with fail
  refine (equal_c A1 A2 c1 c2 xs ys hx hy hwx hwy _ H1.out H2.out).mono ?_
  rintro e w2 ⟨rfl, hm⟩
  go_wp2_with fail
  go_ret
  exact ⟨rfl, hm⟩

set_option maxHeartbeats 1000000 in
theorem rsame9_c (A1 A2 : Option Addr) (c1 c2 : Nat) (xs ys : List Nat) (hx : xs.length ≤ maxLen) (hy : ys.length ≤ maxLen) (hwx : Words xs) (hwy : Words ys) (w : World) (h1 : At w w.heap.size A1 (fvs xs)) (h2 : At w w.heap.size A2 (fvs ys)) :
    Calls Try.prog 19 #[.slice A1 xs.length c1, .slice A2 ys.length c2] w fun e w' => e = .returned (.bool (decide (cbs xs = cbs ys))) ∧ ∃ q, w' = w.drewN q := by
  unfold maxLen at hx hy
  have H1 := Lib.hid h1
  have H2 := Lib.hid h2
  have HWX := Lib.hid hwx
  have HWY := Lib.hid hwy
  clear h1 h2 hwx hwy
  by_cases hl : xs.length = ys.length
  · obtain ⟨n, hn⟩ : ∃ n, n = ys.length := ⟨_, rfl⟩
    have hn1 : xs.length = n := by omega
    rw [← hn, hn1]
    rw [hn1] at hx hl
    rw [← hn] at hy hl
    have HN := Lib.hid hn
    have HN1 := Lib.hid hn1
    clear hn hn1
    go_enter Try.func19, Try.ntmps19
    go_wp2_with fail
    go_loopw [5] (fun i wr => ∃ k : Nat, i = .int .i64 (k : Int) ∧ k ≤ n ∧ (cbs xs).take k = (cbs ys).take k ∧ ∃ q, wr = w.drewN q) (fun i _ => n - (intOf i).toNat)
    case atStart => exact ⟨0, rfl, Nat.zero_le _, rfl, 0, rfl⟩
    case round =>
      obtain ⟨k, rfl, hk, heq, hq⟩ := hrel
      have HQ := Lib.hid hq
      clear hq
      have HEQ := Lib.hid heq
      clear heq
      by_cases hlt : k < n
      · obtain ⟨x, hxk⟩ := some_at (show k < xs.length by rw [HN1.out]; exact hlt)
        obtain ⟨y, hyk⟩ := some_at (show k < ys.length by rw [← HN.out]; exact hlt)
        obtain ⟨b1, o1, rfl, _, hc1⟩ := (at_drewE H1.out HQ.out) k _ (fvs_at hxk)
        obtain ⟨b2, o2, rfl, _, hc2⟩ := (at_drewE H2.out HQ.out) k _ (fvs_at hyk)
        have hx64 := words_at HWX.out hxk
        have hy64 := words_at HWY.out hyk
        have HE := Lib.hid (ext_take HEQ.out (cbs_at hxk) (cbs_at hyk))
        clear hxk hyk
        by_cases hxy : cb x = cb y
        · have ht := eq_int hxy
          have HT := Lib.hid hxy
          clear hxy
          go_wp2_with fail
          go_quiet ((go_at_call 41; exact q_same (rSame_c x y hx64 hy64 _)))
          try rw [ht]
          go_wp2_with fail
          go_roundw
          case rel => exact ⟨k + 1, by go_num, by omega, HE.out.2 HT.out, drewE HQ.out _⟩
          case measure => simp only [intOf]; omega
        · have ht := ne_int hxy
          have HT := Lib.hid hxy
          clear hxy
          go_wp2_with fail
          go_quiet ((go_at_call 41; exact q_same (rSame_c x y hx64 hy64 _)))
          try rw [ht]
          go_wp2_with fail
          go_ret
          refine ⟨ret_bool ?_, drewE HQ.out _⟩
          have : ¬ cbs xs = cbs ys := fun e => HT.out (HE.out.1 (by rw [e]))
          simp [this]
      · obtain rfl : k = n := by omega
        go_wp2_with fail
        go_ret
        refine ⟨ret_bool ?_, HQ.out⟩
        have h := HEQ.out
        rw [List.take_of_length_le (by rw [cbs_len, HN1.out]; exact Nat.le_refl _), List.take_of_length_le (by rw [cbs_len, ← HN.out]; exact Nat.le_refl _)] at h
        simp [h]
  · have HL := Lib.hid hl
    have hne : ((xs.length : Int) != (ys.length : Int)) = true := by rw [bne_iff_ne]; omega
    go_enter Try.func19, Try.ntmps19
    go_wp2_with fail
    go_ret
    refine ⟨ret_bool ?_, 0, rfl⟩
    have : ¬ cbs xs = cbs ys := fun e => HL.out (by have := congrArg List.length e; rwa [cbs_len, cbs_len] at this)
    simp [this]
end Go.Proofs.Ytjjbiepmfngipaa
