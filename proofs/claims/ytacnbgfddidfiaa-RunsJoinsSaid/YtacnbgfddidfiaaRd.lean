/-
  delta's Sums, the document's Sums and Deltas.
-/
import Derived.Test.YtacnbgfddidfiaaRc
namespace Go.Proofs.Ytacnbgfddidfiaa
open Go.RowKit
open Pk
set_option maxRecDepth 100000

theorem own_snocI {w : World} {base : Nat} {v : Value} {xs : List Int} {x : Int} (h : w.ownsRow base 3 1 v (xs.length + 1) (ivs xs ++ [.int .i64 x])) : w.ownsRow base 3 1 v (xs ++ [x]).length (ivs (xs ++ [x])) := by
  rw [List.length_append]; simpa [ivs] using h
theorem below_ownI {B : Nat} {w w1 w2 : World} {v : Value} {o : Obj} {e : TypeId} {size n : Nat} {xs : List Value} (hb : Below B w w1) (hB : B ≤ w1.heap.size) (hown : w1.ownsRow B e size v n xs) (hg : (w1.alloc o).grownBy w2 v.ownBlock) : Below B w w2 :=
  (hb.alloc hB o).grown hg (by simp; omega) (fun k hk => (hown.lt k hk).1)

set_option maxHeartbeats 2000000 in
theorem sums_c (A : Option Addr) (cap : Nat) (xs : List Int) (hx : xs.length ≤ 100000) (w : World) (hc : At w w.heap.size A (ivs xs)) :
    Calls Try.prog 17 #[.slice A xs.length cap] w fun e w' => ∃ A' cap', e = .returned (.slice A' xs.length cap') ∧ xs.length ≤ cap' ∧ Fresh w.heap.size A' ∧ At w' w'.heap.size A' (ivs (sm 0 xs)) ∧ Below w.heap.size w w' := by
  obtain ⟨i0, hi, hz0, hz1, hz2⟩ := info_parts Try.info3
  have HC := Lib.hid hc
  clear hc
  have hbx : i0.bytes * xs.length ≤ 281474976710656 := by rw [hz2]; omega
  have hmx : xs.length ≤ maxLen := by unfold maxLen; omega
  go_enter Try.func17, Try.ntmps17
  go_wp2_with (at_make; refine wpList_make_own _ rfl _ _ 22 rfl w.heap.size 3 i0 (.int .i64 0) 1 Try.underlying22 hi hz0 hz1 .i64 .i64 _ xs.length rfl rfl rfl hbx hmx (Nat.le_refl _) ?_; intro w1 hown1 hgrow1)
  have hb1 : Below w.heap.size w w1 := (Below.refl _ w).grown hgrow1 (Nat.le_refl _) (fun k e => by cases e)
  clear hbx hmx hgrow1
  go_loopw [3, 4, 12] (fun v a i wr => ∃ (k : Nat) (acc : Int) (out : List Int), i = .int .i64 (k : Int) ∧ a = .int .i64 acc ∧ k ≤ xs.length ∧ out.length = k ∧ out ++ sm acc (xs.drop k) = sm 0 xs ∧ wr.ownsRow w.heap.size 3 1 v out.length (ivs out) ∧ Below w.heap.size w wr)
    (fun _ _ i _ => xs.length - (intOf i).toNat)
  case atStart => exact ⟨0, 0, [], rfl, rfl, Nat.zero_le _, rfl, rfl, hown1, hb1⟩
  case round =>
    clear hown1 hb1
    obtain ⟨k, acc, out, rfl, rfl, hk, hol, heq, hown, hb⟩ := hrel
    have HE := Lib.hid heq
    have HOL := Lib.hid hol
    have hb0 := hb.size
    have hle : out.length ≤ 100000 := by omega
    clear heq hol
    by_cases hlt : k < xs.length
    · obtain ⟨x, hxk⟩ := some_at hlt
      obtain ⟨b, off, rfl, hbl, hcell⟩ := (HC.out.below hb) k _ (ivs_at hxk)
      have HX := Lib.hid hxk
      clear hxk
      go_wp2_with (at_builtin; refine wpList_append_own _ rfl _ _ 22 rfl w.heap.size 3 i0 (.int .i64 0) 1 8 Try.underlying22 hi hz0 hz1 hz2 rfl (by decide) _ _ _ rfl (hown.alloc _) ⟨wr.heap.size, 0, none⟩ 1 1 [.int .i64 (wrap64 (acc + x))] rfl rfl (cell_one_new _ _ _) (by simp [Value.oneCell']) (by unfold maxLen; omega) (by omega) (by simp; omega) ?_; intro v' w2 hown' hgrow _)
      have hb2 := below_ownI hb hb0 hown hgrow
      have ho2 := own_snocI hown'
      clear hown hown' hgrow hb
      go_wp2
      go_roundw
      case rel => exact ⟨k + 1, wrap64 (acc + x), out ++ [wrap64 (acc + x)], by go_num, rfl, by omega, by simp [HOL.out], by rw [← HE.out, drop_at_cons HX.out]; simp [sm, w64, wrap64], ho2, hb2⟩
      case measure => simp only [intOf]; omega
    · obtain rfl : k = xs.length := by omega
      obtain ⟨A', cap', rfl, ha, hfr, hcp⟩ := own_at hown
      have hfin : out = sm 0 xs := by rw [← HE.out, List.drop_length]; simp [sm]
      rw [HOL.out]
      go_wp2
      go_ret
      rw [← hfin]
      exact ⟨_, _, rfl, by have := HOL.out; omega, hfr, ha, hb⟩

theorem wrap_w64 (x : Int) : wrap64 x = w64 x := by unfold wrap64 w64; rfl
/-- a sum on the unsigned side -/
theorem usum (acc : Nat) (x : Int) : ∃ u : Nat, u < 18446744073709551616 ∧ IntKind.u64.wrap ((acc : Int) + IntKind.u64.wrap x) = (u : Int) ∧ w64 (u : Int) = w64 (w64 (acc : Int) + x) := by
  refine ⟨(((acc : Int) + x % 18446744073709551616) % 18446744073709551616).toNat, by omega, by rw [IntKind.wrap_u64, IntKind.wrap_u64]; omega, ?_⟩
  unfold w64
  omega

set_option maxHeartbeats 2000000 in
theorem rsums_c (A : Option Addr) (cap : Nat) (xs : List Int) (hx : xs.length ≤ 100000) (hxi : Ints xs) (w : World) (hc : At w w.heap.size A (ivs xs)) :
    Calls Try.prog 18 #[.slice A xs.length cap] w fun e w' => ∃ A' cap', e = .returned (.slice A' xs.length cap') ∧ xs.length ≤ cap' ∧ Fresh w.heap.size A' ∧ At w' w'.heap.size A' (ivs (sm 0 xs)) ∧ Below w.heap.size w w' := by
  obtain ⟨i0, hi, hz0, hz1, hz2⟩ := info_parts Try.info3
  have HC := Lib.hid hc
  have HI := Lib.hid hxi
  clear hc hxi
  go_enter Try.func18, Try.ntmps18
  go_wp2
  go_loopw [3, 4, 5] (fun v a i wr => ∃ (k : Nat) (acc : Nat) (out : List Int), i = .int .i64 (k : Int) ∧ a = .int .u64 (acc : Int) ∧ acc < 18446744073709551616 ∧ k ≤ xs.length ∧ out.length = k ∧ out ++ sm (w64 acc) (xs.drop k) = sm 0 xs ∧ wr.ownsRow w.heap.size 3 1 v out.length (ivs out) ∧ Below w.heap.size w wr)
    (fun _ _ i _ => xs.length - (intOf i).toNat)
  case atStart => exact ⟨0, 0, [], rfl, rfl, by omega, Nat.zero_le _, rfl, rfl, World.ownsRow_nil _ _ _ _, Below.refl _ _⟩
  case round =>
    obtain ⟨k, acc, out, rfl, rfl, hacc, hk, hol, heq, hown, hb⟩ := hrel
    have HE := Lib.hid heq
    have HOL := Lib.hid hol
    have hb0 := hb.size
    have hle : out.length ≤ 100000 := by omega
    clear heq hol
    by_cases hlt : k < xs.length
    · obtain ⟨x, hxk⟩ := some_at hlt
      obtain ⟨b, off, rfl, hbl, hcell⟩ := (HC.out.below hb) k _ (ivs_at hxk)
      have HX := Lib.hid hxk
      have hx64 := HI.out x (mem_at hxk)
      unfold In64 at hx64
      obtain ⟨hx1, hx2⟩ := hx64
      clear hxk hx1 hx2
      obtain ⟨u, hu, hw1, hw2⟩ := usum acc x
      have hw3 := wrap_w64 (u : Int)
      have HW := Lib.hid hw2
      clear hw2
      go_wp2_with (at_builtin; refine wpList_append_own _ rfl _ _ 22 rfl w.heap.size 3 i0 (.int .i64 0) 1 8 Try.underlying22 hi hz0 hz1 hz2 rfl (by decide) _ _ _ rfl (hown.alloc _) ⟨wr.heap.size, 0, none⟩ 1 1 [.int .i64 (w64 (u : Int))] rfl rfl (cell_one_new _ _ _) (by simp [Value.oneCell']) (by unfold maxLen; omega) (by omega) (by simp; omega) ?_; intro v' w2 hown' hgrow _)
      have hb2 := below_ownI hb hb0 hown hgrow
      have ho2 := own_snocI hown'
      clear hown hown' hgrow hb hw1 hw3
      go_wp2
      go_roundw
      case rel => exact ⟨k + 1, u, out ++ [w64 (u : Int)], by go_num, rfl, hu, by omega, by simp [HOL.out], by rw [← HE.out, drop_at_cons HX.out]; simp [sm, HW.out], ho2, hb2⟩
      case measure => simp only [intOf]; omega
    · obtain rfl : k = xs.length := by omega
      obtain ⟨A', cap', rfl, ha, hfr, hcp⟩ := own_at hown
      have hfin : out = sm 0 xs := by rw [← HE.out, List.drop_length]; simp [sm]
      rw [HOL.out]
      go_wp2
      go_ret
      rw [← hfin]
      exact ⟨_, _, rfl, by have := HOL.out; omega, hfr, ha, hb⟩
end Go.Proofs.Ytacnbgfddidfiaa
