/-
  Contracts of Put.
-/
import Derived.Test.YtcbkggjphoeceaaBa
namespace Go.Proofs.Ytcbkggjphoeceaa
open Go.RowKit
open Pk
set_option maxRecDepth 100000

theorem put_c (n : Nat) (hn : n < 18446744073709551616) (w : World) :
    Calls Try.prog 37 #[.int .u64 (n : Int)] w fun e w' => e = .returned (.string (ba (put n))) ∧ Below w.heap.size w w' := by
  obtain ⟨i0, hi, hz0, hz1, hz2⟩ := info_parts Try.info5
  have hlen := put_len10 hn
  go_enter Try.func37, Try.ntmps37
  go_wp2
  go_loopw [0, 3] (fun m v wr => ∃ (k : Nat) (xs : List UInt8), m = .int .u64 (k : Int) ∧ k ≤ n ∧ wr.ownsRow w.heap.size 5 1 v xs.length (bcs xs) ∧ xs ++ put k = put n ∧ Below w.heap.size w wr)
    (fun m _ _ => (intOf m).toNat)
  case atStart => exact ⟨n, [], rfl, Nat.le_refl _, World.ownsRow_nil _ _ _ _, rfl, Below.refl _ _⟩
  case round =>
    obtain ⟨k, xs, rfl, hk, hown, hput, hb⟩ := hrel
    have hb0 := hb.size
    have hx := congrArg List.length hput
    rw [List.length_append] at hx
    have hx1 := put_len_pos k
    have HP := Lib.hid hput
    have hxl : xs.length ≤ 10 := by omega
    clear hput hx hx1 hlen
    by_cases hlt : k < 128
    · obtain ⟨b, rfl⟩ : ∃ b : UInt8, k = b.toNat := ⟨UInt8.ofNat k, (ofNat_toNat_lt (by omega)).symm⟩
      go_wp2_with (at_builtin; refine wpList_append_own _ rfl (.tmp 14) (.tmp 17) 42 rfl w.heap.size 5 i0 (.int .u8 0) 1 1 Try.underlying42 hi hz0 hz1 hz2 rfl (by decide) _ _ _ rfl (hown.alloc _) ⟨wr.heap.size, 0, none⟩ 1 1 [bc b] rfl rfl (cell_one _ _ _) (one_cell b) ?c3 ?c4 ?c5 ?_)
      case c3 => unfold maxLen; omega
      case c4 => omega
      case c5 => simp; omega
      intro v' w1 hown' hgrow _
      have hb1 := below_grown_own hb hb0 hown hgrow
      have hstr := run_own_string (own_snoc hown')
      have e1 : put n = xs ++ [b] := by rw [← HP.out, put_byte hlt]
      have HE := Lib.hid e1
      clear hown hown' hgrow e1 hb
      go_wp2
      go_ret
      exact ⟨ret_str (by rw [HE.out]), hb1⟩
    · obtain ⟨b, hbe⟩ : ∃ b : UInt8, b = UInt8.ofNat (k % 128 + 128) := ⟨_, rfl⟩
      have hcv := or128 k b hbe
      have HBE := Lib.hid hbe
      clear hbe
      go_wp2_with (at_builtin; refine wpList_append_own _ rfl (.tmp 6) (.tmp 10) 42 rfl w.heap.size 5 i0 (.int .u8 0) 1 1 Try.underlying42 hi hz0 hz1 hz2 rfl (by decide) _ _ _ rfl (hown.alloc _) ⟨wr.heap.size, 0, none⟩ 1 1 [bc b] rfl rfl (cell_one _ _ _) (one_cell b) ?c3 ?c4 ?c5 ?_)
      case c3 => unfold maxLen; omega
      case c4 => omega
      case c5 => simp; omega
      intro v' w1 hown' hgrow _
      have hb1 := below_grown_own hb hb0 hown hgrow
      have ho1 := own_snoc hown'
      have e1 : (xs ++ [b]) ++ put (k / 128) = put n := by rw [← HP.out, put_hi (n := k) (by omega), HBE.out, List.append_assoc]; rfl
      have HE := Lib.hid e1
      clear hcv hown hown' hgrow e1 hb
      go_wp2
      go_roundw
      case rel => exact ⟨k / 128, xs ++ [b], by go_num, by omega, ho1, HE.out, hb1⟩
      case measure => simp [intOf]; omega


theorem rPut_c (n : Nat) (hn : n < 18446744073709551616) (w : World) :
    Calls Try.prog 26 #[.int .u64 (n : Int)] w fun e w' => e = .returned (.string (ba (put n))) ∧ Below w.heap.size w w' := by
  obtain ⟨i0, hi, hz0, hz1, hz2⟩ := info_parts Try.info5
  have hlen := put_len10 hn
  go_enter Try.func26, Try.ntmps26
  go_wp2
  go_loopw [0, 3] (fun m v wr => ∃ (k : Nat) (xs : List UInt8), m = .int .u64 (k : Int) ∧ k ≤ n ∧ wr.ownsRow w.heap.size 5 1 v xs.length (bcs xs) ∧ xs ++ put k = put n ∧ Below w.heap.size w wr)
    (fun m _ _ => (intOf m).toNat)
  case atStart => exact ⟨n, [], rfl, Nat.le_refl _, own_empty w, rfl, (Below.refl _ _).alloc (Nat.le_refl _) _⟩
  case round =>
    obtain ⟨k, xs, rfl, hk, hown, hput, hb⟩ := hrel
    have hb0 := hb.size
    have hx := congrArg List.length hput
    rw [List.length_append] at hx
    have hx1 := put_len_pos k
    have HP := Lib.hid hput
    have hxl : xs.length ≤ 10 := by omega
    clear hput hx hx1 hlen
    by_cases hlt : k < 128
    · obtain ⟨b, rfl⟩ : ∃ b : UInt8, k = b.toNat := ⟨UInt8.ofNat k, (ofNat_toNat_lt (by omega)).symm⟩
      go_wp2_with (at_builtin; refine wpList_append_own _ rfl (.tmp 16) (.tmp 19) 42 rfl w.heap.size 5 i0 (.int .u8 0) 1 1 Try.underlying42 hi hz0 hz1 hz2 rfl (by decide) _ _ _ rfl (hown.alloc _) ⟨wr.heap.size, 0, none⟩ 1 1 [bc b] rfl rfl (cell_one _ _ _) (one_cell b) ?c3 ?c4 ?c5 ?_)
      case c3 => unfold maxLen; omega
      case c4 => omega
      case c5 => simp; omega
      intro v' w1 hown' hgrow _
      have hb1 := below_grown_own hb hb0 hown hgrow
      have hstr := run_own_string (own_snoc hown')
      have e1 : put n = xs ++ [b] := by rw [← HP.out, put_byte hlt]
      have HE := Lib.hid e1
      clear hown hown' hgrow e1 hb
      go_wp2
      go_ret
      exact ⟨ret_str (by rw [HE.out]), hb1⟩
    · obtain ⟨b, hbe⟩ : ∃ b : UInt8, b = UInt8.ofNat (k % 128 + 128) := ⟨_, rfl⟩
      have hcv := plus128 k b hbe
      have HBE := Lib.hid hbe
      clear hbe
      go_wp2_with (at_builtin; refine wpList_append_own _ rfl (.tmp 7) (.tmp 12) 42 rfl w.heap.size 5 i0 (.int .u8 0) 1 1 Try.underlying42 hi hz0 hz1 hz2 rfl (by decide) _ _ _ rfl (hown.alloc _) ⟨wr.heap.size, 0, none⟩ 1 1 [bc b] rfl rfl (cell_one _ _ _) (one_cell b) ?c3 ?c4 ?c5 ?_)
      case c3 => unfold maxLen; omega
      case c4 => omega
      case c5 => simp; omega
      intro v' w1 hown' hgrow _
      have hb1 := below_grown_own hb hb0 hown hgrow
      have ho1 := own_snoc hown'
      have e1 : (xs ++ [b]) ++ put (k / 128) = put n := by rw [← HP.out, put_hi (n := k) (by omega), HBE.out, List.append_assoc]; rfl
      have HE := Lib.hid e1
      clear hcv hown hown' hgrow e1 hb
      go_wp2
      go_roundw
      case rel => exact ⟨k / 128, xs ++ [b], by go_num, by omega, ho1, HE.out, hb1⟩
      case measure => simp [intOf]; omega

end Go.Proofs.Ytcbkggjphoeceaa

namespace Go.Proofs.Ytcbkggjphoeceaa
open Go.RowKit
open Pk
set_option maxRecDepth 100000

end Go.Proofs.Ytcbkggjphoeceaa
