/-
 Contracts of Fixed, Zig, Zag.
-/
import Derived.Test.YtojhenpaeedimaaBb
namespace Go.Proofs.Ytojhenpaeedimaa
open Go.RowKit
open Pk
set_option maxRecDepth 100000
theorem fixed_c (n : Nat) (_hn : n < 18446744073709551616) (w : World) :
  Calls Try.prog 21 #[.int .u64 (n : Int)] w fun e w' => e = .returned (.string (ba (fixed 8 n))) ∧ Below w.heap.size w w' := by
 go_enter Try.func21, Try.ntmps21
 go_wp2
 go_loopw [4, 5] (fun _ i wr => ∃ (k : Nat) (l : List UInt8), i = .int .i64 (k : Int) ∧ k ≤ 8 ∧ l.length = 8 ∧ l.take k = fixed k n ∧ Is wr w.heap.size 76 (bcs l) ∧ Below w.heap.size w wr)
  (fun _ i _ => 8 - (Go.RowKit.intOf i).toNat)
 case atStart => exact ⟨0, List.replicate 8 0, rfl, by omega, rfl, rfl, is_new w 76 (bcs (List.replicate 8 0)), (Below.refl _ _).alloc (Nat.le_refl _) _⟩
 case round =>
  obtain ⟨k, l, rfl, hk, hl, ht, his, hb⟩ := hrel
  have HL := Lib.hid hl
  have HT := Lib.hid ht
  clear hl ht
  have hb0 := hb.size
  by_cases hlt : k < 8
  ·obtain ⟨c, hc⟩ := is_at his (i := k) (by rw [bcs_len, HL.out]; exact hlt)
   have f0 := is_free his k
   obtain ⟨b, hbe⟩ : ∃ b : UInt8, b = UInt8.ofNat (n / 256 ^ k % 256) := ⟨_, rfl⟩
   have hcv := shr8 n k b hbe
   have HBE := Lib.hid hbe
   clear hbe
   go_wp2
   go_roundw
   case rel =>
    refine ⟨k + 1, l.set k b, by go_num, by omega, by simp [HL.out], ?_, ?_, hb.setCell (Nat.le_refl _) _⟩
    ·rw [take_set_succ l k b (by rw [HL.out]; exact hlt), HT.out, fixed_snoc, HBE.out]
    ·have := is_set his k (bc b)
     unfold bcs at this ⊢
     rw [List.map_set]
     exact this
   case measure => simp [Go.RowKit.intOf]; omega
  ·obtain rfl : k = 8 := by omega
   have e8 : fixed 8 n = l := by rw [← HT.out, List.take_of_length_le (by rw [HL.out]; omega)]
   have hcv := run_convert_bytes_back (P := Try.prog) wr 42 9 5 ⟨w.heap.size, 0, none⟩ 8 l Try.underlying42 Try.underlying5 Try.underlying9 (fun j hj => by
    rw [add_head, is_cell his j]
    simp [bcs, bc, hj])
   rw [HL.out] at hcv
   have HE := Lib.hid e8
   clear e8 his
   go_wp2
   go_ret
   exact ⟨ret_str (by rw [HE.out]; rfl), hb⟩
theorem rFixed_c (n : Nat) (_hn : n < 18446744073709551616) (w : World) :
  Calls Try.prog 26 #[.int .u64 (n : Int)] w fun e w' => e = .returned (.string (ba (fixed 8 n))) ∧ Below w.heap.size w w' := by
 obtain ⟨i0, hi, hz0, hz1, hz2⟩ := info_parts Try.info5
 go_enter Try.func26, Try.ntmps26
 go_wp2
 go_loopw [0, 3, 4] (fun m v i wr => ∃ (k u : Nat) (xs : List UInt8), m = .int .u64 (u : Int) ∧ i = .int .i64 (k : Int) ∧ k ≤ 8 ∧ u ≤ n ∧ wr.ownsRow w.heap.size 5 1 v xs.length (bcs xs) ∧ xs.length = k ∧ xs ++ fixed (8 - k) u = fixed 8 n ∧ Below w.heap.size w wr)
  (fun _ _ i _ => 8 - (Go.RowKit.intOf i).toNat)
 case atStart => exact ⟨0, n, [], rfl, rfl, by omega, Nat.le_refl _, own_empty w, rfl, rfl, (Below.refl _ _).alloc (Nat.le_refl _) _⟩
 case round =>
  obtain ⟨k, u, xs, rfl, rfl, hk, hu, hown, hlen, hput, hb⟩ := hrel
  have hb0 := hb.size
  have HP := Lib.hid hput
  have HL := Lib.hid hlen
  have hxl : xs.length ≤ 8 := by omega
  clear hput hlen
  by_cases hlt : k < 8
  ·obtain ⟨b, hbe⟩ : ∃ b : UInt8, b = UInt8.ofNat (u % 256) := ⟨_, rfl⟩
   have hcv := mod256 u b hbe
   have HBE := Lib.hid hbe
   clear hbe
   go_wp2_with (at_builtin; refine wpList_append_own _ rfl (.tmp 10) (.tmp 14) 42 rfl w.heap.size 5 i0 (.int .u8 0) 1 1 Try.underlying42 hi hz0 hz1 hz2 rfl (by decide) _ _ _ rfl (hown.alloc _) ⟨wr.heap.size, 0, none⟩ 1 1 [bc b] rfl rfl (cell_one _ _ _) (one_cell b) ?c3 ?c4 ?c5 ?_)
   case c3 => unfold maxLen; omega
   case c4 => omega
   case c5 => simp; omega
   intro v' w1 hown' hgrow _
   have hb1 := below_grown_own hb hb0 hown hgrow
   have ho1 := own_snoc hown'
   have e1 : (xs ++ [b]) ++ fixed (8 - (k + 1)) (u / 256) = fixed 8 n := by
    rw [← HP.out, show 8 - k = (8 - (k + 1)) + 1 by omega, fixed, HBE.out, List.append_assoc]; rfl
   have HE := Lib.hid e1
   clear hcv hown hown' hgrow e1 hb
   go_wp2
   go_roundw
   case rel => exact ⟨k + 1, u / 256, xs ++ [b], by go_num, by go_num, by omega, by omega, ho1, by rw [List.length_append, HL.out]; rfl, HE.out, hb1⟩
   case measure => simp [Go.RowKit.intOf]; omega
  ·obtain rfl : k = 8 := by omega
   have hstr := run_own_string hown
   have e8 : fixed 8 n = xs := by rw [← HP.out]; simp [fixed]
   have HE := Lib.hid e8
   clear e8 hown
   go_wp2
   go_ret
   exact ⟨ret_str (by rw [HE.out]), hb⟩
end Go.Proofs.Ytojhenpaeedimaa
