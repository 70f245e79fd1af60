/-
  Contracts of Zeros and Combine, and of what the document gives for answers (live).
-/
import Derived.Test.YtjjbiepmfngipaaKd
namespace Go.Proofs.Ytjjbiepmfngipaa
open Go.RowKit
open Cr
set_option maxRecDepth 100000

theorem i64_and1 (n : Int) : bits .and .i64 n 1 = n % 2 := by
  have h1 : (BitVec.ofInt 64 1).toNat = 2 ^ 1 - 1 := by decide
  have key : (BitVec.ofInt 64 n &&& BitVec.ofInt 64 1).toNat = (n % ((2 ^ 64 : Nat) : Int)).toNat % 2 ^ 1 := by
    rw [BitVec.toNat_and, BitVec.toNat_ofInt, h1, Nat.and_two_pow_sub_one_eq_mod]
  show IntKind.i64.wrap ((BitVec.ofInt 64 n &&& BitVec.ofInt 64 1).toNat : Nat) = n % 2
  rw [key, IntKind.wrap_i64]
  omega

theorem is_new_row (w : World) (B : Nat) (cs : Array Value) (t : TypeId) {l : List Value} {v : Array Value} (h : v = l.toArray) : Is ((w.setRow B cs).alloc (.cells v t)) w.heap.size t l := by
  have := is_new (w.setRow B cs) t l
  rwa [size_setRow, ← h] at this
theorem below_alloc_row {b g : Nat} {w0 w : World} (hb : Below b w0 w) (hg : b ≤ g) (hs : b ≤ w.heap.size) (cs : Array Value) (o : Obj) : Below b w0 ((w.setRow g cs).alloc o) :=
  (below_setRowT hb hg cs).alloc (by rw [size_setRow]; exact hs) o
theorem noughts_l : (#[.int .u32 0, .int .u32 0, .int .u32 0, .int .u32 0, .int .u32 0, .int .u32 0, .int .u32 0, .int .u32 0, .int .u32 0, .int .u32 0, .int .u32 0, .int .u32 0, .int .u32 0, .int .u32 0, .int .u32 0, .int .u32 0, .int .u32 0, .int .u32 0, .int .u32 0, .int .u32 0, .int .u32 0, .int .u32 0, .int .u32 0, .int .u32 0, .int .u32 0, .int .u32 0, .int .u32 0, .int .u32 0, .int .u32 0, .int .u32 0, .int .u32 0, .int .u32 0] : Array Value) = (tvs noughts).toArray := rfl

set_option maxHeartbeats 1000000 in
theorem zeros_c (c : Nat) (n : Int) (hc : c < 4294967296) (hn : n ≤ 9223372036854775807) (w : World) :
    Calls Try.prog 28 #[.int .u32 (c : Int), .int .i64 n] w fun e w' => e = .returned (.int .u32 (zr n.toNat c : Nat)) ∧ Below w.heap.size w w' := by
  go_enter Try.func28, Try.ntmps28
  go_wp2_with fail
  refine (zero_c _).mono ?_
  rintro e w1 ⟨rfl, hb1⟩
  go_wp2_with (refine store_tb rfl (.tmp 5) (.tmp 6) rfl rfl w1.heap.size (tb 1) noughts (tb_len _) noughts_len rfl rfl (heap_alloc_new _ _) ?_)
  go_loopw [0, 1, 5] (fun x i p wr => ∃ (m : Int) (k y B : Nat), i = .int .i64 m ∧ m ≤ 9223372036854775807 ∧ x = .int .u32 (y : Int) ∧ y < 4294967296 ∧ p = .pointer (some ⟨B, 0, none⟩) ∧ Is wr B 74 (tvs (tb k)) ∧ w.heap.size ≤ B ∧ Below w.heap.size w wr ∧ zr (k * m.toNat) y = zr n.toNat c) (fun _ i _ _ => (intOf i).toNat)
  case atStart =>
    refine ⟨n, 1, c, w1.heap.size, rfl, hn, rfl, hc, rfl, setRow_heap _ _ _ _ _ _ (heap_alloc_new _ _), hb1.size, below_setRowT (hb1.alloc hb1.size _) hb1.size _, by rw [Nat.one_mul]⟩
  case round =>
    obtain ⟨m, k, y, B, rfl, hm, rfl, hy, rfl, hi, hB, hb, hrun⟩ := hrel
    by_cases hlt : 0 < m
    · obtain ⟨q, rfl⟩ : ∃ q : Nat, m = (q : Int) := ⟨m.toNat, by omega⟩
      rw [Int.toNat_natCast, ← zr_half] at hrun
      have H := Lib.hid hrun
      clear hrun
      have hsz := hb.size
      have hand := i64_and1 (q : Int)
      by_cases ho : q % 2 = 1
      · have ht : ((q : Int) % 2 == 1) = true := by rw [beq_iff_eq]; omega
        go_wp2_with (refine load_tb rfl (.tmp 5) rfl B (tb k) (tb_len _) rfl hi ?_)
        refine (tstep_c k y hy _).mono ?_
        rintro e w2 ⟨rfl, hb2⟩
        have hi2 := is_other hi hb2 (Nat.le_refl _)
        go_wp2_with (refine load_tb rfl (.tmp 5) rfl B (tb k) (tb_len _) rfl hi2 ?_)
        refine (squared_c k _).mono ?_
        rintro e w3 ⟨rfl, hb3⟩
        have hi3 := is_other hi2 hb3 (Nat.le_refl _)
        have hbb := (hb.trans (hb2.mono hsz)).trans (hb3.mono (Nat.le_trans hsz hb2.size))
        go_wp2_with (first | refine store_tb rfl (.tmp 5) (.tmp 18) rfl rfl B (tb (2 * k)) (tb k) (tb_len _) (tb_len _) rfl rfl hi3 ?_ | refine load_tb rfl (.tmp 5) rfl B (tb (2 * k)) (tb_len _) rfl (is_row hi3) ?_ | refine store_tb rfl (.tmp 5) (.tmp 19) rfl rfl w3.heap.size (tb (2 * k)) noughts (tb_len _) noughts_len rfl rfl (is_new_row _ _ _ _ noughts_l) ?_)
        go_roundw
        have R1 := is_row (l := tvs (tb (2 * k))) (is_new_row w3 B (tvs (tb (2 * k))).toArray 74 noughts_l)
        have R2 := below_setRowT (below_alloc_row hbb hB hbb.size (tvs (tb (2 * k))).toArray (.cells #[.int .u32 0, .int .u32 0, .int .u32 0, .int .u32 0, .int .u32 0, .int .u32 0, .int .u32 0, .int .u32 0, .int .u32 0, .int .u32 0, .int .u32 0, .int .u32 0, .int .u32 0, .int .u32 0, .int .u32 0, .int .u32 0, .int .u32 0, .int .u32 0, .int .u32 0, .int .u32 0, .int .u32 0, .int .u32 0, .int .u32 0, .int .u32 0, .int .u32 0, .int .u32 0, .int .u32 0, .int .u32 0, .int .u32 0, .int .u32 0, .int .u32 0, .int .u32 0] 74)) hbb.size (tvs (tb (2 * k))).toArray
        case rel => exact ⟨_, 2 * k, zr k y, w3.heap.size, rfl, by omega, rfl, zr_lt hy, rfl, R1, Nat.le_trans hb.size (Nat.le_trans hb2.size hb3.size), R2, by have h := H.out; rw [if_pos ho] at h; rw [show ((q : Int) / 2).toNat = q / 2 by omega]; exact h⟩
        case measure => simp [intOf]; omega
      · have ht : ((q : Int) % 2 == 1) = false := by rw [beq_eq_false_iff_ne]; omega
        go_wp2_with (refine load_tb rfl (.tmp 5) rfl B (tb k) (tb_len _) rfl hi ?_)
        refine (squared_c k _).mono ?_
        rintro e w3 ⟨rfl, hb3⟩
        have hi3 := is_other hi hb3 (Nat.le_refl _)
        have hbb := hb.trans (hb3.mono hsz)
        go_wp2_with (first | refine store_tb rfl (.tmp 5) (.tmp 18) rfl rfl B (tb (2 * k)) (tb k) (tb_len _) (tb_len _) rfl rfl hi3 ?_ | refine load_tb rfl (.tmp 5) rfl B (tb (2 * k)) (tb_len _) rfl (is_row hi3) ?_ | refine store_tb rfl (.tmp 5) (.tmp 19) rfl rfl w3.heap.size (tb (2 * k)) noughts (tb_len _) noughts_len rfl rfl (is_new_row _ _ _ _ noughts_l) ?_)
        go_roundw
        have R1 := is_row (l := tvs (tb (2 * k))) (is_new_row w3 B (tvs (tb (2 * k))).toArray 74 noughts_l)
        have R2 := below_setRowT (below_alloc_row hbb hB hbb.size (tvs (tb (2 * k))).toArray (.cells #[.int .u32 0, .int .u32 0, .int .u32 0, .int .u32 0, .int .u32 0, .int .u32 0, .int .u32 0, .int .u32 0, .int .u32 0, .int .u32 0, .int .u32 0, .int .u32 0, .int .u32 0, .int .u32 0, .int .u32 0, .int .u32 0, .int .u32 0, .int .u32 0, .int .u32 0, .int .u32 0, .int .u32 0, .int .u32 0, .int .u32 0, .int .u32 0, .int .u32 0, .int .u32 0, .int .u32 0, .int .u32 0, .int .u32 0, .int .u32 0, .int .u32 0, .int .u32 0] 74)) hbb.size (tvs (tb (2 * k))).toArray
        case rel => exact ⟨_, 2 * k, y, w3.heap.size, rfl, by omega, rfl, hy, rfl, R1, Nat.le_trans hb.size hb3.size, R2, by have h := H.out; rw [if_neg ho] at h; rw [show ((q : Int) / 2).toNat = q / 2 by omega]; exact h⟩
        case measure => simp [intOf]; omega
    · rw [show m.toNat = 0 by omega, Nat.mul_zero] at hrun
      go_wp2
      go_ret
      exact ⟨ret_int (by rw [← hrun]; rfl), hb⟩

theorem combine_c (a b : Nat) (n : Int) (ha : a < 4294967296) (hb : b < 4294967296) (hn : n ≤ 9223372036854775807) (w : World) :
    Calls Try.prog 30 #[.int .u32 (a : Int), .int .u32 (b : Int), .int .i64 n] w fun e w' => e = .returned (.int .u32 (zr n.toNat a ^^^ b : Nat)) ∧ Below w.heap.size w w' := by
  have h1 := u32_xor_nat (zr n.toNat a) b (zr_lt ha) hb
  go_enter Try.func30, Try.ntmps30
  go_wp2_with fail
  refine (zeros_c a n ha hn _).mono ?_
  rintro e w2 ⟨rfl, hb2⟩
  go_wp2
  go_ret
  exact ⟨rfl, hb2⟩
end Go.Proofs.Ytjjbiepmfngipaa
