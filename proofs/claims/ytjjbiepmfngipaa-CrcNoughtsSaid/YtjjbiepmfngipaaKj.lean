/-
  The walk of CrcNoughts.
-/
import Derived.Test.YtjjbiepmfngipaaKg
namespace Go.Proofs.Ytjjbiepmfngipaa
open Go.RowKit
open Cr
set_option maxRecDepth 100000

namespace crcNoughts
theorem live (c d : Nat) (n m : Int) (hn : n ≤ 9223372036854775807) (hm : m ≤ 9223372036854775807) (h : n < 0 ∨ m < 0 ∨ 1099511627776 < n ∨ 1099511627776 < m) (w : World) :
    Calls Try.prog 11 #[.agg #[.int .u32 (c : Int), .int .u32 (d : Int)], .int .i64 n, .int .i64 m] w fun e w' => e = .returned (.bool true) ∧ Below w.heap.size w w' := by
  have hb0 : Below w.heap.size w (w.alloc (.cells #[.int .u32 (c : Int), .int .u32 (d : Int)] 38)) := (Below.refl _ _).alloc (Nat.le_refl _) _
  rcases h with h | h | h | h
  · go_enter Try.func11, Try.ntmps11
    go_wp2_with fail
    refine (live10_c _).mono ?_
    rintro e w1 ⟨rfl, hb1⟩
    go_wp2
    go_ret
    exact ⟨rfl, hb0.trans (hb1.mono hb0.size)⟩
  · by_cases h1 : n < 0
    · go_enter Try.func11, Try.ntmps11
      go_wp2_with fail
      refine (live10_c _).mono ?_
      rintro e w1 ⟨rfl, hb1⟩
      go_wp2
      go_ret
      exact ⟨rfl, hb0.trans (hb1.mono hb0.size)⟩
    · go_enter Try.func11, Try.ntmps11
      go_wp2_with fail
      refine (live10_c _).mono ?_
      rintro e w1 ⟨rfl, hb1⟩
      go_wp2
      go_ret
      exact ⟨rfl, hb0.trans (hb1.mono hb0.size)⟩
  · by_cases h1 : m < 0
    · have h2 : ¬ n < 0 := by omega
      go_enter Try.func11, Try.ntmps11
      go_wp2_with fail
      refine (live10_c _).mono ?_
      rintro e w1 ⟨rfl, hb1⟩
      go_wp2
      go_ret
      exact ⟨rfl, hb0.trans (hb1.mono hb0.size)⟩
    · have h2 : ¬ n < 0 := by omega
      go_enter Try.func11, Try.ntmps11
      go_wp2_with fail
      refine (live10_c _).mono ?_
      rintro e w1 ⟨rfl, hb1⟩
      go_wp2
      go_ret
      exact ⟨rfl, hb0.trans (hb1.mono hb0.size)⟩
  · by_cases h1 : n < 0
    · go_enter Try.func11, Try.ntmps11
      go_wp2_with fail
      refine (live10_c _).mono ?_
      rintro e w1 ⟨rfl, hb1⟩
      go_wp2
      go_ret
      exact ⟨rfl, hb0.trans (hb1.mono hb0.size)⟩
    · have h3 : ¬ m < 0 := by omega
      by_cases h2 : 1099511627776 < n
      · go_enter Try.func11, Try.ntmps11
        go_wp2_with fail
        refine (live10_c _).mono ?_
        rintro e w1 ⟨rfl, hb1⟩
        go_wp2
        go_ret
        exact ⟨rfl, hb0.trans (hb1.mono hb0.size)⟩
      · go_enter Try.func11, Try.ntmps11
        go_wp2_with fail
        refine (live10_c _).mono ?_
        rintro e w1 ⟨rfl, hb1⟩
        go_wp2
        go_ret
        exact ⟨rfl, hb0.trans (hb1.mono hb0.size)⟩

set_option maxHeartbeats 4000000 in
theorem walk_in (c d : Nat) (n m : Int) (hc : c < 4294967296) (hd : d < 4294967296) (hn0 : 0 ≤ n) (hm0 : 0 ≤ m) (hn : n ≤ 1099511627776) (hm : m ≤ 1099511627776) (w : World) :
    Calls Try.prog 11 #[.agg #[.int .u32 (c : Int), .int .u32 (d : Int)], .int .i64 n, .int .i64 m] w fun e w' => e = .returned (.bool true) ∧ Below w.heap.size w w' := by
  obtain ⟨t, ht⟩ : ∃ t : Int, t = n + m := ⟨_, rfl⟩
  have hw : IntKind.i64.wrap (n + m) = t := by rw [ht, IntKind.wrap_i64]; omega
  obtain ⟨a, ha⟩ : ∃ a, a = zr n.toNat c := ⟨_, rfl⟩
  obtain ⟨b, hb⟩ : ∃ b, b = zr n.toNat d := ⟨_, rfl⟩
  have hal : a < 4294967296 := by rw [ha]; exact zr_lt hc
  have hbl : b < 4294967296 := by rw [hb]; exact zr_lt hd
  obtain ⟨x, hx⟩ : ∃ x, x = c ^^^ d := ⟨_, rfl⟩
  obtain ⟨y, hy⟩ : ∃ y, y = a ^^^ b := ⟨_, rfl⟩
  have h1 : bits .xor .u32 (a : Int) (b : Int) = (y : Int) := by rw [hy]; exact u32_xor_nat a b hal hbl
  have h2 : bits .xor .u32 (c : Int) (d : Int) = (x : Int) := by rw [hx]; exact u32_xor_nat c d hc hd
  have hcd : x < 4294967296 := by rw [hx]; exact xor_lt hc hd
  obtain ⟨p, hp1, hp2⟩ : ∃ p, ((a : Int) == 0) = p ∧ ((c : Int) == 0) = p := by
    refine ⟨_, rfl, ?_⟩
    by_cases h0 : c = 0
    · rw [ha, h0, zr_zero]
    · have : a ≠ 0 := fun k => h0 (zr_eq_zero hc (by rw [← ha]; exact k))
      rw [beq_eq_false_iff_ne.2 (by omega), beq_eq_false_iff_ne.2 (by omega)]
  obtain ⟨q, hq1, hq2⟩ : ∃ q, ((a : Int) == (b : Int)) = q ∧ ((c : Int) == (d : Int)) = q := by
    refine ⟨_, rfl, ?_⟩
    by_cases h0 : c = d
    · rw [ha, hb, h0, beq_self_eq_true, beq_self_eq_true]
    · have : a ≠ b := fun k => h0 (zr_inj hc hd (by rw [← ha, ← hb]; exact k))
      rw [beq_eq_false_iff_ne.2 (by omega), beq_eq_false_iff_ne.2 (by omega)]
  have E1 := Lib.hid (show zr m.toNat a = zr t.toNat c by rw [ha, show t.toNat = n.toNat + m.toNat by omega, zr_add])
  have E2 := Lib.hid (show zr n.toNat x = y by rw [hx, hy, ha, hb, zr_xor])
  have HA := Lib.hid ha
  have HB := Lib.hid hb
  have ht1 : t ≤ 9223372036854775807 := by omega
  clear ha hb hx hy ht
  obtain ⟨k0, k1, k2, k3⟩ := pair_new w (.int .u32 (c : Int)) (.int .u32 (d : Int)) 38
  go_enter Try.func11, Try.ntmps11
  go_wp2_with fail
  refine (zeros_c c n hc (by omega) _).mono ?_
  rintro e w1 ⟨rfl, hb1⟩
  obtain ⟨i0, i1, i2, i3⟩ := pair_go ⟨k0, k1, k2, k3⟩ hb1
  rw [← HA.out]
  clear k0 k1 k2 k3 hb1
  go_wp2_with fail
  refine (zeros_c d n hd (by omega) _).mono ?_
  rintro e w2 ⟨rfl, hb2⟩
  obtain ⟨j0, j1, j2, j3⟩ := pair_go ⟨i0, i1, i2, i3⟩ hb2
  rw [← HB.out]
  clear i0 i1 i2 i3 hb2
  go_wp2_with fail
  go_region_held3 (fun w' => w'.cell? ⟨w.heap.size, 0, none⟩ = some (.int .u32 (c : Int)) ∧ w'.cell? ⟨w.heap.size, 1, none⟩ = some (.int .u32 (d : Int)) ∧ w.heap.size < w'.heap.size ∧ Below w.heap.size w w')
    (first
      | (exact pair_go (by assumption) hbn)
      | (exact pair_go (by assumption) (Below.refl _ _).drew)
      | (exact pair_go ⟨j0, j1, j2, j3⟩ (Below.refl _ _).drew)
      | go_keep)
    (first
      | (go_at_call 28; with_reducible refine (zeros_c a m hal (by omega) _).mono ?_; rintro e w2 ⟨rfl, hbn⟩; rw [E1.out])
      | (go_at_call 28; with_reducible refine (zeros_c c t hc ht1 _).mono ?_; rintro e w2 ⟨rfl, hbn⟩)
      | (go_at_call 28; with_reducible refine (zeros_c x n hcd (by omega) _).mono ?_; rintro e w2 ⟨rfl, hbn⟩; rw [E2.out])
      | (go_at_call 23; refine (live10_c _).mono ?_; rintro e w2 ⟨rfl, hbn⟩))
  go_wp2
  go_ret
  exact ⟨rfl, pair_below (B := w.heap.size) (u := .int .u32 (c : Int)) (v := .int .u32 (d : Int)) (by assumption)⟩

theorem walk (c d : Nat) (n m : Int) (hc : c < 4294967296) (hd : d < 4294967296) (hwn : (Lit.int .i64 n).wf = true) (hwm : (Lit.int .i64 m).wf = true) (w : World) :
    Calls Try.prog 11 #[.agg #[.int .u32 (c : Int), .int .u32 (d : Int)], .int .i64 n, .int .i64 m] w fun e w' => e = .returned (.bool true) ∧ Below w.heap.size w w' := by
  have hn := (i64_in hwn).2
  have hm := (i64_in hwm).2
  by_cases h : n < 0 ∨ m < 0 ∨ 1099511627776 < n ∨ 1099511627776 < m
  · exact live c d n m hn hm h w
  · exact walk_in c d n m hc hd (by omega) (by omega) (by omega) (by omega) w
end crcNoughts
end Go.Proofs.Ytjjbiepmfngipaa
