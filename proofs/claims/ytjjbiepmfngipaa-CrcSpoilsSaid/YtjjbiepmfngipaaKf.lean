/-
  What the document gives for answers (live of the layer crc).
-/
import Derived.Test.YtjjbiepmfngipaaKe
namespace Go.Proofs.Ytjjbiepmfngipaa
open Go.RowKit
open Cr
set_option maxRecDepth 100000

theorem sum_k {s : ByteArray} (l : List UInt8) (v : Int) (hs : s = ba l) (hv : ((more 0 (bn l) : Nat) : Int) = v) (hl : l.length ≤ 1000) (w : World) :
    Calls Try.prog 24 #[.string s] w fun e w' => e = .returned (.int .u32 v) ∧ w = w' := by
  subst hs hv
  exact sum_c l (by omega) w
theorem more_k {s : ByteArray} {x : Int} (a : Nat) (l : List UInt8) (v : Int) (hx : x = (a : Int)) (hs : s = ba l) (hv : ((more a (bn l) : Nat) : Int) = v) (ha : a < 4294967296) (hl : l.length ≤ 1000) (w : World) :
    Calls Try.prog 26 #[.int .u32 x, .string s] w fun e w' => e = .returned (.int .u32 v) ∧ w = w' := by
  subst hx hs hv
  exact more_c a l ha (by omega) w
theorem zeros_k {x n : Int} (c : Nat) (v : Int) (hx : x = (c : Int)) (hv : ((zr n.toNat c : Nat) : Int) = v) (hc : c < 4294967296) (hn : n ≤ 9223372036854775807) (w : World) :
    Calls Try.prog 28 #[.int .u32 x, .int .i64 n] w fun e w' => e = .returned (.int .u32 v) ∧ Below w.heap.size w w' := by
  subst hx hv
  exact zeros_c c n hc hn w
theorem combine_k {x y n : Int} (a b : Nat) (v : Int) (hx : x = (a : Int)) (hy : y = (b : Int)) (hv : ((zr n.toNat a ^^^ b : Nat) : Int) = v) (ha : a < 4294967296) (hb : b < 4294967296) (hn : n ≤ 9223372036854775807) (w : World) :
    Calls Try.prog 30 #[.int .u32 x, .int .u32 y, .int .i64 n] w fun e w' => e = .returned (.int .u32 v) ∧ Below w.heap.size w w' := by
  subst hx hy hv
  exact combine_c a b n ha hb hn w
namespace live10
theorem s9 : ((more 0 (bn [49, 50, 51, 52, 53, 54, 55, 56, 57]) : Nat) : Int) = 3421780262 := by decide
theorem s0 : ((more 0 (bn []) : Nat) : Int) = 0 := by decide
theorem s5 : ((more 0 (bn [49, 50, 51, 52, 53]) : Nat) : Int) = 3421846044 := by decide
theorem s4 : ((more 0 (bn [54, 55, 56, 57]) : Nat) : Int) = 2646261639 := by decide
theorem m9 : ((more 3421846044 (bn [54, 55, 56, 57]) : Nat) : Int) = 3421780262 := by decide
theorem c9 : ((zr (4 : Int).toNat 3421846044 ^^^ 2646261639 : Nat) : Int) = 3421780262 := by decide
theorem z1 : ((zr (1 : Int).toNat 1 : Nat) : Int) = 1996959894 := by decide
theorem z0 : ((zr (0 : Int).toNat 5 : Nat) : Int) = 5 := by decide
theorem zm : ((zr (-1 : Int).toNat 5 : Nat) : Int) = 5 := by decide
end live10

set_option maxHeartbeats 1000000 in
theorem live10_c (w : World) :
    Calls Try.prog 23 #[] w fun e w' => e = .returned (.bool true) ∧ Below w.heap.size w w' := by
  go_enter Try.func23, Try.ntmps23
  go_wp2_with fail
  refine (sum_k [49, 50, 51, 52, 53, 54, 55, 56, 57] 3421780262 (by rfl) live10.s9 (by decide) _).mono ?_
  rintro e w1 ⟨rfl, rfl⟩
  go_wp2_with fail
  refine (sum_k [] 0 (by rfl) live10.s0 (by decide) _).mono ?_
  rintro e w2 ⟨rfl, rfl⟩
  go_wp2_with fail
  refine (sum_k [49, 50, 51, 52, 53] 3421846044 (by rfl) live10.s5 (by decide) _).mono ?_
  rintro e w3 ⟨rfl, rfl⟩
  go_wp2_with fail
  refine (more_k 3421846044 [54, 55, 56, 57] 3421780262 (by rfl) (by rfl) live10.m9 (by decide) (by decide) _).mono ?_
  rintro e w4 ⟨rfl, rfl⟩
  go_wp2_with fail
  refine (sum_k [49, 50, 51, 52, 53] 3421846044 (by rfl) live10.s5 (by decide) _).mono ?_
  rintro e w5 ⟨rfl, rfl⟩
  go_wp2_with fail
  refine (sum_k [54, 55, 56, 57] 2646261639 (by rfl) live10.s4 (by decide) _).mono ?_
  rintro e w6 ⟨rfl, rfl⟩
  go_wp2_with fail
  refine (combine_k 3421846044 2646261639 3421780262 (by rfl) (by rfl) live10.c9 (by decide) (by decide) (by decide) _).mono ?_
  rintro e w7 ⟨rfl, hb1⟩
  go_wp2_with fail
  refine (zeros_k 1 1996959894 (by rfl) live10.z1 (by decide) (by decide) _).mono ?_
  rintro e w8 ⟨rfl, hm⟩
  have hb2 := hb1.trans (hm.mono hb1.size)
  go_wp2_with fail
  refine (zeros_k 5 5 (by rfl) live10.z0 (by decide) (by decide) _).mono ?_
  rintro e w9 ⟨rfl, hm⟩
  have hb3 := hb2.trans (hm.mono hb2.size)
  go_wp2_with fail
  refine (zeros_k 5 5 (by rfl) live10.zm (by decide) (by decide) _).mono ?_
  rintro e w10 ⟨rfl, hm⟩
  have hb4 := hb3.trans (hm.mono hb3.size)
  go_wp2
  go_ret
  exact ⟨rfl, hb4⟩
end Go.Proofs.Ytjjbiepmfngipaa
