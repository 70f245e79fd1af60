/-
  The walk of CrcTells.
-/
import Derived.Test.YtjjbiepmfngipaaKf
import Derived.Test.YtjjbiepmfngipaaVg
import Derived.Deep.QuietTactic
import Derived.BigQuiet
import Derived.Deep.RegionHeld3
namespace Go.Proofs.Ytjjbiepmfngipaa
open Go.RowKit
open Cr
set_option maxRecDepth 100000

/-- two numbers in one block, and all that was there is as it was -/
theorem pair_go {B : Nat} {u v : Value} {w w1 w2 : World} (h : w1.cell? ⟨B, 0, none⟩ = some u ∧ w1.cell? ⟨B, 1, none⟩ = some v ∧ B < w1.heap.size ∧ Below w.heap.size w w1) (hb : Below w1.heap.size w1 w2) :
    w2.cell? ⟨B, 0, none⟩ = some u ∧ w2.cell? ⟨B, 1, none⟩ = some v ∧ B < w2.heap.size ∧ Below w.heap.size w w2 := by
  obtain ⟨h0, h1, hs, hw⟩ := h
  exact ⟨(hb.cell (p := ⟨B, 0, none⟩) hs).trans h0, (hb.cell (p := ⟨B, 1, none⟩) hs).trans h1, Nat.lt_of_lt_of_le hs hb.size, hw.trans (hb.mono hw.size)⟩
theorem pair_below {B : Nat} {u v : Value} {w w1 : World} (h : w1.cell? ⟨B, 0, none⟩ = some u ∧ w1.cell? ⟨B, 1, none⟩ = some v ∧ B < w1.heap.size ∧ Below w.heap.size w w1) : Below w.heap.size w w1 := h.2.2.2
theorem pair_new (w : World) (u v : Value) (t : TypeId) :
    (w.alloc (.cells #[u, v] t)).cell? ⟨w.heap.size, 0, none⟩ = some u ∧ (w.alloc (.cells #[u, v] t)).cell? ⟨w.heap.size, 1, none⟩ = some v ∧ w.heap.size < (w.alloc (.cells #[u, v] t)).heap.size ∧ Below w.heap.size w (w.alloc (.cells #[u, v] t)) :=
  ⟨by rw [World.cell?_alloc_at _ _ _ _ rfl]; rfl, by rw [World.cell?_alloc_at _ _ _ _ rfl]; rfl, by simp, (Below.refl _ _).alloc (Nat.le_refl _) _⟩

namespace crcTells
set_option maxHeartbeats 4000000 in
theorem walk (l : List UInt8) (c d : Nat) (n : Int) (hz : l.length ≤ maxLen) (hc : c < 4294967296) (hd : d < 4294967296) (hwf : (Lit.int .i64 n).wf = true) (w : World) :
    Calls Try.prog 8 #[.string (ba l), .agg #[.int .u32 (c : Int), .int .u32 (d : Int)], .int .i64 n] w fun e w' => e = .returned (.bool true) ∧ Below w.heap.size w w' := by
  have hs := ba_size l
  have hn := (i64_in hwf).2
  clear hwf
  unfold maxLen at hz
  by_cases h : 500 < l.length
  · go_enter Try.func8, Try.ntmps8
    go_wp2_with fail
    refine (live10_c _).mono ?_
    rintro e w1 ⟨rfl, hb1⟩
    go_wp2
    go_ret
    have hb0 : Below w.heap.size w (w.alloc (.cells #[.int .u32 (c : Int), .int .u32 (d : Int)] 38)) := (Below.refl _ _).alloc (Nat.le_refl _) _
    exact ⟨rfl, hb0.trans (hb1.mono hb0.size)⟩
  · by_cases h2 : 1000 < n
    · go_enter Try.func8, Try.ntmps8
      go_wp2_with fail
      refine (live10_c _).mono ?_
      rintro e w1 ⟨rfl, hb1⟩
      go_wp2
      go_ret
      have hb0 : Below w.heap.size w (w.alloc (.cells #[.int .u32 (c : Int), .int .u32 (d : Int)] 38)) := (Below.refl _ _).alloc (Nat.le_refl _) _
      exact ⟨rfl, hb0.trans (hb1.mono hb0.size)⟩
    · have hl : l.length ≤ 9223372036854775807 := by omega
      obtain ⟨k0, k1, k2, k3⟩ := pair_new w (.int .u32 (c : Int)) (.int .u32 (d : Int)) 38
      go_enter Try.func8, Try.ntmps8
      go_wp2_with fail
      go_region_held3 (fun w' => w'.cell? ⟨w.heap.size, 0, none⟩ = some (.int .u32 (c : Int)) ∧ w'.cell? ⟨w.heap.size, 1, none⟩ = some (.int .u32 (d : Int)) ∧ w.heap.size < w'.heap.size ∧ Below w.heap.size w w')
        (first
          | (exact pair_go (by assumption) hbn)
          | (exact pair_go (by assumption) (Below.refl _ _).drew)
          | (exact pair_go ⟨k0, k1, k2, k3⟩ (Below.refl _ _).drew)
          | go_keep)
        (first
          | (go_at_call 24; refine (sum_c l hl _).mono ?_; rintro e w2 ⟨rfl, rfl⟩)
          | (go_at_call 25; refine (rsum_c l hl _).mono ?_; rintro e w2 ⟨rfl, rfl⟩)
          | (go_at_call 26; refine (more_c c l hc hl _).mono ?_; rintro e w2 ⟨rfl, rfl⟩)
          | (go_at_call 27; refine (rmore_c c l hc hl _).mono ?_; rintro e w2 ⟨rfl, rfl⟩)
          | (go_at_call 28; refine (zeros_c c n hc hn _).mono ?_; rintro e w2 ⟨rfl, hbn⟩)
          | (go_at_call 29; refine (rzeros_c c n hc hn _).mono ?_; rintro e w2 ⟨rfl, rfl⟩)
          | (go_at_call 30; refine (combine_c c d n hc hd hn _).mono ?_; rintro e w2 ⟨rfl, hbn⟩)
          | (go_at_call 31; refine (rcombine_c c d n hc hd hn _).mono ?_; rintro e w2 ⟨rfl, rfl⟩)
          | (go_at_call 23; refine (live10_c _).mono ?_; rintro e w2 ⟨rfl, hbn⟩))
      go_wp2
      go_ret
      exact ⟨rfl, pair_below (B := w.heap.size) (u := .int .u32 (c : Int)) (v := .int .u32 (d : Int)) (by assumption)⟩
end crcTells
end Go.Proofs.Ytjjbiepmfngipaa
