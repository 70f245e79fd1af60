/-
  The live answers of runs.
-/
import Derived.Test.YtacnbgfddidfiaaQl
namespace Go.Proofs.Ytacnbgfddidfiaa
open Go.RowKit Go.IntWalk
open Pk
set_option maxRecDepth 100000
attribute [local go_sem] Oper.semAt_some

set_option maxHeartbeats 4000000 in
theorem live6_c (w : World) :
    Calls Try.prog 27 #[] w fun e w' => e = .returned (.bool true) ∧ Below w.heap.size w w' := by
  go_enter Try.func27, Try.ntmps27
  go_wp2_with fail
  refine (runs_k [7, 7, 0] [(7, 2), (0, 1)] live6.r1 rfl rfl (by decide) (at_new w 34 (uvs [7, 7, 0]))).mono ?_
  rintro e w1 ⟨A1, c1, rfl, hat1, hm1⟩
  have hb1 := ((Below.refl w.heap.size w).alloc (Nat.le_refl _) (.cells (uvs [7, 7, 0]).toArray 34)).trans (hm1.mono (by simp))
  clear hm1
  go_wp2_with fail
  refine (spread_k [(7, 2), (0, 1)] 3 [7, 7, 0] true live6.s3 rfl rfl (by decide) (by omega) (by omega) live6.ri hat1).mono ?_
  rintro e w2 ⟨A2, c2, rfl, hat2, hm2⟩
  have hb2 := hb1.trans (hm2.mono hb1.size)
  have hr2 := hat1.keep hm2
  clear hm2 hat1 hb1
  go_wp2_with fail
  refine (spread_k [(7, 2), (0, 1)] 2 [] false live6.s2 rfl rfl (by decide) (by omega) (by omega) live6.ri hr2).mono ?_
  rintro e w3 ⟨A3, c3, rfl, -, hm3⟩
  have hb3 := hb2.trans (hm3.mono hb2.size)
  have hr3 := hr2.keep hm3
  have hl3 := hat2.keep hm3
  clear hm3 hat2 hr2 hb2
  go_wp2_with fail
  have hx4 := (Below.refl w3.heap.size w3).alloc (Nat.le_refl _) (.cells (uvs [7, 7, 0]).toArray 34)
  have hv4 := hb3.alloc hb3.size (.cells (uvs [7, 7, 0]).toArray 34)
  refine (uencode_k [7, 7, 0] rfl (by decide) live6.nums (at_new w3 34 (uvs [7, 7, 0]))).mono ?_
  rintro e w4 ⟨rfl, hm4⟩
  have hb4 := hv4.trans (hm4.mono hv4.size)
  have hr4 := (hr3.keep hx4).keep hm4
  have hl4 := (hl3.keep hx4).keep hm4
  clear hm4 hx4 hv4 hr3 hl3 hb3
  rw [live6.e1, show ba [7, 2, 0, 1] = (⟨#[7, 2, 0, 1]⟩ : ByteArray) from rfl]
  go_wp2_with fail
  refine (udecode_k [7, 2, 0, 1] 3 [7, 7, 0] 0 3 live6.d3 rfl (by omega) (by omega) (by decide) _).mono ?_
  rintro e w5 ⟨A5, c5, rfl, hat5, hm5⟩
  have hb5 := hb4.trans (hm5.mono hb4.size)
  have hr5 := hr4.keep hm5
  have hl5 := hl4.keep hm5
  clear hm5 hr4 hl4 hb4
  go_wp2_with fail
  refine (udecode_k [7, 2, 0, 1] 2 [] 5 0 live6.d2 rfl (by omega) (by omega) (by decide) _).mono ?_
  rintro e w6 ⟨A6, c6, rfl, -, hm6⟩
  have hb6 := hb5.trans (hm6.mono hb5.size)
  have hr6 := hr5.keep hm6
  have hl6 := hl5.keep hm6
  have hd6 := hat5.keep hm6
  clear hm6 hr5 hl5 hb5 hat5
  go_wp2_with fail
  refine (udecode_k [7, 1, 7, 1] 2 [] 5 0 live6.d7 rfl (by omega) (by omega) (by decide) _).mono ?_
  rintro e w7 ⟨A7, c7, rfl, -, hm7⟩
  have hb7 := hb6.trans (hm7.mono hb6.size)
  have hr7 := hr6.keep hm7
  have hl7 := hl6.keep hm7
  have hd7 := hd6.keep hm7
  clear hm7 hr6 hl6 hb6 hd6
  go_wp2_with fail
  refine (udecode_k [7] 1 [] 2 0 live6.dc rfl (by omega) (by omega) (by decide) _).mono ?_
  rintro e w8 ⟨A8, c8, rfl, -, hm8⟩
  have hb8 := hb7.trans (hm8.mono hb7.size)
  have hr8 := hr7.keep hm8
  have hl8 := hl7.keep hm8
  have hd8 := hd7.keep hm8
  clear hm8 hr7 hl7 hb7 hd7
  go_wp2_with fail
  refine (udecode_k [] 4097 [] 10 0 live6.dg rfl (by omega) (by omega) (by decide) _).mono ?_
  rintro e w9 ⟨A9, c9, rfl, -, hm9⟩
  have hb9 := hb8.trans (hm9.mono hb8.size)
  have hr9 := hr8.keep hm9
  have hl9 := hl8.keep hm9
  have hd9 := hd8.keep hm9
  clear hm9 hr8 hl8 hb8 hd8
  go_wp2_with fail
  have hx10 := (Below.refl w9.heap.size w9).alloc (Nat.le_refl _) (.cells (rvs [(7, 2), (0, 1)]).toArray 51)
  have hv10 := hb9.alloc hb9.size (.cells (rvs [(7, 2), (0, 1)]).toArray 51)
  refine (sameR_k [(7, 2), (0, 1)] [(7, 2), (0, 1)] rfl rfl (by decide) (by decide) (hr9.keep hx10) (at_new w9 51 (rvs [(7, 2), (0, 1)]))).mono ?_
  rintro e w10 ⟨rfl, hm10⟩
  rw [show decide (([(7, 2), (0, 1)] : List Run) = [(7, 2), (0, 1)]) = true from rfl]
  have hb10 := hv10.trans (hm10.mono hv10.size)
  have hr10 := (hr9.keep hx10).keep hm10
  have hl10 := (hl9.keep hx10).keep hm10
  have hd10 := (hd9.keep hx10).keep hm10
  clear hm10 hx10 hv10 hr9 hl9 hd9 hb9
  go_wp2_with fail
  have hx11 := (Below.refl w10.heap.size w10).alloc (Nat.le_refl _) (.cells (uvs [7, 7, 0]).toArray 34)
  have hv11 := hb10.alloc hb10.size (.cells (uvs [7, 7, 0]).toArray 34)
  refine (same6_k [7, 7, 0] [7, 7, 0] rfl rfl (by decide) (by decide) (hl10.keep hx11) (at_new w10 34 (uvs [7, 7, 0]))).mono ?_
  rintro e w11 ⟨rfl, hm11⟩
  rw [show decide (([7, 7, 0] : List Nat) = [7, 7, 0]) = true from rfl]
  have hb11 := hv11.trans (hm11.mono hv11.size)
  have hr11 := (hr10.keep hx11).keep hm11
  have hl11 := (hl10.keep hx11).keep hm11
  have hd11 := (hd10.keep hx11).keep hm11
  clear hm11 hx11 hv11 hr10 hl10 hd10 hb10
  go_wp2_with fail
  refine (same6_k [7, 7, 0] [7, 7, 0] rfl rfl (by decide) (by decide) hd11 hl11).mono ?_
  rintro e w12 ⟨rfl, hm12⟩
  rw [show decide (([7, 7, 0] : List Nat) = [7, 7, 0]) = true from rfl]
  have hb12 := hb11.trans (hm12.mono hb11.size)
  have hr12 := hr11.keep hm12
  clear hm12 hr11 hl11 hd11 hb11
  go_wp2_with fail
  refine (may_k [(7, 2), (0, 1)] rfl (by decide) hr12).mono ?_
  rintro e w13 ⟨rfl, hm13⟩
  rw [show mayP none [(7, 2), (0, 1)] = true from rfl]
  have hb13 := hb12.trans (hm13.mono hb12.size)
  clear hm13 hr12 hb12
  go_wp2_with fail
  have hv14 := hb13.alloc hb13.size (.cells (rvs [(1, 0)]).toArray 51)
  refine (may_k [(1, 0)] rfl (by decide) (at_new w13 51 (rvs [(1, 0)]))).mono ?_
  rintro e w14 ⟨rfl, hm14⟩
  rw [show mayP none [(1, 0)] = false from rfl]
  have hb14 := hv14.trans (hm14.mono hv14.size)
  clear hm14 hv14 hb13
  go_wp2
  go_ret
  exact ⟨rfl, hb14⟩
end Go.Proofs.Ytacnbgfddidfiaa
