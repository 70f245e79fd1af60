/-
  The live answers of dict.
-/
import Derived.Test.YtiehmeheilfocaaTk
namespace Go.Proofs.Ytiehmeheilfocaa
open Go.RowKit Go.IntWalk
open Pk Dc Wd
set_option maxRecDepth 100000
attribute [local go_sem] Oper.semAt_some

set_option maxHeartbeats 8000000 in
theorem live8_c (w : World) :
    Calls Try.prog 27 #[] w fun e w' => e = .returned (.bool true) ∧ Below w.heap.size w w' := by
  go_enter Try.func27, Try.ntmps27
  go_wp2_with fail
  have hv1 := (Below.refl w.heap.size w).alloc (Nat.le_refl _) (.cells (svs [[98], [97], [98]]).toArray 9)
  have hx1 := (Below.refl w.heap.size w).alloc (Nat.le_refl _) (.cells (svs [[98], [97], [98]]).toArray 9)
  have fresh1 := at_new w 9 (svs [[98], [97], [98]])
  clear hx1
  refine (words_k [[98], [97], [98]] [[98], [97]] [0, 1, 0] live8.w1 live8.p1 rfl rfl (by decide) live8.ht fresh1).mono ?_
  rintro e w2 ⟨A1, c1, A2, c2, rfl, -, -, hatW, hatP, hm⟩
  have hb2 := hv1.trans (hm.mono hv1.size)
  have L_2 := fresh1.keep hm
  clear fresh1 hm hv1
  go_wp2_with fail
  refine (dencode_k [[98], [97], [98]] [2, 1, 98, 1, 97, 0, 1, 1, 1, 0, 1] live8.e1 rfl (by decide) live8.ht L_2).mono ?_
  rintro e w3 ⟨rfl, hm⟩
  rw [show ba [2, 1, 98, 1, 97, 0, 1, 1, 1, 0, 1] = (⟨#[2, 1, 98, 1, 97, 0, 1, 1, 1, 0, 1]⟩ : ByteArray) from rfl]
  have hb3 := hb2.trans (hm.mono hb2.size)
  have L_3 := L_2.keep hm
  have W_3 := hatW.keep hm
  have P_3 := hatP.keep hm
  clear L_2 hatW hatP hm hb2
  go_wp2_with fail
  refine (ddecode_k [2, 1, 98, 1, 97, 0, 1, 1, 1, 0, 1] 3 9 [[98], [97], [98]] 0 3 live8.d3 rfl (by omega) (by omega) (by omega) (by decide) _).mono ?_
  rintro e w4 ⟨A3, c3, rfl, hatM, hm⟩
  have hb4 := hb3.trans (hm.mono hb3.size)
  have L_4 := L_3.keep hm
  have W_4 := W_3.keep hm
  have P_4 := P_3.keep hm
  clear L_3 W_3 P_3 hm hb3
  go_wp2_with fail
  refine (ddecode_k [2, 1, 98, 1, 97, 0, 1, 1, 1, 0, 1] 2 9 [] 5 0 live8.d2 rfl (by omega) (by omega) (by omega) (by decide) _).mono ?_
  rintro e w5 ⟨A4, c4, rfl, -, hm⟩
  have hb5 := hb4.trans (hm.mono hb4.size)
  have L_5 := L_4.keep hm
  have W_5 := W_4.keep hm
  have P_5 := P_4.keep hm
  have M_5 := hatM.keep hm
  clear L_4 W_4 P_4 hatM hm hb4
  go_wp2_with fail
  refine (ddecode_k [2, 1, 98, 1, 97, 0, 1, 1, 1, 0, 1] 3 0 [] 10 0 live8.d0 rfl (by omega) (by omega) (by omega) (by decide) _).mono ?_
  rintro e w6 ⟨A5, c5, rfl, -, hm⟩
  have hb6 := hb5.trans (hm.mono hb5.size)
  have L_6 := L_5.keep hm
  have W_6 := W_5.keep hm
  have P_6 := P_5.keep hm
  have M_6 := M_5.keep hm
  clear L_5 W_5 P_5 M_5 hm hb5
  go_wp2_with fail
  refine (ddecode_k [1, 1, 97, 1, 1] 1 9 [] 5 0 live8.d1 rfl (by omega) (by omega) (by omega) (by decide) _).mono ?_
  rintro e w7 ⟨A6, c6, rfl, -, hm⟩
  have hb7 := hb6.trans (hm.mono hb6.size)
  have L_7 := L_6.keep hm
  have W_7 := W_6.keep hm
  have P_7 := P_6.keep hm
  have M_7 := M_6.keep hm
  clear L_6 W_6 P_6 M_6 hm hb6
  go_wp2_with fail
  refine (ddecode_k [2, 1, 97, 1, 97, 0, 1, 1, 1] 2 9 [] 5 0 live8.de rfl (by omega) (by omega) (by omega) (by decide) _).mono ?_
  rintro e w8 ⟨A7, c7, rfl, -, hm⟩
  have hb8 := hb7.trans (hm.mono hb7.size)
  have L_8 := L_7.keep hm
  have W_8 := W_7.keep hm
  have P_8 := P_7.keep hm
  have M_8 := M_7.keep hm
  clear L_7 W_7 P_7 M_7 hm hb7
  go_wp2_with fail
  have hv9 := hb8.alloc hb8.size (.cells (uvs [1, 1]).toArray 56)
  have hx9 := (Below.refl w8.heap.size w8).alloc (Nat.le_refl _) (.cells (uvs [1, 1]).toArray 56)
  have L_9 := L_8.keep hx9
  have W_9 := W_8.keep hx9
  have P_9 := P_8.keep hx9
  have M_9 := M_8.keep hx9
  have fresh9 := at_new w8 56 (uvs [1, 1])
  clear L_8 W_8 P_8 M_8 hx9 hb8
  refine (pick_k [[98], [97]] [1, 1] [[97], [97]] true live8.k1 rfl rfl rfl (by decide) (by decide) W_9 fresh9).mono ?_
  rintro e w10 ⟨A8, c8, rfl, hatK, hm⟩
  have hb10 := hv9.trans (hm.mono hv9.size)
  have L_10 := L_9.keep hm
  have W_10 := W_9.keep hm
  have P_10 := P_9.keep hm
  have M_10 := M_9.keep hm
  clear L_9 W_9 P_9 M_9 hm hv9
  go_wp2_with fail
  have hv11 := hb10.alloc hb10.size (.cells (uvs [2]).toArray 56)
  have hx11 := (Below.refl w10.heap.size w10).alloc (Nat.le_refl _) (.cells (uvs [2]).toArray 56)
  have L_11 := L_10.keep hx11
  have W_11 := W_10.keep hx11
  have P_11 := P_10.keep hx11
  have M_11 := M_10.keep hx11
  have K_11 := hatK.keep hx11
  have fresh11 := at_new w10 56 (uvs [2])
  clear L_10 W_10 P_10 M_10 hatK hx11 hb10
  refine (pick_k [[98], [97]] [2] [] false live8.k2 rfl rfl rfl (by decide) (by decide) W_11 fresh11).mono ?_
  rintro e w12 ⟨A9, c9, rfl, -, hm⟩
  have hb12 := hv11.trans (hm.mono hv11.size)
  have L_12 := L_11.keep hm
  have W_12 := W_11.keep hm
  have P_12 := P_11.keep hm
  have M_12 := M_11.keep hm
  have K_12 := K_11.keep hm
  clear L_11 W_11 P_11 M_11 K_11 hm hv11
  go_wp2_with fail
  have hv13 := hb12.alloc hb12.size (.cells (svs [[98], [97]]).toArray 9)
  have hx13 := (Below.refl w12.heap.size w12).alloc (Nat.le_refl _) (.cells (svs [[98], [97]]).toArray 9)
  have L_13 := L_12.keep hx13
  have W_13 := W_12.keep hx13
  have P_13 := P_12.keep hx13
  have M_13 := M_12.keep hx13
  have K_13 := K_12.keep hx13
  have fresh13 := at_new w12 9 (svs [[98], [97]])
  clear L_12 W_12 P_12 M_12 K_12 hx13 hb12
  refine (same4_k [[98], [97]] [[98], [97]] rfl rfl (by decide) (by decide) W_13 fresh13).mono ?_
  rintro e w14 ⟨rfl, hm⟩
  rw [show decide (([[98], [97]] : List Tx) = [[98], [97]]) = true from rfl]
  have hb14 := hv13.trans (hm.mono hv13.size)
  have L_14 := L_13.keep hm
  have W_14 := W_13.keep hm
  have P_14 := P_13.keep hm
  have M_14 := M_13.keep hm
  have K_14 := K_13.keep hm
  clear L_13 W_13 P_13 M_13 K_13 hm hv13
  go_wp2_with fail
  have hv15 := hb14.alloc hb14.size (.cells (uvs [0, 1, 0]).toArray 56)
  have hx15 := (Below.refl w14.heap.size w14).alloc (Nat.le_refl _) (.cells (uvs [0, 1, 0]).toArray 56)
  have L_15 := L_14.keep hx15
  have W_15 := W_14.keep hx15
  have P_15 := P_14.keep hx15
  have M_15 := M_14.keep hx15
  have K_15 := K_14.keep hx15
  have fresh15 := at_new w14 56 (uvs [0, 1, 0])
  clear L_14 W_14 P_14 M_14 K_14 hx15 hb14
  refine (same6_k [0, 1, 0] [0, 1, 0] rfl rfl (by decide) (by decide) P_15 fresh15).mono ?_
  rintro e w16 ⟨rfl, hm⟩
  rw [show decide (([0, 1, 0] : List Nat) = [0, 1, 0]) = true from rfl]
  have hb16 := hv15.trans (hm.mono hv15.size)
  have L_16 := L_15.keep hm
  have W_16 := W_15.keep hm
  have P_16 := P_15.keep hm
  have M_16 := M_15.keep hm
  have K_16 := K_15.keep hm
  clear L_15 W_15 P_15 M_15 K_15 hm hv15
  go_wp2_with fail
  refine (same4_k [[98], [97], [98]] [[98], [97], [98]] rfl rfl (by decide) (by decide) M_16 L_16).mono ?_
  rintro e w17 ⟨rfl, hm⟩
  rw [show decide (([[98], [97], [98]] : List Tx) = [[98], [97], [98]]) = true from rfl]
  have hb17 := hb16.trans (hm.mono hb16.size)
  have L_17 := L_16.keep hm
  have W_17 := W_16.keep hm
  have P_17 := P_16.keep hm
  have M_17 := M_16.keep hm
  have K_17 := K_16.keep hm
  clear L_16 W_16 P_16 M_16 K_16 hm hb16
  go_wp2_with fail
  have hv18 := hb17.alloc hb17.size (.cells (svs [[97], [97]]).toArray 9)
  have hx18 := (Below.refl w17.heap.size w17).alloc (Nat.le_refl _) (.cells (svs [[97], [97]]).toArray 9)
  have L_18 := L_17.keep hx18
  have W_18 := W_17.keep hx18
  have P_18 := P_17.keep hx18
  have M_18 := M_17.keep hx18
  have K_18 := K_17.keep hx18
  have fresh18 := at_new w17 9 (svs [[97], [97]])
  clear L_17 W_17 P_17 M_17 K_17 hx18 hb17
  refine (same4_k [[97], [97]] [[97], [97]] rfl rfl (by decide) (by decide) K_18 fresh18).mono ?_
  rintro e w19 ⟨rfl, hm⟩
  rw [show decide (([[97], [97]] : List Tx) = [[97], [97]]) = true from rfl]
  have hb19 := hv18.trans (hm.mono hv18.size)
  have L_19 := L_18.keep hm
  have W_19 := W_18.keep hm
  have P_19 := P_18.keep hm
  have M_19 := M_18.keep hm
  have K_19 := K_18.keep hm
  clear L_18 W_18 P_18 M_18 K_18 hm hv18
  go_wp2_with fail
  refine (may8_k [[98], [97]] [0, 1, 0] true live8.m1 rfl rfl (by decide) (by decide) live8.hw W_19 P_19).mono ?_
  rintro e w20 ⟨rfl, hm⟩
  have hb20 := hb19.trans (hm.mono hb19.size)
  have L_20 := L_19.keep hm
  have W_20 := W_19.keep hm
  have P_20 := P_19.keep hm
  have M_20 := M_19.keep hm
  have K_20 := K_19.keep hm
  clear L_19 W_19 P_19 M_19 K_19 hm hb19
  go_wp2_with fail
  have hv21 := hb20.alloc hb20.size (.cells (uvs [1, 0]).toArray 56)
  have hx21 := (Below.refl w20.heap.size w20).alloc (Nat.le_refl _) (.cells (uvs [1, 0]).toArray 56)
  have L_21 := L_20.keep hx21
  have W_21 := W_20.keep hx21
  have P_21 := P_20.keep hx21
  have M_21 := M_20.keep hx21
  have K_21 := K_20.keep hx21
  have fresh21 := at_new w20 56 (uvs [1, 0])
  clear L_20 W_20 P_20 M_20 K_20 hx21 hb20
  refine (may8_k [[98], [97]] [1, 0] false live8.m0 rfl rfl (by decide) (by decide) live8.hw W_21 fresh21).mono ?_
  rintro e w22 ⟨rfl, hm⟩
  have hb22 := hv21.trans (hm.mono hv21.size)
  have L_22 := L_21.keep hm
  have W_22 := W_21.keep hm
  have P_22 := P_21.keep hm
  have M_22 := M_21.keep hm
  have K_22 := K_21.keep hm
  clear L_21 W_21 P_21 M_21 K_21 hm hv21
  go_wp2
  go_ret
  exact ⟨rfl, hb22⟩
end Go.Proofs.Ytiehmeheilfocaa
