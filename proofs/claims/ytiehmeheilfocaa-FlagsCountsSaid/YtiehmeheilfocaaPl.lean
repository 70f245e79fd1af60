/-
  The contracts of flags at written lengths; the live answers of flags.
-/
import Derived.Test.YtiehmeheilfocaaPi
import Derived.Test.YtiehmeheilfocaaPk
import Derived.Test.YtiehmeheilfocaaPe
import Derived.Test.YtiehmeheilfocaaRj
namespace Go.Proofs.Ytiehmeheilfocaa
open Go.RowKit Go.IntWalk
open Pk
set_option maxRecDepth 100000
attribute [local go_sem] Oper.semAt_some

theorem lengths_k {A : Option Addr} {cap n m : Nat} (xs : List Bool) (r : List Int) (hr : lenI xs = r) (hn : xs.length = n) (hm : r.length = m) (hx : n ≤ 100000) {w : World} (hc : At w w.heap.size A (bvs xs)) :
    Calls Try.prog 17 #[.slice A n cap] w fun e w' => ∃ A' cap', e = .returned (.slice A' m cap') ∧ m ≤ cap' ∧ At w' w'.heap.size A' (ivs r) ∧ Below w.heap.size w w' := by
  subst hr; subst hn; subst hm
  refine (lengths_c A cap xs hx w hc).mono ?_
  rintro e w' ⟨A', cap', rfl, hcp, -, ha, hb⟩
  exact ⟨A', cap', rfl, hcp, ha, hb⟩
theorem rlengths_k {A : Option Addr} {cap n m : Nat} (xs : List Bool) (r : List Int) (hr : lenI xs = r) (hn : xs.length = n) (hm : r.length = m) (hx : n ≤ 100000) {w : World} (hc : At w w.heap.size A (bvs xs)) :
    Calls Try.prog 18 #[.slice A n cap] w fun e w' => ∃ A' cap', e = .returned (.slice A' m cap') ∧ At w' w'.heap.size A' (ivs r) ∧ Below w.heap.size w w' := by
  subst hr; subst hn; subst hm
  refine (rlengths_c A cap xs hx w hc).mono ?_
  rintro e w' ⟨A', cap', rfl, -, -, ha, hb⟩
  exact ⟨A', cap', rfl, ha, hb⟩
theorem fencode_k {A : Option Addr} {cap n : Nat} (xs : List Bool) (hn : xs.length = n) (hx : n ≤ 100000) {w : World} (hc : At w w.heap.size A (bvs xs)) :
    Calls Try.prog 19 #[.slice A n cap] w fun e w' => e = .returned (.string (ba (encF xs))) ∧ Below w.heap.size w w' := by
  subst hn; exact fencode_c A cap xs hx w hc
theorem count_k {A : Option Addr} {cap n : Nat} (xs : List Bool) (c : Int) (h : (cnt xs : Int) = c) (hn : xs.length = n) (hx : n ≤ 100000) {w : World} (hc : At w w.heap.size A (bvs xs)) :
    Calls Try.prog 21 #[.slice A n cap] w fun e w' => e = .returned (.int .i64 c) ∧ w' = w := by
  subst hn; subst h; exact count_c A cap xs hx w hc
theorem spreadF_k {A : Option Addr} {cap m k : Nat} (r : List Int) (most : Int) (l : List Bool) (b : Bool) (h : sprF r most = (l, b)) (hr : r.length = m) (hk : l.length = k) (hm : m ≤ 100000) (hm1 : -9223372036854775808 ≤ most) (hm2 : most ≤ 100000) (hri : ∀ x ∈ r, In64 x) {w : World} (hc : At w w.heap.size A (ivs r)) :
    Calls Try.prog 14 #[.slice A m cap, .int .i64 most] w fun e w' => ∃ A' cap', e = .returned (.tuple #[.slice A' k cap', .bool b]) ∧ At w' w'.heap.size A' (bvs l) ∧ Below w.heap.size w w' := by
  subst hr; subst hk
  refine (spreadF_c A cap r most hm hm1 hm2 hri w hc).mono ?_
  rintro e w' ⟨A', cap', rfl, -, -, ha, hb⟩
  rw [h] at ha ⊢
  exact ⟨A', cap', rfl, ha, hb⟩
theorem fdecode_k (l : List UInt8) (n : Int) (ys : List Bool) (x : Int) (k : Nat) (h : decF l n = (ys, x)) (hk : ys.length = k) (hn1 : -9223372036854775808 ≤ n) (hn2 : n ≤ 9223372036854775807) (hl : l.length ≤ 90000) (w : World) :
    Calls Try.prog 24 #[.string (ba l), .int .i64 n] w fun e w' => ∃ A cap, e = .returned (.tuple #[.slice A k cap, .int .i64 x]) ∧ At w' w'.heap.size A (bvs ys) ∧ Below w.heap.size w w' := by
  subst hk
  refine (fdecode_c l n hn1 hn2 (by omega) w).mono ?_
  rintro e w' ⟨A, cap, rfl, -, -, ha, hb⟩
  rw [h] at ha ⊢
  exact ⟨A, cap, rfl, ha, hb⟩

namespace live7
theorem l1 : lens false [true, true, false] = [0, 2, 1] := rfl
theorem r1 : lenI [true, true, false] = [0, 2, 1] := rfl
theorem r0 : lenI [] = [] := rfl
theorem e1 : encF [true, true, false] = [0, 2, 1] := by
  have h2 : put 2 = [2] := by rw [put_lo (by omega)]; rfl
  have h3 : put 0 = [0] := by rw [put_lo (by omega)]; rfl
  have h4 : put 1 = [1] := by rw [put_lo (by omega)]; rfl
  unfold encF
  rw [l1, encN_cons, encN_cons, encN_cons, encN_nil, h2, h3, h4]
  rfl
theorem d3 : decF [0, 2, 1] 3 = ([true, true, false], 0) := by
  have := decF_enc (l := [true, true, false]) (by decide)
  rw [e1] at this
  exact this
theorem d2 : decF [0, 2, 1] 2 = ([], 5) := rfl
theorem d7 : decF [1, 0, 1] 2 = ([], 5) := rfl
theorem d0 : decF [0] 0 = ([], 5) := rfl
theorem s3 : sprF [0, 2, 1] 3 = ([true, true, false], true) := rfl
theorem s2 : sprF [0, 2, 1] 2 = ([], false) := rfl
theorem s9 : sprF [1, 0, 1] 9 = ([], false) := rfl
theorem ri : ∀ x ∈ ([0, 2, 1] : List Int), In64 x := fun x hx => by simp at hx; rcases hx with rfl | rfl | rfl <;> (unfold In64; omega)
theorem rj : ∀ x ∈ ([1, 0, 1] : List Int), In64 x := fun x hx => by simp at hx; rcases hx with rfl | rfl | rfl <;> (unfold In64; omega)
end live7

set_option maxHeartbeats 8000000 in
theorem live7_c (w : World) :
    Calls Try.prog 13 #[] w fun e w' => e = .returned (.bool true) ∧ Below w.heap.size w w' := by
  go_enter Try.func13, Try.ntmps13
  go_wp2_with fail
  have hv1 := (Below.refl w.heap.size w).alloc (Nat.le_refl _) (.cells (bvs [true, true, false]).toArray 4)
  have hx1 := (Below.refl w.heap.size w).alloc (Nat.le_refl _) (.cells (bvs [true, true, false]).toArray 4)
  have fresh1 := at_new w 4 (bvs [true, true, false])
  clear hx1
  refine (fencode_k [true, true, false] rfl (by decide) fresh1).mono ?_
  rintro e w2 ⟨rfl, hm⟩
  rw [live7.e1]
  rw [show ba [0, 2, 1] = (⟨#[0, 2, 1]⟩ : ByteArray) from rfl]
  have hb2 := hv1.trans (hm.mono hv1.size)
  have L_2 := fresh1.keep hm
  clear fresh1 hm hv1
  go_wp2_with fail
  refine (fdecode_k [0, 2, 1] 3 [true, true, false] 0 3 live7.d3 rfl (by omega) (by omega) (by decide) _).mono ?_
  rintro e w3 ⟨A1, c1, rfl, hatM, hm⟩
  have hb3 := hb2.trans (hm.mono hb2.size)
  have L_3 := L_2.keep hm
  clear L_2 hm hb2
  go_wp2_with fail
  refine (fdecode_k [0, 2, 1] 2 [] 5 0 live7.d2 rfl (by omega) (by omega) (by decide) _).mono ?_
  rintro e w4 ⟨A2, c2, rfl, -, hm⟩
  have hb4 := hb3.trans (hm.mono hb3.size)
  have L_4 := L_3.keep hm
  have M_4 := hatM.keep hm
  clear L_3 hatM hm hb3
  go_wp2_with fail
  refine (fdecode_k [1, 0, 1] 2 [] 5 0 live7.d7 rfl (by omega) (by omega) (by decide) _).mono ?_
  rintro e w5 ⟨A3, c3, rfl, -, hm⟩
  have hb5 := hb4.trans (hm.mono hb4.size)
  have L_5 := L_4.keep hm
  have M_5 := M_4.keep hm
  clear L_4 M_4 hm hb4
  go_wp2_with fail
  refine (fdecode_k [0] 0 [] 5 0 live7.d0 rfl (by omega) (by omega) (by decide) _).mono ?_
  rintro e w6 ⟨A4, c4, rfl, -, hm⟩
  have hb6 := hb5.trans (hm.mono hb5.size)
  have L_6 := L_5.keep hm
  have M_6 := M_5.keep hm
  clear L_5 M_5 hm hb5
  go_wp2_with fail
  have hv7 := hb6.alloc hb6.size (.cells (ivs [0, 2, 1]).toArray 3)
  have hx7 := (Below.refl w6.heap.size w6).alloc (Nat.le_refl _) (.cells (ivs [0, 2, 1]).toArray 3)
  have L_7 := L_6.keep hx7
  have M_7 := M_6.keep hx7
  have fresh7 := at_new w6 3 (ivs [0, 2, 1])
  clear L_6 M_6 hx7 hb6
  refine (spreadF_k [0, 2, 1] 3 [true, true, false] true live7.s3 rfl rfl (by decide) (by omega) (by omega) live7.ri fresh7).mono ?_
  rintro e w8 ⟨A5, c5, rfl, hatK, hm⟩
  have hb8 := hv7.trans (hm.mono hv7.size)
  have L_8 := L_7.keep hm
  have M_8 := M_7.keep hm
  clear L_7 M_7 hm hv7
  go_wp2_with fail
  have hv9 := hb8.alloc hb8.size (.cells (ivs [0, 2, 1]).toArray 3)
  have hx9 := (Below.refl w8.heap.size w8).alloc (Nat.le_refl _) (.cells (ivs [0, 2, 1]).toArray 3)
  have L_9 := L_8.keep hx9
  have M_9 := M_8.keep hx9
  have K_9 := hatK.keep hx9
  have fresh9 := at_new w8 3 (ivs [0, 2, 1])
  clear L_8 M_8 hatK hx9 hb8
  refine (spreadF_k [0, 2, 1] 2 [] false live7.s2 rfl rfl (by decide) (by omega) (by omega) live7.ri fresh9).mono ?_
  rintro e w10 ⟨A6, c6, rfl, -, hm⟩
  have hb10 := hv9.trans (hm.mono hv9.size)
  have L_10 := L_9.keep hm
  have M_10 := M_9.keep hm
  have K_10 := K_9.keep hm
  clear L_9 M_9 K_9 hm hv9
  go_wp2_with fail
  have hv11 := hb10.alloc hb10.size (.cells (ivs [1, 0, 1]).toArray 3)
  have hx11 := (Below.refl w10.heap.size w10).alloc (Nat.le_refl _) (.cells (ivs [1, 0, 1]).toArray 3)
  have L_11 := L_10.keep hx11
  have M_11 := M_10.keep hx11
  have K_11 := K_10.keep hx11
  have fresh11 := at_new w10 3 (ivs [1, 0, 1])
  clear L_10 M_10 K_10 hx11 hb10
  refine (spreadF_k [1, 0, 1] 9 [] false live7.s9 rfl rfl (by decide) (by omega) (by omega) live7.rj fresh11).mono ?_
  rintro e w12 ⟨A7, c7, rfl, -, hm⟩
  have hb12 := hv11.trans (hm.mono hv11.size)
  have L_12 := L_11.keep hm
  have M_12 := M_11.keep hm
  have K_12 := K_11.keep hm
  clear L_11 M_11 K_11 hm hv11
  go_wp2_with fail
  refine (same7_k [true, true, false] [true, true, false] rfl rfl (by decide) (by decide) M_12 L_12).mono ?_
  rintro e w13 ⟨rfl, hm⟩
  rw [show decide (([true, true, false] : List Bool) = [true, true, false]) = true from rfl]
  have hb13 := hb12.trans (hm.mono hb12.size)
  have L_13 := L_12.keep hm
  have M_13 := M_12.keep hm
  have K_13 := K_12.keep hm
  clear L_12 M_12 K_12 hm hb12
  go_wp2_with fail
  refine (same7_k [true, true, false] [true, true, false] rfl rfl (by decide) (by decide) K_13 L_13).mono ?_
  rintro e w14 ⟨rfl, hm⟩
  rw [show decide (([true, true, false] : List Bool) = [true, true, false]) = true from rfl]
  have hb14 := hb13.trans (hm.mono hb13.size)
  have L_14 := L_13.keep hm
  have M_14 := M_13.keep hm
  have K_14 := K_13.keep hm
  clear L_13 M_13 K_13 hm hb13
  go_wp2_with fail
  refine (lengths_k [true, true, false] [0, 2, 1] live7.r1 rfl rfl (by decide) L_14).mono ?_
  rintro e w15 ⟨A8, c8, rfl, -, hatN, hm⟩
  have hb15 := hb14.trans (hm.mono hb14.size)
  have L_15 := L_14.keep hm
  have M_15 := M_14.keep hm
  have K_15 := K_14.keep hm
  clear L_14 M_14 K_14 hm hb14
  go_wp2_with fail
  have hv16 := hb15.alloc hb15.size (.cells (ivs [0, 2, 1]).toArray 3)
  have hx16 := (Below.refl w15.heap.size w15).alloc (Nat.le_refl _) (.cells (ivs [0, 2, 1]).toArray 3)
  have L_16 := L_15.keep hx16
  have M_16 := M_15.keep hx16
  have K_16 := K_15.keep hx16
  have N_16 := hatN.keep hx16
  have fresh16 := at_new w15 3 (ivs [0, 2, 1])
  clear L_15 M_15 K_15 hatN hx16 hb15
  refine (same5_k [0, 2, 1] [0, 2, 1] rfl rfl (by decide) (by decide) N_16 fresh16).mono ?_
  rintro e w17 ⟨rfl, hm⟩
  rw [show decide (([0, 2, 1] : List Int) = [0, 2, 1]) = true from rfl]
  have hb17 := hv16.trans (hm.mono hv16.size)
  have L_17 := L_16.keep hm
  have M_17 := M_16.keep hm
  have K_17 := K_16.keep hm
  have N_17 := N_16.keep hm
  clear L_16 M_16 K_16 N_16 hm hv16
  go_wp2_with fail
  refine (lengths_k [] [] live7.r0 rfl rfl (by decide) (At.nil _ _ _)).mono ?_
  rintro e w18 ⟨A9, c9, rfl, -, -, hm⟩
  have hb18 := hb17.trans (hm.mono hb17.size)
  have L_18 := L_17.keep hm
  have M_18 := M_17.keep hm
  have K_18 := K_17.keep hm
  have N_18 := N_17.keep hm
  clear L_17 M_17 K_17 N_17 hm hb17
  go_wp2_with fail
  refine (count_k [true, true, false] 2 rfl rfl (by decide) L_18).mono ?_
  rintro e w19' ⟨rfl, rfl⟩
  go_wp2
  go_ret
  exact ⟨rfl, hb18⟩
end Go.Proofs.Ytiehmeheilfocaa
