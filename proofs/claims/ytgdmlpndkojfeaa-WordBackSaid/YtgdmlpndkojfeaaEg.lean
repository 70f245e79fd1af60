/-
  The document's examples of layer 4: 'live'.
-/
import Derived.Test.YtgdmlpndkojfeaaEe
namespace Go.Proofs.Ytgdmlpndkojfeaa
open Go.RowKit
open Wd Pk
set_option maxRecDepth 100000

namespace live4
theorem en (l : List UInt8) (n : Nat) (r : List UInt8) (a b : Nat) (h : sgn l = n) (hn : 0 < n) (hd : l.drop n = r) (hr : ends r = a ∧ cnt r = b) : ends l = n + a ∧ cnt l = 1 + b := by
  have := ends_step h hn
  rw [hd, hr.1, hr.2] at this
  exact this
theorem e0 : ends [] = 0 ∧ cnt [] = 0 := ends_stop sgn_nil
theorem eff : ends [255] = 0 ∧ cnt [255] = 0 := ends_stop (by decide)
theorem eaff : ends [97, 255] = 1 ∧ cnt [97, 255] = 1 := en _ 1 [255] 0 0 (by decide) (by omega) rfl eff
theorem eeu : ends [226, 130, 172] = 3 ∧ cnt [226, 130, 172] = 1 := en _ 3 [] 0 0 (by decide) (by omega) rfl e0
theorem eaeu : ends [195, 164, 226, 130, 172] = 5 ∧ cnt [195, 164, 226, 130, 172] = 2 := en _ 2 [226, 130, 172] 3 1 (by decide) (by omega) rfl eeu
theorem eaaeu : ends [97, 195, 164, 226, 130, 172] = 6 ∧ cnt [97, 195, 164, 226, 130, 172] = 3 := en _ 1 [195, 164, 226, 130, 172] 5 2 (by decide) (by omega) rfl eaeu
theorem eae : ends [195, 164] = 2 ∧ cnt [195, 164] = 1 := en _ 2 [] 0 0 (by decide) (by omega) rfl e0
theorem eaae : ends [97, 195, 164] = 3 ∧ cnt [97, 195, 164] = 2 := en _ 1 [195, 164] 2 1 (by decide) (by omega) rfl eae
theorem ec3 : ends [195] = 0 ∧ cnt [195] = 0 := ends_stop (by decide)
theorem eac3 : ends [97, 195] = 1 ∧ cnt [97, 195] = 1 := en _ 1 [195] 0 0 (by decide) (by omega) rfl ec3
theorem ec3y : ends [195, 121] = 0 ∧ cnt [195, 121] = 0 := ends_stop (by decide)
theorem ec080 : ends [192, 128] = 0 ∧ cnt [192, 128] = 0 := ends_stop (by decide)
theorem eeda : ends [237, 160, 128] = 0 ∧ cnt [237, 160, 128] = 0 := ends_stop (by decide)
theorem vt {l : List UInt8} {n : Nat} (h : ends l = n) (hn : l.length = n) : valid l = true := by rw [valid_iff, h, hn]
theorem vf {l : List UInt8} {n : Nat} (h : ends l = n) (hn : l.length ≠ n) : valid l = false := by
  cases hv : valid l
  · rfl
  · have := valid_iff.1 hv
    omega
theorem f1 : fstV [97, 255] = 1 ∧ valid [97, 255] = false := by
  have hv := vf eaff.1 (by decide)
  exact ⟨by unfold fstV; rw [if_neg (by rw [hv]; simp), eaff.1], hv⟩
theorem f2 : valid [195, 164, 226, 130, 172] = true := vt eaeu.1 rfl
theorem f3 : cntV [97, 195, 164, 226, 130, 172] = 3 ∧ valid [97, 195, 164, 226, 130, 172] = true := by
  have hv := vt eaaeu.1 rfl
  exact ⟨by unfold cntV; rw [if_pos hv, eaaeu.2], hv⟩
theorem t1 : tk [120, 2, 195, 164, 121] 1 9 = ([195, 164], 4, 0) := tk_ok (k := 1) (v := 2) (st := ⟨[195, 164, 121], 0⟩) (by decide) rfl rfl rfl (by omega) (by decide) (vt eae.1 rfl)
theorem t2 : tk [2, 195, 121] 0 9 = ([], 0, 4) := tk_text (k := 0) (v := 2) (st := ⟨[195, 121], 0⟩) (by decide) rfl rfl rfl (by omega) (by decide) (vf ec3y.1 (by decide))
theorem t3 : tk [2, 97, 98] 0 1 = ([], 0, 10) := tk_big (k := 0) (v := 2) (st := ⟨[97, 98], 0⟩) (by decide) rfl rfl rfl (.inr (by omega))
theorem t4 : tk [5, 97, 98] 0 9 = ([], 0, 2) := tk_cut (k := 0) (v := 5) (st := ⟨[97, 98], 0⟩) (by decide) rfl rfl rfl (by omega) (by decide)
theorem t5 : tk [] 1 9 = ([], 0, 1) := tk_arg (.inr (by decide))
theorem c1 : cutV [97, 195, 164] 2 = [97] := by
  have : room [97, 195, 164] 2 = 2 := by decide
  unfold cutV; rw [this, show ([97, 195, 164] : List UInt8).take 2 = [97, 195] from rfl, eac3.1]; rfl
theorem c2 : cutV [97, 195, 164] 3 = [97, 195, 164] := by
  have : room [97, 195, 164] 3 = 3 := by decide
  unfold cutV; rw [this, show ([97, 195, 164] : List UInt8).take 3 = [97, 195, 164] from rfl, eaae.1]; rfl
theorem p2 : Pk.put 2 = [2] := by rw [Pk.put_lo (by omega)]; rfl
end live4

open live4 in
set_option maxHeartbeats 4000000 in
theorem live4_c (w : World) :
    Calls Try.prog 38 #[] w fun e w' => e = .returned (.bool true) ∧ Below w.heap.size w w' := by
  go_enter Try.func38, Try.ntmps38
  go_wp2_with fail
  refine (first_c [97, 255] (by decide) _).mono ?_
  rintro e wz ⟨rfl, rfl⟩
  rw [f1.1, f1.2]
  go_wp2_with fail
  refine (first_c [195, 164, 226, 130, 172] (by decide) _).mono ?_
  rintro e wz ⟨rfl, rfl⟩
  rw [f2]
  go_wp2_with fail
  refine (count_c [97, 195, 164, 226, 130, 172] (by decide) _).mono ?_
  rintro e wz ⟨rfl, rfl⟩
  rw [f3.1, f3.2]
  go_wp2_with fail
  refine (take_w [120, 2, 195, 164, 121] (by decide) 1 9 (by omega) _).mono ?_
  rintro e w1 ⟨htk, hm1⟩
  unfold Tk at htk
  rw [t1] at htk
  subst htk
  rw [show ba [195, 164] = (⟨#[195, 164]⟩ : ByteArray) from rfl]
  have hb1 := (Below.refl w.heap.size w).trans (hm1.mono (Below.refl w.heap.size w).size)
  clear hm1
  go_wp2_with fail
  refine (take_w [2, 195, 121] (by decide) 0 9 (by omega) _).mono ?_
  rintro e w2 ⟨htk, hm2⟩
  unfold Tk at htk
  rw [t2] at htk
  subst htk
  have hb2 := hb1.trans (hm2.mono hb1.size)
  clear hm2
  go_wp2_with fail
  refine (take_w [2, 97, 98] (by decide) 0 1 (by omega) _).mono ?_
  rintro e w3 ⟨htk, hm3⟩
  unfold Tk at htk
  rw [t3] at htk
  subst htk
  have hb3 := hb2.trans (hm3.mono hb2.size)
  clear hm3
  go_wp2_with fail
  refine (take_w [5, 97, 98] (by decide) 0 9 (by omega) _).mono ?_
  rintro e w4 ⟨htk, hm4⟩
  unfold Tk at htk
  rw [t4] at htk
  subst htk
  have hb4 := hb3.trans (hm4.mono hb3.size)
  clear hm4
  go_wp2_with fail
  refine (take_w [] (by decide) 1 9 (by omega) _).mono ?_
  rintro e w5 ⟨htk, hm5⟩
  unfold Tk at htk
  rw [t5] at htk
  subst htk
  have hb5 := hb4.trans (hm5.mono hb4.size)
  clear hm5
  go_wp2_with fail
  refine (valid_c [] (by decide) _).mono ?_
  rintro e wz ⟨rfl, rfl⟩
  rw [show valid [] = true from vt e0.1 rfl]
  go_wp2_with fail
  refine (valid_c [192, 128] (by decide) _).mono ?_
  rintro e wz ⟨rfl, rfl⟩
  rw [show valid [192, 128] = false from vf ec080.1 (by decide)]
  go_wp2_with fail
  refine (valid_c [237, 160, 128] (by decide) _).mono ?_
  rintro e wz ⟨rfl, rfl⟩
  rw [show valid [237, 160, 128] = false from vf eeda.1 (by decide)]
  go_wp2_with fail
  refine (cut_c [97, 195, 164] (by decide) 2 _).mono ?_
  rintro e wz ⟨rfl, rfl⟩
  rw [c1, show ba [97] = (⟨#[97]⟩ : ByteArray) from rfl]
  go_wp2_with fail
  refine (cut_c [97, 195, 164] (by decide) 3 _).mono ?_
  rintro e wz ⟨rfl, rfl⟩
  rw [c2, show ba [97, 195, 164] = (⟨#[97, 195, 164]⟩ : ByteArray) from rfl]
  go_wp2_with fail
  refine (wput_c [97, 98] (by decide) _).mono ?_
  rintro e w9 ⟨rfl, hm9⟩
  rw [show ba (Pk.put ([97, 98] : List UInt8).length ++ ([97, 98] : List UInt8)) = (⟨#[2, 97, 98]⟩ : ByteArray) from by rw [show ([97, 98] : List UInt8).length = 2 from rfl, p2]; rfl]
  have hb9 := hb5.trans (hm9.mono hb5.size)
  clear hm9
  go_wp2
  go_ret
  exact ⟨rfl, hb9⟩
end Go.Proofs.Ytgdmlpndkojfeaa
