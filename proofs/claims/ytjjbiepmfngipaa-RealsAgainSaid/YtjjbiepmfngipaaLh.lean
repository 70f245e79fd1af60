/-
  Contracts at written lengths; what the document gives for answers (live of the layer reals).
-/
import Derived.Test.YtjjbiepmfngipaaLg
namespace Go.Proofs.Ytjjbiepmfngipaa
open Go.RowKit Go.IntWalk
open Pk Fl Re
set_option maxRecDepth 100000

theorem encodeR_k {A : Option Addr} {cap n : Nat} (xs us : List Nat) (S : ByteArray) (hn : n = xs.length) (hu : cbs xs = us) (hS : ba (encR us) = S) (hx : xs.length ≤ 100000) (hw : Words xs) {w : World} (hc : At w w.heap.size A (fvs xs)) :
    Calls Try.prog 16 #[.slice A n cap] w fun e w' => e = .returned (.string S) ∧ Below w.heap.size w w' := by
  subst hn hu hS
  exact encodeR_c A cap xs hx hw w hc
theorem decodeR_k {S : ByteArray} (l : List UInt8) (n : Int) (us : List Nat) (x : Int) (hS : S = ba l) (hr : decR l n = (us, x)) (hn1 : -9223372036854775808 ≤ n) (hn2 : n ≤ 9223372036854775807) (hl : l.length ≤ 100000) (w : World) :
    Calls Try.prog 20 #[.string S, .int .i64 n] w fun e w' => ∃ A cap ys, e = .returned (.tuple #[.slice A ys.length cap, .int .i64 x]) ∧ cbs ys = us ∧ Words ys ∧ ys.length = us.length ∧ At w' w'.heap.size A (fvs ys) ∧ Below w.heap.size w w' := by
  subst hS
  have := decodeR_c l n hn1 hn2 hl w
  rw [hr] at this
  refine this.mono ?_
  rintro e w' ⟨A, cap, ys, he, h1, h2, h3, h4⟩
  exact ⟨A, cap, ys, he, h1, h2, by have := congrArg List.length h1; rwa [cbs_len] at this, h3, h4⟩
theorem same9_k {A1 A2 : Option Addr} {c1 c2 n1 n2 : Nat} (xs ys us vs : List Nat) (b : Bool) (h1 : n1 = xs.length) (h2 : n2 = ys.length) (hu : cbs xs = us) (hv : cbs ys = vs) (hb : decide (us = vs) = b) (hx : xs.length ≤ 100000) (hy : ys.length ≤ 100000) (hwx : Words xs) (hwy : Words ys) {w : World}
    (ha1 : At w w.heap.size A1 (fvs xs)) (ha2 : At w w.heap.size A2 (fvs ys)) :
    Calls Try.prog 18 #[.slice A1 n1 c1, .slice A2 n2 c2] w fun e w' => e = .returned (.bool b) ∧ Below w.heap.size w w' := by
  subst h1 h2 hu hv hb
  exact same9_c A1 A2 c1 c2 xs ys (by unfold maxLen; omega) (by unfold maxLen; omega) hwx hwy w ha1 ha2
theorem swap_k {x : Int} (u : Nat) (v : Int) (hx : x = (u : Int)) (hu : u < 18446744073709551616) (hv : ((sw u : Nat) : Int) = v) (w : World) :
    Calls Try.prog 14 #[.int .u64 x] w fun e w' => e = .returned (.int .u64 v) ∧ w = w' := by
  subst hx hv
  exact swap_c u hu w

namespace live9
theorem p2 {n a b : Nat} (h1 : 128 ≤ n) (h2 : n / 128 < 128) (ha : n % 128 + 128 = a) (hb : n / 128 = b) : put n = [UInt8.ofNat a, UInt8.ofNat b] := by rw [put_hi h1, put_lo h2, ha, hb]
theorem p3 {n a b c : Nat} (h1 : 128 ≤ n) (h2 : 128 ≤ n / 128) (h3 : n / 128 / 128 < 128) (ha : n % 128 + 128 = a) (hb : n / 128 % 128 + 128 = b) (hc : n / 128 / 128 = c) : put n = [UInt8.ofNat a, UInt8.ofNat b, UInt8.ofNat c] := by
  rw [put_hi h1, put_hi h2, put_lo h3, ha, hb, hc]
theorem e1 : ba (encR [4607182418800017408, 4607182418800017408]) = (⟨#[191, 224, 3, 0]⟩ : ByteArray) := by
  have h1 : put 61503 = [191, 224, 3] := p3 (by decide) (by decide) (by decide) rfl rfl rfl
  have h2 : put 0 = [0] := by rw [put_lo (by omega)]; rfl
  have h3 : sw (4607182418800017408 ^^^ 0) = 61503 := by decide
  have h4 : sw (4607182418800017408 ^^^ 4607182418800017408) = 0 := by decide
  rw [encR, dx, dx, dx, encS_cons, encS_cons, h3, h4, h1, h2]
  rfl
theorem e2 : ba (encR [9223372036854775808, 9221120237041090560]) = (⟨#[128, 1, 255, 241, 3]⟩ : ByteArray) := by
  have h1 : put 128 = [128, 1] := p2 (by decide) (by decide) rfl rfl
  have h2 : put 63743 = [255, 241, 3] := p3 (by decide) (by decide) (by decide) rfl rfl rfl
  have h3 : sw (9223372036854775808 ^^^ 0) = 128 := by decide
  have h4 : sw (9221120237041090560 ^^^ 9223372036854775808) = 63743 := by decide
  rw [encR, dx, dx, dx, encS_cons, encS_cons, h3, h4, h1, h2]
  rfl
theorem d2 : decR [191, 224, 3, 0] 2 = ([4607182418800017408, 4607182418800017408], 0) := by decide +kernel
theorem d1 : decR [191, 224, 3, 0] 1 = ([], 5) := by decide +kernel
theorem d9 : decR [191, 224, 3, 0] 9 = ([], 2) := by decide +kernel
theorem dt : decR [128, 1, 255, 241, 3] 2 = ([9223372036854775808, 9221120237041090560], 0) := by decide +kernel
theorem df : decR [255, 255, 255, 255, 255, 255, 255, 255, 255, 1] 1 = ([], 5) := by decide +kernel
theorem dn : decR [] (-1) = ([], 1) := by decide +kernel
theorem neg0 : Op.negFloat .f64 0 = 9223372036854775808 := by decide
theorem w1 : Words [4607182418800017408, 4607182418800017408] := fun u hu => by simp at hu; omega
theorem w2 {y : Nat} (hy : y < 18446744073709551616) (x : Nat) (hx : x < 18446744073709551616) : Words [x, y] := fun u hu => by simp at hu; omega
theorem c1 : cbs [4607182418800017408, 4607182418800017408] = [4607182418800017408, 4607182418800017408] := by decide
theorem c2 {y : Nat} (hy : nn y = true) : cbs [9223372036854775808, y] = [9223372036854775808, 9221120237041090560] := by
  have h : cb 9223372036854775808 = 9223372036854775808 := by decide
  simp only [cbs, List.map_cons, List.map_nil, h, cb_nan hy]
theorem c3 {y : Nat} (hy : nn y = true) : cbs [0, y] = [0, 9221120237041090560] := by
  have h : cb 0 = 0 := by decide
  simp only [cbs, List.map_cons, List.map_nil, h, cb_nan hy]
theorem dec_t {us vs : List Nat} (h : us = vs) : decide (us = vs) = true := by simp [h]
theorem dec_f {us vs : List Nat} (h : us ≠ vs) : decide (us = vs) = false := by simp [h]
theorem q3 : [9223372036854775808, 9221120237041090560] ≠ [0, 9221120237041090560] := by simp
theorem l2 (a b : Nat) : 2 = [a, b].length := rfl
end live9

theorem at_drew {w : World} {A : Option Addr} {xs : List Value} (h : At w w.heap.size A xs) : At w.drew w.drew.heap.size A xs := h
set_option maxHeartbeats 4000000 in
theorem live9_c (w : World) :
    Calls Try.prog 13 #[] w fun e w' => e = .returned (.bool true) ∧ Below w.heap.size w w' := by
  have hd0 := run_float_none Try.prog w .quo 33 0 0 (.inl rfl) (by decide)
  obtain ⟨hyn, hyl⟩ := nanW_nn 0 0 w
  obtain ⟨y, hy⟩ : ∃ y, y = nanW 0 0 w := ⟨_, rfl⟩
  rw [← hy] at hd0 hyn hyl
  have hneg := live9.neg0
  have HC2 := Lib.hid (live9.c2 hyn)
  have HC3 := Lib.hid (live9.c3 hyn)
  have HW2 := Lib.hid (live9.w2 hyl 9223372036854775808 (by decide))
  have HW3 := Lib.hid (live9.w2 hyl 0 (by decide))
  clear hy hyn hyl
  go_enter Try.func13, Try.ntmps13
  go_wp2_with fail
  have hv0 := ((Below.refl w.heap.size w).alloc (Nat.le_refl _) (.cells (fvs [4607182418800017408, 4607182418800017408]).toArray 33)).drew
  refine (encodeR_k [4607182418800017408, 4607182418800017408] _ (⟨#[191, 224, 3, 0]⟩ : ByteArray) rfl live9.c1 live9.e1 (by simp) live9.w1 (at_drew (at_new w 33 (fvs [4607182418800017408, 4607182418800017408])))).mono ?_
  rintro e w1 ⟨rfl, hm⟩
  have hb1 := hv0.trans (hm.mono hv0.size)
  clear hv0 hm hd0
  go_wp2_with fail
  refine (decodeR_k [191, 224, 3, 0] 2 _ 0 (by rfl) live9.d2 (by decide) (by decide) (by decide) _).mono ?_
  rintro e w2 ⟨A2, k2, l2, rfl, q2, g2, n2, a2, hm⟩
  have hb2 := hb1.trans (hm.mono hb1.size)
  clear hm hb1
  go_wp2_with fail
  refine (decodeR_k [191, 224, 3, 0] 1 _ 5 (by rfl) live9.d1 (by decide) (by decide) (by decide) _).mono ?_
  rintro e w3 ⟨A3, k3, l3, rfl, -, -, -, -, hm⟩
  have hb3 := hb2.trans (hm.mono hb2.size)
  have a3 := a2.keep hm
  clear hm hb2 a2
  go_wp2_with fail
  refine (decodeR_k [191, 224, 3, 0] 9 _ 2 (by rfl) live9.d9 (by decide) (by decide) (by decide) _).mono ?_
  rintro e w4 ⟨A4, k4, l4, rfl, -, -, -, -, hm⟩
  have hb4 := hb3.trans (hm.mono hb3.size)
  have a4 := a3.keep hm
  clear hm hb3 a3
  go_wp2_with fail
  have hv5 := hb4.alloc hb4.size (.cells (fvs [9223372036854775808, y]).toArray 33)
  have hx5 := (Below.refl w4.heap.size w4).alloc (Nat.le_refl _) (.cells (fvs [9223372036854775808, y]).toArray 33)
  have a5 := a4.keep hx5
  refine (encodeR_k [9223372036854775808, y] _ (⟨#[128, 1, 255, 241, 3]⟩ : ByteArray) rfl HC2.out live9.e2 (by simp) HW2.out (at_new w4 33 (fvs [9223372036854775808, y]))).mono ?_
  rintro e w6 ⟨rfl, hm⟩
  have hb6 := hv5.trans (hm.mono hv5.size)
  have a6 := a5.keep hm
  clear hv5 hx5 hm a4 a5 hb4
  go_wp2_with fail
  refine (decodeR_k [128, 1, 255, 241, 3] 2 _ 0 (by rfl) live9.dt (by decide) (by decide) (by decide) _).mono ?_
  rintro e w7 ⟨A7, k7, l7, rfl, q7, g7, n7, b7, hm⟩
  have hb7 := hb6.trans (hm.mono hb6.size)
  have a7 := a6.keep hm
  clear hm hb6 a6
  go_wp2_with fail
  refine (decodeR_k [255, 255, 255, 255, 255, 255, 255, 255, 255, 1] 1 _ 5 (by rfl) live9.df (by decide) (by decide) (by decide) _).mono ?_
  rintro e w8 ⟨A8, k8, l8, rfl, -, -, -, -, hm⟩
  have hb8 := hb7.trans (hm.mono hb7.size)
  have a8 := a7.keep hm
  have b8 := b7.keep hm
  clear hm hb7 a7 b7
  go_wp2_with fail
  refine (decodeR_k [] (-1) _ 1 (by rfl) live9.dn (by decide) (by decide) (by decide) _).mono ?_
  rintro e w9 ⟨A9, k9, l9, rfl, -, -, -, -, hm⟩
  have hb9 := hb8.trans (hm.mono hb8.size)
  have a9 := a8.keep hm
  have b9 := b8.keep hm
  clear hm hb8 a8 b8
  go_wp2_with fail
  have hv10 := hb9.alloc hb9.size (.cells (fvs [4607182418800017408, 4607182418800017408]).toArray 33)
  have hx10 := (Below.refl w9.heap.size w9).alloc (Nat.le_refl _) (.cells (fvs [4607182418800017408, 4607182418800017408]).toArray 33)
  have a10 := a9.keep hx10
  have b10 := b9.keep hx10
  refine (same9_k l2 [4607182418800017408, 4607182418800017408] _ _ true (show 2 = l2.length from n2.symm) (live9.l2 _ _) q2 live9.c1 (live9.dec_t rfl) (by rw [n2]; simp) (by simp) g2 live9.w1 a10 (at_new w9 33 (fvs [4607182418800017408, 4607182418800017408]))).mono ?_
  rintro e w11 ⟨rfl, hm⟩
  have hb11 := hv10.trans (hm.mono hv10.size)
  have b11 := b10.keep hm
  clear hm hv10 hx10 a10 b10 hb9 a9 b9
  go_wp2_with fail
  have hv12 := hb11.alloc hb11.size (.cells (fvs [9223372036854775808, y]).toArray 33)
  have hx12 := (Below.refl w11.heap.size w11).alloc (Nat.le_refl _) (.cells (fvs [9223372036854775808, y]).toArray 33)
  have b12 := b11.keep hx12
  refine (same9_k l7 [9223372036854775808, y] _ _ true (show 2 = l7.length from n7.symm) (live9.l2 _ _) q7 HC2.out (live9.dec_t rfl) (by rw [n7]; simp) (by simp) g7 HW2.out b12 (at_new w11 33 (fvs [9223372036854775808, y]))).mono ?_
  rintro e w13 ⟨rfl, hm⟩
  have hb13 := hv12.trans (hm.mono hv12.size)
  have b13 := b12.keep hm
  clear hm hv12 hx12 b12 hb11 b11
  go_wp2_with fail
  have hv14 := hb13.alloc hb13.size (.cells (fvs [0, y]).toArray 33)
  have hx14 := (Below.refl w13.heap.size w13).alloc (Nat.le_refl _) (.cells (fvs [0, y]).toArray 33)
  have b14 := b13.keep hx14
  refine (same9_k l7 [0, y] _ _ false (show 2 = l7.length from n7.symm) (live9.l2 _ _) q7 HC3.out (live9.dec_f live9.q3) (by rw [n7]; simp) (by simp) g7 HW3.out b14 (at_new w13 33 (fvs [0, y]))).mono ?_
  rintro e w15 ⟨rfl, hm⟩
  have hb15 := hv14.trans (hm.mono hv14.size)
  clear hm hv14 hx14 b14 hb13 b13
  go_wp2_with fail
  refine (swap_k 1 72057594037927936 (by rfl) (by decide) (by decide) _).mono ?_
  rintro e wz ⟨rfl, rfl⟩
  go_wp2
  go_ret
  exact ⟨rfl, hb15⟩
end Go.Proofs.Ytjjbiepmfngipaa
