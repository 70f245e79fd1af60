/-
  The document's examples of layer 5: 'live'.
-/
import Derived.Test.YtacnbgfddidfiaaRi
import Derived.Test.YtacnbgfddidfiaaRf
import Derived.Test.YtacnbgfddidfiaaRg
namespace Go.Proofs.Ytacnbgfddidfiaa
open Go.RowKit Go.IntWalk
open Pk
set_option maxRecDepth 100000

theorem at_new (w : World) (t : TypeId) (l : List Value) : At (w.alloc (.cells l.toArray t)) (w.alloc (.cells l.toArray t)).heap.size (some ⟨w.heap.size, 0, none⟩) l := fun i v hv =>
  ⟨w.heap.size, 0, rfl, by simp, by rw [is_cell (is_new w t l), Nat.zero_add]; exact hv⟩

/-- the contracts, at a length that is written -/
theorem deltas_k {A : Option Addr} {cap n : Nat} (xs : List Int) (hn : xs.length = n) (hx : n ≤ 100000) {w : World} (hc : At w w.heap.size A (ivs xs)) :
    Calls Try.prog 15 #[.slice A n cap] w fun e w' => ∃ A' cap', e = .returned (.slice A' n cap') ∧ n ≤ cap' ∧ Fresh w.heap.size A' ∧ At w' w'.heap.size A' (ivs (dl 0 xs)) ∧ Below w.heap.size w w' := by
  subst hn; exact deltas_c A cap xs hx w hc
theorem sums_k {A : Option Addr} {cap n : Nat} (xs : List Int) (hn : xs.length = n) (hx : n ≤ 100000) {w : World} (hc : At w w.heap.size A (ivs xs)) :
    Calls Try.prog 17 #[.slice A n cap] w fun e w' => ∃ A' cap', e = .returned (.slice A' n cap') ∧ n ≤ cap' ∧ Fresh w.heap.size A' ∧ At w' w'.heap.size A' (ivs (sm 0 xs)) ∧ Below w.heap.size w w' := by
  subst hn; exact sums_c A cap xs hx w hc
theorem encode_k {A : Option Addr} {cap n : Nat} (xs : List Int) (hn : xs.length = n) (hx : n ≤ 100000) {w : World} (hc : At w w.heap.size A (ivs xs)) :
    Calls Try.prog 19 #[.slice A n cap] w fun e w' => e = .returned (.string (ba (encL xs))) ∧ Below w.heap.size w w' := by
  subst hn; exact encode_c A cap xs hx w hc
theorem rising_k {A : Option Addr} {cap n : Nat} (xs : List Int) (hn : xs.length = n) (hx : n ≤ 100000) (hcap : n ≤ cap) {w : World} (hc : At w w.heap.size A (ivs xs)) :
    Calls Try.prog 21 #[.slice A n cap] w fun e w' => e = .returned (.bool (rises xs)) ∧ Below w.heap.size w w' := by
  subst hn; exact rising_c A cap xs hx hcap w hc
theorem same5_k {A1 A2 : Option Addr} {c1 c2 n m : Nat} (xs ys : List Int) (hn : xs.length = n) (hm : ys.length = m) (hx : n ≤ 100000) (hy : m ≤ 100000) {w : World} (h1 : At w w.heap.size A1 (ivs xs)) (h2 : At w w.heap.size A2 (ivs ys)) :
    Calls Try.prog 14 #[.slice A1 n c1, .slice A2 m c2] w fun e w' => e = .returned (.bool (decide (xs = ys))) ∧ Below w.heap.size w w' := by
  subst hn; subst hm; exact same5_c A1 A2 c1 c2 xs ys (by unfold maxLen; omega) (by unfold maxLen; omega) w h1 h2
theorem decode_k (l : List UInt8) (n : Int) (ys : List Int) (x : Int) (k : Nat) (h : decV l n = (ys, x)) (hk : ys.length = k) (hn1 : -9223372036854775808 ≤ n) (hn2 : n ≤ 9223372036854775807) (hl : l.length ≤ 100000) (w : World) :
    Calls Try.prog 23 #[.string (ba l), .int .i64 n] w fun e w' => ∃ A cap, e = .returned (.tuple #[.slice A k cap, .int .i64 x]) ∧ At w' w'.heap.size A (ivs ys) ∧ Below w.heap.size w w' := by
  subst hk
  refine (decode_c l n hn1 hn2 hl w).mono ?_
  rintro e w' ⟨A, cap, rfl, -, -, ha, hb⟩
  rw [h] at ha ⊢
  exact ⟨A, cap, rfl, ha, hb⟩

namespace live5
theorem e1 : encL [5, 3] = [10, 3] := by
  have h1 : put 10 = [10] := by rw [put_lo (by omega)]; rfl
  have h2 : put 3 = [3] := by rw [put_lo (by omega)]; rfl
  have h3 : dl 0 [5, 3] = [5, -2] := rfl
  have h4 : zig 5 = 10 := rfl
  have h5 : zig (-2) = 3 := rfl
  unfold encL
  rw [h3, encD_cons, encD_cons, encD_nil, h4, h5, h1, h2]
  rfl
theorem d2 : decV [10, 3] 2 = ([5, 3], 0) := by
  have := dec_enc [5, 3] (fun x hx => by simp at hx; rcases hx with rfl | rfl <;> (unfold In64; omega))
  rw [e1] at this
  exact this
theorem d1 : decV [10, 3] 1 = ([], 5) := by
  have h1 : put 10 = [10] := by rw [put_lo (by omega)]; rfl
  have h := rdn_enc [5] [3] (fun x hx => by simp at hx; subst hx; unfold In64; omega)
  rw [encD_cons, encD_nil, show zig 5 = 10 from rfl, h1] at h
  have h' : rdn 1 ⟨[10, 3], 0⟩ = ([5], ⟨[3], 0⟩) := h
  have := @decV_bad [10, 3] 1 (by decide) (by rw [h']; decide)
  rw [h'] at this
  exact this
theorem d3 : decV [10, 3] 3 = ([], 2) := decV_far (by decide)
theorem dl1 : decV [128, 0] 1 = ([], 3) := by
  have h : numS ⟨[128, 0], 0⟩ = ⟨[128, 0], 3⟩ := rfl
  have h' : (rdn 1 ⟨[128, 0], 0⟩).2 = ⟨[128, 0], 3⟩ := by rw [rdn]; exact h
  have := @decV_bad [128, 0] 1 (by decide) (by rw [h']; decide)
  rw [h'] at this
  exact this
theorem dn : decV [] (-1) = ([], 1) := decV_neg (by omega)
theorem d0 : decV [] 0 = ([], 0) := rfl
end live5
set_option maxHeartbeats 4000000 in
theorem live5_c (w : World) :
    Calls Try.prog 13 #[] w fun e w' => e = .returned (.bool true) ∧ Below w.heap.size w w' := by
  go_enter Try.func13, Try.ntmps13
  go_wp2_with fail
  refine (encode_k [5, 3] rfl (by decide) (at_new w 3 (ivs [5, 3]))).mono ?_
  rintro e w1 ⟨rfl, hm1⟩
  have hb1 := ((Below.refl w.heap.size w).alloc (Nat.le_refl _) (.cells (ivs [5, 3]).toArray 3)).trans (hm1.mono (by simp))
  clear hm1
  rw [live5.e1, show ba [10, 3] = (⟨#[10, 3]⟩ : ByteArray) from rfl]
  go_wp2_with fail
  refine (decode_k [10, 3] (2) [5, 3] 0 2 live5.d2 rfl (by omega) (by omega) (by decide) _).mono ?_
  rintro e w2 ⟨A2, cap2, rfl, hat2, hm2⟩
  have hb2 := hb1.trans (hm2.mono hb1.size)
  clear hm2
  go_wp2_with fail
  refine (decode_k [10, 3] (1) [] 5 0 live5.d1 rfl (by omega) (by omega) (by decide) _).mono ?_
  rintro e w3 ⟨A3, cap3, rfl, hat3, hm3⟩
  have hb3 := hb2.trans (hm3.mono hb2.size)
  go_wp2_with fail
  refine (decode_k [10, 3] (3) [] 2 0 live5.d3 rfl (by omega) (by omega) (by decide) _).mono ?_
  rintro e w4 ⟨A4, cap4, rfl, hat4, hm4⟩
  have hb4 := hb3.trans (hm4.mono hb3.size)
  go_wp2_with fail
  refine (decode_k [128, 0] (1) [] 3 0 live5.dl1 rfl (by omega) (by omega) (by decide) _).mono ?_
  rintro e w5 ⟨A5, cap5, rfl, hat5, hm5⟩
  have hb5 := hb4.trans (hm5.mono hb4.size)
  go_wp2_with fail
  refine (decode_k [] (-1) [] 1 0 live5.dn rfl (by omega) (by omega) (by decide) _).mono ?_
  rintro e w6 ⟨A6, cap6, rfl, hat6, hm6⟩
  have hb6 := hb5.trans (hm6.mono hb5.size)
  go_wp2_with fail
  refine (decode_k [] (0) [] 0 0 live5.d0 rfl (by omega) (by omega) (by decide) _).mono ?_
  rintro e w7 ⟨A7, cap7, rfl, hat7, hm7⟩
  have hb7 := hb6.trans (hm7.mono hb6.size)
  go_wp2_with fail
  have hx8 := (Below.refl w7.heap.size w7).alloc (Nat.le_refl _) (.cells (ivs [5, 3]).toArray 3)
  have hv8 := hb7.alloc hb7.size (.cells (ivs [5, 3]).toArray 3)
  refine (same5_k [5, 3] [5, 3] rfl rfl (by decide) (by decide) ((((((hat2.keep hm3).keep hm4).keep hm5).keep hm6).keep hm7).keep hx8) (at_new w7 3 (ivs [5, 3]))).mono ?_
  rintro e w9 ⟨rfl, hm9⟩
  rw [show decide (([5, 3] : List Int) = [5, 3]) = true from rfl]
  have hb9 := hv8.trans (hm9.mono hv8.size)
  clear hm3 hm4 hm5 hm6 hm7 hx8 hv8 hm9 hat2 hat3 hat4 hat5 hat6 hat7 hb1 hb2 hb3 hb4 hb5 hb6 hb7
  go_wp2_with fail
  have hv10 := hb9.alloc hb9.size (.cells (ivs [5, 3]).toArray 3)
  refine (deltas_k [5, 3] rfl (by decide) (at_new w9 3 (ivs [5, 3]))).mono ?_
  rintro e w10 ⟨A10, cap10, rfl, -, -, hat10, hm10⟩
  have hb10 := hv10.trans (hm10.mono hv10.size)
  clear hm10 hv10 hb9
  go_wp2_with fail
  have hx11 := (Below.refl w10.heap.size w10).alloc (Nat.le_refl _) (.cells (ivs [5, -2]).toArray 3)
  have hv11 := hb10.alloc hb10.size (.cells (ivs [5, -2]).toArray 3)
  refine (same5_k (dl 0 [5, 3]) [5, -2] rfl rfl (by decide) (by decide) (hat10.keep hx11) (at_new w10 3 (ivs [5, -2]))).mono ?_
  rintro e w11 ⟨rfl, hm11⟩
  rw [show decide (dl 0 [5, 3] = [5, -2]) = true from rfl]
  have hb11 := hv11.trans (hm11.mono hv11.size)
  clear hm11 hv11 hx11 hb10 hat10
  go_wp2_with fail
  have hv12 := hb11.alloc hb11.size (.cells (ivs [5, -2]).toArray 3)
  refine (sums_k [5, -2] rfl (by decide) (at_new w11 3 (ivs [5, -2]))).mono ?_
  rintro e w12 ⟨A12, cap12, rfl, -, -, hat12, hm12⟩
  have hb12 := hv12.trans (hm12.mono hv12.size)
  clear hm12 hv12 hb11
  go_wp2_with fail
  have hx13 := (Below.refl w12.heap.size w12).alloc (Nat.le_refl _) (.cells (ivs [5, 3]).toArray 3)
  have hv13 := hb12.alloc hb12.size (.cells (ivs [5, 3]).toArray 3)
  refine (same5_k (sm 0 [5, -2]) [5, 3] rfl rfl (by decide) (by decide) (hat12.keep hx13) (at_new w12 3 (ivs [5, 3]))).mono ?_
  rintro e w13 ⟨rfl, hm13⟩
  rw [show decide (sm 0 [5, -2] = [5, 3]) = true from rfl]
  have hb13 := hv13.trans (hm13.mono hv13.size)
  clear hm13 hv13 hx13 hb12 hat12
  go_wp2_with fail
  have hv14 := hb13.alloc hb13.size (.cells (ivs [1, 2]).toArray 3)
  refine (rising_k [1, 2] rfl (by decide) (by decide) (at_new w13 3 (ivs [1, 2]))).mono ?_
  rintro e w14 ⟨rfl, hm14⟩
  rw [show rises [1, 2] = true from rfl]
  have hb14 := hv14.trans (hm14.mono hv14.size)
  clear hm14 hv14 hb13
  go_wp2_with fail
  have hv15 := hb14.alloc hb14.size (.cells (ivs [2, 2]).toArray 3)
  refine (rising_k [2, 2] rfl (by decide) (by decide) (at_new w14 3 (ivs [2, 2]))).mono ?_
  rintro e w15 ⟨rfl, hm15⟩
  rw [show rises [2, 2] = false from rfl]
  have hb15 := hv15.trans (hm15.mono hv15.size)
  clear hm15 hv15 hb14
  go_wp2
  go_ret
  exact ⟨rfl, hb15⟩
end Go.Proofs.Ytacnbgfddidfiaa
