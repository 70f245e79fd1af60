/-
 Contracts of the document's in and sign.
-/
import Derived.Test.YtojhenpaeedimaaGreatBc
import Derived.Test.YtojhenpaeedimaaGreatMd
namespace Go.Proofs.YtojhenpaeedimaaGreat
open Go.RowKit
open Wd
set_option maxRecDepth 100000
theorem in_c (l : List UInt8) (_hl : l.length ≤ 140737488351232) (k j lo hi : Nat) (a p q : Int) (ha : a = (k : Int) + (j : Int)) (hp : p = (lo : Int)) (hq : q = (hi : Int)) (w : World) :
  Calls Tryz.prog 227 #[.string (ba l), .int .i64 a, .int .i64 p, .int .i64 q] w fun e w' => e = .returned (.bool (inr (l.drop k) j lo hi)) ∧ w = w' := by
 have hs := ba_size l
 subst hp hq
 obtain ⟨n, hn⟩ : ∃ n, n = k + j := ⟨_, rfl⟩
 obtain rfl : a = (n : Int) := by omega
 rw [inr_drop, ← hn]
 clear ha hn
 by_cases hlt : n < l.length
 ·obtain ⟨b, hb⟩ : ∃ b, l[n]? = some b := ⟨_, List.getElem?_eq_getElem hlt⟩
  have hix := index_ba hb (n : Int) rfl
  have HV := Lib.hid (inr_some (lo := lo) (hi := hi) hb)
  have hbb := b.toNat_lt
  clear hb
  by_cases h1 : lo ≤ b.toNat
  ·by_cases h2 : b.toNat ≤ hi
   ·have HW : Hid (inr l n lo hi = true) := by unfold Hid; rw [HV.out]; simp [h1, h2]
    go_enter Tryz.func227, Tryz.ntmps227
    go_wp2
    go_ret
    exact ⟨ret_bool (by rw [HW.out]), rfl⟩
   ·have HW : Hid (inr l n lo hi = false) := by unfold Hid; rw [HV.out]; simp [h2]
    go_enter Tryz.func227, Tryz.ntmps227
    go_wp2
    go_ret
    exact ⟨ret_bool (by rw [HW.out]), rfl⟩
  ·have HW : Hid (inr l n lo hi = false) := by unfold Hid; rw [HV.out]; simp [h1]
   go_enter Tryz.func227, Tryz.ntmps227
   go_wp2
   go_ret
   exact ⟨ret_bool (by rw [HW.out]), rfl⟩
 ·have HW : Hid (inr l n lo hi = false) := by unfold Hid; exact inr_none (List.getElem?_eq_none (by omega))
  go_enter Tryz.func227, Tryz.ntmps227
  go_wp2
  go_ret
  exact ⟨ret_bool (by rw [HW.out]), rfl⟩
theorem in_0_0_127 (l : List UInt8) (hl : l.length ≤ 140737488351232) (k : Nat) (L : List UInt8) (hL : L = l.drop k) (w : World) : Calls Tryz.prog 227 #[.string (ba l), .int .i64 (k : Int), .int .i64 0, .int .i64 127] w fun e w' => e = .returned (.bool (inr L 0 0 127)) ∧ w = w' := by subst hL; exact in_c l hl k 0 0 127 _ _ _ (by omega) rfl rfl w
theorem in_0_194_223 (l : List UInt8) (hl : l.length ≤ 140737488351232) (k : Nat) (L : List UInt8) (hL : L = l.drop k) (w : World) : Calls Tryz.prog 227 #[.string (ba l), .int .i64 (k : Int), .int .i64 194, .int .i64 223] w fun e w' => e = .returned (.bool (inr L 0 194 223)) ∧ w = w' := by subst hL; exact in_c l hl k 0 194 223 _ _ _ (by omega) rfl rfl w
theorem in_0_224_224 (l : List UInt8) (hl : l.length ≤ 140737488351232) (k : Nat) (L : List UInt8) (hL : L = l.drop k) (w : World) : Calls Tryz.prog 227 #[.string (ba l), .int .i64 (k : Int), .int .i64 224, .int .i64 224] w fun e w' => e = .returned (.bool (inr L 0 224 224)) ∧ w = w' := by subst hL; exact in_c l hl k 0 224 224 _ _ _ (by omega) rfl rfl w
theorem in_0_225_236 (l : List UInt8) (hl : l.length ≤ 140737488351232) (k : Nat) (L : List UInt8) (hL : L = l.drop k) (w : World) : Calls Tryz.prog 227 #[.string (ba l), .int .i64 (k : Int), .int .i64 225, .int .i64 236] w fun e w' => e = .returned (.bool (inr L 0 225 236)) ∧ w = w' := by subst hL; exact in_c l hl k 0 225 236 _ _ _ (by omega) rfl rfl w
theorem in_0_238_239 (l : List UInt8) (hl : l.length ≤ 140737488351232) (k : Nat) (L : List UInt8) (hL : L = l.drop k) (w : World) : Calls Tryz.prog 227 #[.string (ba l), .int .i64 (k : Int), .int .i64 238, .int .i64 239] w fun e w' => e = .returned (.bool (inr L 0 238 239)) ∧ w = w' := by subst hL; exact in_c l hl k 0 238 239 _ _ _ (by omega) rfl rfl w
theorem in_0_237_237 (l : List UInt8) (hl : l.length ≤ 140737488351232) (k : Nat) (L : List UInt8) (hL : L = l.drop k) (w : World) : Calls Tryz.prog 227 #[.string (ba l), .int .i64 (k : Int), .int .i64 237, .int .i64 237] w fun e w' => e = .returned (.bool (inr L 0 237 237)) ∧ w = w' := by subst hL; exact in_c l hl k 0 237 237 _ _ _ (by omega) rfl rfl w
theorem in_0_240_240 (l : List UInt8) (hl : l.length ≤ 140737488351232) (k : Nat) (L : List UInt8) (hL : L = l.drop k) (w : World) : Calls Tryz.prog 227 #[.string (ba l), .int .i64 (k : Int), .int .i64 240, .int .i64 240] w fun e w' => e = .returned (.bool (inr L 0 240 240)) ∧ w = w' := by subst hL; exact in_c l hl k 0 240 240 _ _ _ (by omega) rfl rfl w
theorem in_0_241_243 (l : List UInt8) (hl : l.length ≤ 140737488351232) (k : Nat) (L : List UInt8) (hL : L = l.drop k) (w : World) : Calls Tryz.prog 227 #[.string (ba l), .int .i64 (k : Int), .int .i64 241, .int .i64 243] w fun e w' => e = .returned (.bool (inr L 0 241 243)) ∧ w = w' := by subst hL; exact in_c l hl k 0 241 243 _ _ _ (by omega) rfl rfl w
theorem in_0_244_244 (l : List UInt8) (hl : l.length ≤ 140737488351232) (k : Nat) (L : List UInt8) (hL : L = l.drop k) (w : World) : Calls Tryz.prog 227 #[.string (ba l), .int .i64 (k : Int), .int .i64 244, .int .i64 244] w fun e w' => e = .returned (.bool (inr L 0 244 244)) ∧ w = w' := by subst hL; exact in_c l hl k 0 244 244 _ _ _ (by omega) rfl rfl w
theorem in_1_128_191 (l : List UInt8) (hl : l.length ≤ 140737488351232) (k : Nat) (L : List UInt8) (hL : L = l.drop k) (w : World) : Calls Tryz.prog 227 #[.string (ba l), .int .i64 ((k : Int) + 1), .int .i64 128, .int .i64 191] w fun e w' => e = .returned (.bool (inr L 1 128 191)) ∧ w = w' := by subst hL; exact in_c l hl k 1 128 191 _ _ _ (by omega) rfl rfl w
theorem in_1_160_191 (l : List UInt8) (hl : l.length ≤ 140737488351232) (k : Nat) (L : List UInt8) (hL : L = l.drop k) (w : World) : Calls Tryz.prog 227 #[.string (ba l), .int .i64 ((k : Int) + 1), .int .i64 160, .int .i64 191] w fun e w' => e = .returned (.bool (inr L 1 160 191)) ∧ w = w' := by subst hL; exact in_c l hl k 1 160 191 _ _ _ (by omega) rfl rfl w
theorem in_1_128_159 (l : List UInt8) (hl : l.length ≤ 140737488351232) (k : Nat) (L : List UInt8) (hL : L = l.drop k) (w : World) : Calls Tryz.prog 227 #[.string (ba l), .int .i64 ((k : Int) + 1), .int .i64 128, .int .i64 159] w fun e w' => e = .returned (.bool (inr L 1 128 159)) ∧ w = w' := by subst hL; exact in_c l hl k 1 128 159 _ _ _ (by omega) rfl rfl w
theorem in_1_144_191 (l : List UInt8) (hl : l.length ≤ 140737488351232) (k : Nat) (L : List UInt8) (hL : L = l.drop k) (w : World) : Calls Tryz.prog 227 #[.string (ba l), .int .i64 ((k : Int) + 1), .int .i64 144, .int .i64 191] w fun e w' => e = .returned (.bool (inr L 1 144 191)) ∧ w = w' := by subst hL; exact in_c l hl k 1 144 191 _ _ _ (by omega) rfl rfl w
theorem in_1_128_143 (l : List UInt8) (hl : l.length ≤ 140737488351232) (k : Nat) (L : List UInt8) (hL : L = l.drop k) (w : World) : Calls Tryz.prog 227 #[.string (ba l), .int .i64 ((k : Int) + 1), .int .i64 128, .int .i64 143] w fun e w' => e = .returned (.bool (inr L 1 128 143)) ∧ w = w' := by subst hL; exact in_c l hl k 1 128 143 _ _ _ (by omega) rfl rfl w
theorem in_2_128_191 (l : List UInt8) (hl : l.length ≤ 140737488351232) (k : Nat) (L : List UInt8) (hL : L = l.drop k) (w : World) : Calls Tryz.prog 227 #[.string (ba l), .int .i64 ((k : Int) + 2), .int .i64 128, .int .i64 191] w fun e w' => e = .returned (.bool (inr L 2 128 191)) ∧ w = w' := by subst hL; exact in_c l hl k 2 128 191 _ _ _ (by omega) rfl rfl w
theorem in_3_128_191 (l : List UInt8) (hl : l.length ≤ 140737488351232) (k : Nat) (L : List UInt8) (hL : L = l.drop k) (w : World) : Calls Tryz.prog 227 #[.string (ba l), .int .i64 ((k : Int) + 3), .int .i64 128, .int .i64 191] w fun e w' => e = .returned (.bool (inr L 3 128 191)) ∧ w = w' := by subst hL; exact in_c l hl k 3 128 191 _ _ _ (by omega) rfl rfl w
/-- what the first byte is, for the document's tests -/
theorem first_of (L : List UInt8) : L[0]? = none ∨ ∃ b : UInt8, L[0]? = some b := by
 cases h : L[0]? with
 | none => exact .inl rfl
 | some b => exact .inr ⟨b, rfl⟩
set_option maxHeartbeats 16000000 in
theorem sign_c (l : List UInt8) (hl : l.length ≤ 140737488351232) (k : Nat) (hk : k ≤ l.length) (w : World) :
  Calls Tryz.prog 221 #[.string (ba l), .int .i64 (k : Int)] w fun e w' => e = .returned (.int .i64 (sgn (l.drop k) : Int)) ∧ w = w' := by
 obtain ⟨L, hL⟩ : ∃ L, L = l.drop k := ⟨_, rfl⟩
 have HL := Lib.hid hL
 rw [← hL]
 clear hL
 rcases first_of L with h0 | ⟨b, h0⟩
 ·have hn : ∀ j a b, inr L j a b = false := fun j a b => inr_none (by rw [List.getElem?_eq_none_iff] at h0 ⊢; omega)
  have z0 := hn 0 0 127
  have z1 := hn 0 194 223
  have z2 := hn 0 224 224
  have z3 := hn 0 225 236
  have z4 := hn 0 238 239
  have z5 := hn 0 237 237
  have z6 := hn 0 240 240
  have z7 := hn 0 241 243
  have z8 := hn 0 244 244
  have y2 := hn 2 128 191
  clear hn
  obtain ⟨v, hv⟩ : ∃ v, sgn L = v := ⟨_, rfl⟩
  have hv2 := hv
  unfold sgn at hv2
  simp [*] at hv2
  subst hv2
  have HV := Lib.hid hv
  clear hv
  go_enter Tryz.func221, Tryz.ntmps221
  go_wp2_with (first | (go_at_call 227; (with_reducible refine (in_0_0_127 l hl k L HL.out _).mono ?_); rintro e wz ⟨rfl, rfl⟩) | (go_at_call 227; (with_reducible refine (in_0_194_223 l hl k L HL.out _).mono ?_); rintro e wz ⟨rfl, rfl⟩) | (go_at_call 227; (with_reducible refine (in_0_224_224 l hl k L HL.out _).mono ?_); rintro e wz ⟨rfl, rfl⟩) | (go_at_call 227; (with_reducible refine (in_0_225_236 l hl k L HL.out _).mono ?_); rintro e wz ⟨rfl, rfl⟩) | (go_at_call 227; (with_reducible refine (in_0_238_239 l hl k L HL.out _).mono ?_); rintro e wz ⟨rfl, rfl⟩) | (go_at_call 227; (with_reducible refine (in_0_237_237 l hl k L HL.out _).mono ?_); rintro e wz ⟨rfl, rfl⟩) | (go_at_call 227; (with_reducible refine (in_0_240_240 l hl k L HL.out _).mono ?_); rintro e wz ⟨rfl, rfl⟩) | (go_at_call 227; (with_reducible refine (in_0_241_243 l hl k L HL.out _).mono ?_); rintro e wz ⟨rfl, rfl⟩) | (go_at_call 227; (with_reducible refine (in_0_244_244 l hl k L HL.out _).mono ?_); rintro e wz ⟨rfl, rfl⟩) | (go_at_call 227; (with_reducible refine (in_1_128_191 l hl k L HL.out _).mono ?_); rintro e wz ⟨rfl, rfl⟩) | (go_at_call 227; (with_reducible refine (in_1_160_191 l hl k L HL.out _).mono ?_); rintro e wz ⟨rfl, rfl⟩) | (go_at_call 227; (with_reducible refine (in_1_128_159 l hl k L HL.out _).mono ?_); rintro e wz ⟨rfl, rfl⟩) | (go_at_call 227; (with_reducible refine (in_1_144_191 l hl k L HL.out _).mono ?_); rintro e wz ⟨rfl, rfl⟩) | (go_at_call 227; (with_reducible refine (in_1_128_143 l hl k L HL.out _).mono ?_); rintro e wz ⟨rfl, rfl⟩) | (go_at_call 227; (with_reducible refine (in_2_128_191 l hl k L HL.out _).mono ?_); rintro e wz ⟨rfl, rfl⟩) | (go_at_call 227; (with_reducible refine (in_3_128_191 l hl k L HL.out _).mono ?_); rintro e wz ⟨rfl, rfl⟩))
  go_ret
  exact ⟨ret_int (by rw [HV.out]; rfl), rfl⟩
 ·have hbb := b.toNat_lt
  have off : ∀ c d, (d < b.toNat ∨ b.toNat < c) → inr L 0 c d = false := by
   intro c d hcd
   rw [inr_some h0, Bool.and_eq_false_iff, decide_eq_false_iff_not, decide_eq_false_iff_not]
   omega
  have on : ∀ c d, c ≤ b.toNat → b.toNat ≤ d → inr L 0 c d = true := fun c d h1 h2 => inr_iff.2 ⟨b, h0, h1, h2⟩
  have hcase : (0 ≤ b.toNat ∧ b.toNat ≤ 127) ∨ (194 ≤ b.toNat ∧ b.toNat ≤ 223) ∨ (224 ≤ b.toNat ∧ b.toNat ≤ 224) ∨ (225 ≤ b.toNat ∧ b.toNat ≤ 236) ∨ (238 ≤ b.toNat ∧ b.toNat ≤ 239) ∨ (237 ≤ b.toNat ∧ b.toNat ≤ 237) ∨ (240 ≤ b.toNat ∧ b.toNat ≤ 240) ∨ (241 ≤ b.toNat ∧ b.toNat ≤ 243) ∨ (244 ≤ b.toNat ∧ b.toNat ≤ 244) ∨ (128 ≤ b.toNat ∧ b.toNat ≤ 193 ∨ 245 ≤ b.toNat) := by omega
  rcases hcase with ⟨h1, h2⟩ | ⟨h1, h2⟩ | ⟨h1, h2⟩ | ⟨h1, h2⟩ | ⟨h1, h2⟩ | ⟨h1, h2⟩ | ⟨h1, h2⟩ | ⟨h1, h2⟩ | ⟨h1, h2⟩ | h1
  ·have z0 := on 0 127 (by omega) (by omega)
   have z1 := off 194 223 (by omega)
   have z2 := off 224 224 (by omega)
   have z3 := off 225 236 (by omega)
   have z4 := off 238 239 (by omega)
   have z5 := off 237 237 (by omega)
   have z6 := off 240 240 (by omega)
   have z7 := off 241 243 (by omega)
   have z8 := off 244 244 (by omega)
   clear on off h1 h2 hbb h0
   obtain ⟨v, hv⟩ : ∃ v, sgn L = v := ⟨_, rfl⟩
   have hv2 := hv
   unfold sgn at hv2
   simp [*] at hv2
   subst hv2
   have HV := Lib.hid hv
   clear hv
   go_enter Tryz.func221, Tryz.ntmps221
   go_wp2_with (first | (go_at_call 227; (with_reducible refine (in_0_0_127 l hl k L HL.out _).mono ?_); rintro e wz ⟨rfl, rfl⟩) | (go_at_call 227; (with_reducible refine (in_0_194_223 l hl k L HL.out _).mono ?_); rintro e wz ⟨rfl, rfl⟩) | (go_at_call 227; (with_reducible refine (in_0_224_224 l hl k L HL.out _).mono ?_); rintro e wz ⟨rfl, rfl⟩) | (go_at_call 227; (with_reducible refine (in_0_225_236 l hl k L HL.out _).mono ?_); rintro e wz ⟨rfl, rfl⟩) | (go_at_call 227; (with_reducible refine (in_0_238_239 l hl k L HL.out _).mono ?_); rintro e wz ⟨rfl, rfl⟩) | (go_at_call 227; (with_reducible refine (in_0_237_237 l hl k L HL.out _).mono ?_); rintro e wz ⟨rfl, rfl⟩) | (go_at_call 227; (with_reducible refine (in_0_240_240 l hl k L HL.out _).mono ?_); rintro e wz ⟨rfl, rfl⟩) | (go_at_call 227; (with_reducible refine (in_0_241_243 l hl k L HL.out _).mono ?_); rintro e wz ⟨rfl, rfl⟩) | (go_at_call 227; (with_reducible refine (in_0_244_244 l hl k L HL.out _).mono ?_); rintro e wz ⟨rfl, rfl⟩) | (go_at_call 227; (with_reducible refine (in_1_128_191 l hl k L HL.out _).mono ?_); rintro e wz ⟨rfl, rfl⟩) | (go_at_call 227; (with_reducible refine (in_1_160_191 l hl k L HL.out _).mono ?_); rintro e wz ⟨rfl, rfl⟩) | (go_at_call 227; (with_reducible refine (in_1_128_159 l hl k L HL.out _).mono ?_); rintro e wz ⟨rfl, rfl⟩) | (go_at_call 227; (with_reducible refine (in_1_144_191 l hl k L HL.out _).mono ?_); rintro e wz ⟨rfl, rfl⟩) | (go_at_call 227; (with_reducible refine (in_1_128_143 l hl k L HL.out _).mono ?_); rintro e wz ⟨rfl, rfl⟩) | (go_at_call 227; (with_reducible refine (in_2_128_191 l hl k L HL.out _).mono ?_); rintro e wz ⟨rfl, rfl⟩) | (go_at_call 227; (with_reducible refine (in_3_128_191 l hl k L HL.out _).mono ?_); rintro e wz ⟨rfl, rfl⟩))
   go_ret
   exact ⟨ret_int (by rw [HV.out]; rfl), rfl⟩
  ·have z0 := off 0 127 (by omega)
   have z1 := on 194 223 (by omega) (by omega)
   have z2 := off 224 224 (by omega)
   have z3 := off 225 236 (by omega)
   have z4 := off 238 239 (by omega)
   have z5 := off 237 237 (by omega)
   have z6 := off 240 240 (by omega)
   have z7 := off 241 243 (by omega)
   have z8 := off 244 244 (by omega)
   clear on off h1 h2 hbb h0
   cases y1 : inr L 1 128 191 with
   | true =>
    obtain ⟨v, hv⟩ : ∃ v, sgn L = v := ⟨_, rfl⟩
    have hv2 := hv
    unfold sgn at hv2
    simp [*] at hv2
    subst hv2
    have HV := Lib.hid hv
    clear hv
    go_enter Tryz.func221, Tryz.ntmps221
    go_wp2_with (first | (go_at_call 227; (with_reducible refine (in_0_0_127 l hl k L HL.out _).mono ?_); rintro e wz ⟨rfl, rfl⟩) | (go_at_call 227; (with_reducible refine (in_0_194_223 l hl k L HL.out _).mono ?_); rintro e wz ⟨rfl, rfl⟩) | (go_at_call 227; (with_reducible refine (in_0_224_224 l hl k L HL.out _).mono ?_); rintro e wz ⟨rfl, rfl⟩) | (go_at_call 227; (with_reducible refine (in_0_225_236 l hl k L HL.out _).mono ?_); rintro e wz ⟨rfl, rfl⟩) | (go_at_call 227; (with_reducible refine (in_0_238_239 l hl k L HL.out _).mono ?_); rintro e wz ⟨rfl, rfl⟩) | (go_at_call 227; (with_reducible refine (in_0_237_237 l hl k L HL.out _).mono ?_); rintro e wz ⟨rfl, rfl⟩) | (go_at_call 227; (with_reducible refine (in_0_240_240 l hl k L HL.out _).mono ?_); rintro e wz ⟨rfl, rfl⟩) | (go_at_call 227; (with_reducible refine (in_0_241_243 l hl k L HL.out _).mono ?_); rintro e wz ⟨rfl, rfl⟩) | (go_at_call 227; (with_reducible refine (in_0_244_244 l hl k L HL.out _).mono ?_); rintro e wz ⟨rfl, rfl⟩) | (go_at_call 227; (with_reducible refine (in_1_128_191 l hl k L HL.out _).mono ?_); rintro e wz ⟨rfl, rfl⟩) | (go_at_call 227; (with_reducible refine (in_1_160_191 l hl k L HL.out _).mono ?_); rintro e wz ⟨rfl, rfl⟩) | (go_at_call 227; (with_reducible refine (in_1_128_159 l hl k L HL.out _).mono ?_); rintro e wz ⟨rfl, rfl⟩) | (go_at_call 227; (with_reducible refine (in_1_144_191 l hl k L HL.out _).mono ?_); rintro e wz ⟨rfl, rfl⟩) | (go_at_call 227; (with_reducible refine (in_1_128_143 l hl k L HL.out _).mono ?_); rintro e wz ⟨rfl, rfl⟩) | (go_at_call 227; (with_reducible refine (in_2_128_191 l hl k L HL.out _).mono ?_); rintro e wz ⟨rfl, rfl⟩) | (go_at_call 227; (with_reducible refine (in_3_128_191 l hl k L HL.out _).mono ?_); rintro e wz ⟨rfl, rfl⟩))
    go_ret
    exact ⟨ret_int (by rw [HV.out]; rfl), rfl⟩
   | false =>
    cases y2 : inr L 2 128 191 with
    | false =>
     obtain ⟨v, hv⟩ : ∃ v, sgn L = v := ⟨_, rfl⟩
     have hv2 := hv
     unfold sgn at hv2
     simp [*] at hv2
     subst hv2
     have HV := Lib.hid hv
     clear hv
     go_enter Tryz.func221, Tryz.ntmps221
     go_wp2_with (first | (go_at_call 227; (with_reducible refine (in_0_0_127 l hl k L HL.out _).mono ?_); rintro e wz ⟨rfl, rfl⟩) | (go_at_call 227; (with_reducible refine (in_0_194_223 l hl k L HL.out _).mono ?_); rintro e wz ⟨rfl, rfl⟩) | (go_at_call 227; (with_reducible refine (in_0_224_224 l hl k L HL.out _).mono ?_); rintro e wz ⟨rfl, rfl⟩) | (go_at_call 227; (with_reducible refine (in_0_225_236 l hl k L HL.out _).mono ?_); rintro e wz ⟨rfl, rfl⟩) | (go_at_call 227; (with_reducible refine (in_0_238_239 l hl k L HL.out _).mono ?_); rintro e wz ⟨rfl, rfl⟩) | (go_at_call 227; (with_reducible refine (in_0_237_237 l hl k L HL.out _).mono ?_); rintro e wz ⟨rfl, rfl⟩) | (go_at_call 227; (with_reducible refine (in_0_240_240 l hl k L HL.out _).mono ?_); rintro e wz ⟨rfl, rfl⟩) | (go_at_call 227; (with_reducible refine (in_0_241_243 l hl k L HL.out _).mono ?_); rintro e wz ⟨rfl, rfl⟩) | (go_at_call 227; (with_reducible refine (in_0_244_244 l hl k L HL.out _).mono ?_); rintro e wz ⟨rfl, rfl⟩) | (go_at_call 227; (with_reducible refine (in_1_128_191 l hl k L HL.out _).mono ?_); rintro e wz ⟨rfl, rfl⟩) | (go_at_call 227; (with_reducible refine (in_1_160_191 l hl k L HL.out _).mono ?_); rintro e wz ⟨rfl, rfl⟩) | (go_at_call 227; (with_reducible refine (in_1_128_159 l hl k L HL.out _).mono ?_); rintro e wz ⟨rfl, rfl⟩) | (go_at_call 227; (with_reducible refine (in_1_144_191 l hl k L HL.out _).mono ?_); rintro e wz ⟨rfl, rfl⟩) | (go_at_call 227; (with_reducible refine (in_1_128_143 l hl k L HL.out _).mono ?_); rintro e wz ⟨rfl, rfl⟩) | (go_at_call 227; (with_reducible refine (in_2_128_191 l hl k L HL.out _).mono ?_); rintro e wz ⟨rfl, rfl⟩) | (go_at_call 227; (with_reducible refine (in_3_128_191 l hl k L HL.out _).mono ?_); rintro e wz ⟨rfl, rfl⟩))
     go_ret
     exact ⟨ret_int (by rw [HV.out]; rfl), rfl⟩
    | true =>
     cases y3 : inr L 3 128 191 with
     | false =>
      obtain ⟨v, hv⟩ : ∃ v, sgn L = v := ⟨_, rfl⟩
      have hv2 := hv
      unfold sgn at hv2
      simp [*] at hv2
      subst hv2
      have HV := Lib.hid hv
      clear hv
      go_enter Tryz.func221, Tryz.ntmps221
      go_wp2_with (first | (go_at_call 227; (with_reducible refine (in_0_0_127 l hl k L HL.out _).mono ?_); rintro e wz ⟨rfl, rfl⟩) | (go_at_call 227; (with_reducible refine (in_0_194_223 l hl k L HL.out _).mono ?_); rintro e wz ⟨rfl, rfl⟩) | (go_at_call 227; (with_reducible refine (in_0_224_224 l hl k L HL.out _).mono ?_); rintro e wz ⟨rfl, rfl⟩) | (go_at_call 227; (with_reducible refine (in_0_225_236 l hl k L HL.out _).mono ?_); rintro e wz ⟨rfl, rfl⟩) | (go_at_call 227; (with_reducible refine (in_0_238_239 l hl k L HL.out _).mono ?_); rintro e wz ⟨rfl, rfl⟩) | (go_at_call 227; (with_reducible refine (in_0_237_237 l hl k L HL.out _).mono ?_); rintro e wz ⟨rfl, rfl⟩) | (go_at_call 227; (with_reducible refine (in_0_240_240 l hl k L HL.out _).mono ?_); rintro e wz ⟨rfl, rfl⟩) | (go_at_call 227; (with_reducible refine (in_0_241_243 l hl k L HL.out _).mono ?_); rintro e wz ⟨rfl, rfl⟩) | (go_at_call 227; (with_reducible refine (in_0_244_244 l hl k L HL.out _).mono ?_); rintro e wz ⟨rfl, rfl⟩) | (go_at_call 227; (with_reducible refine (in_1_128_191 l hl k L HL.out _).mono ?_); rintro e wz ⟨rfl, rfl⟩) | (go_at_call 227; (with_reducible refine (in_1_160_191 l hl k L HL.out _).mono ?_); rintro e wz ⟨rfl, rfl⟩) | (go_at_call 227; (with_reducible refine (in_1_128_159 l hl k L HL.out _).mono ?_); rintro e wz ⟨rfl, rfl⟩) | (go_at_call 227; (with_reducible refine (in_1_144_191 l hl k L HL.out _).mono ?_); rintro e wz ⟨rfl, rfl⟩) | (go_at_call 227; (with_reducible refine (in_1_128_143 l hl k L HL.out _).mono ?_); rintro e wz ⟨rfl, rfl⟩) | (go_at_call 227; (with_reducible refine (in_2_128_191 l hl k L HL.out _).mono ?_); rintro e wz ⟨rfl, rfl⟩) | (go_at_call 227; (with_reducible refine (in_3_128_191 l hl k L HL.out _).mono ?_); rintro e wz ⟨rfl, rfl⟩))
      go_ret
      exact ⟨ret_int (by rw [HV.out]; rfl), rfl⟩
     | true =>
      obtain ⟨v, hv⟩ : ∃ v, sgn L = v := ⟨_, rfl⟩
      have hv2 := hv
      unfold sgn at hv2
      simp [*] at hv2
      subst hv2
      have HV := Lib.hid hv
      clear hv
      go_enter Tryz.func221, Tryz.ntmps221
      go_wp2_with (first | (go_at_call 227; (with_reducible refine (in_0_0_127 l hl k L HL.out _).mono ?_); rintro e wz ⟨rfl, rfl⟩) | (go_at_call 227; (with_reducible refine (in_0_194_223 l hl k L HL.out _).mono ?_); rintro e wz ⟨rfl, rfl⟩) | (go_at_call 227; (with_reducible refine (in_0_224_224 l hl k L HL.out _).mono ?_); rintro e wz ⟨rfl, rfl⟩) | (go_at_call 227; (with_reducible refine (in_0_225_236 l hl k L HL.out _).mono ?_); rintro e wz ⟨rfl, rfl⟩) | (go_at_call 227; (with_reducible refine (in_0_238_239 l hl k L HL.out _).mono ?_); rintro e wz ⟨rfl, rfl⟩) | (go_at_call 227; (with_reducible refine (in_0_237_237 l hl k L HL.out _).mono ?_); rintro e wz ⟨rfl, rfl⟩) | (go_at_call 227; (with_reducible refine (in_0_240_240 l hl k L HL.out _).mono ?_); rintro e wz ⟨rfl, rfl⟩) | (go_at_call 227; (with_reducible refine (in_0_241_243 l hl k L HL.out _).mono ?_); rintro e wz ⟨rfl, rfl⟩) | (go_at_call 227; (with_reducible refine (in_0_244_244 l hl k L HL.out _).mono ?_); rintro e wz ⟨rfl, rfl⟩) | (go_at_call 227; (with_reducible refine (in_1_128_191 l hl k L HL.out _).mono ?_); rintro e wz ⟨rfl, rfl⟩) | (go_at_call 227; (with_reducible refine (in_1_160_191 l hl k L HL.out _).mono ?_); rintro e wz ⟨rfl, rfl⟩) | (go_at_call 227; (with_reducible refine (in_1_128_159 l hl k L HL.out _).mono ?_); rintro e wz ⟨rfl, rfl⟩) | (go_at_call 227; (with_reducible refine (in_1_144_191 l hl k L HL.out _).mono ?_); rintro e wz ⟨rfl, rfl⟩) | (go_at_call 227; (with_reducible refine (in_1_128_143 l hl k L HL.out _).mono ?_); rintro e wz ⟨rfl, rfl⟩) | (go_at_call 227; (with_reducible refine (in_2_128_191 l hl k L HL.out _).mono ?_); rintro e wz ⟨rfl, rfl⟩) | (go_at_call 227; (with_reducible refine (in_3_128_191 l hl k L HL.out _).mono ?_); rintro e wz ⟨rfl, rfl⟩))
      go_ret
      exact ⟨ret_int (by rw [HV.out]; rfl), rfl⟩
  ·have z0 := off 0 127 (by omega)
   have z1 := off 194 223 (by omega)
   have z2 := on 224 224 (by omega) (by omega)
   have z3 := off 225 236 (by omega)
   have z4 := off 238 239 (by omega)
   have z5 := off 237 237 (by omega)
   have z6 := off 240 240 (by omega)
   have z7 := off 241 243 (by omega)
   have z8 := off 244 244 (by omega)
   clear on off h1 h2 hbb h0
   cases y2 : inr L 2 128 191 with
   | false =>
    obtain ⟨v, hv⟩ : ∃ v, sgn L = v := ⟨_, rfl⟩
    have hv2 := hv
    unfold sgn at hv2
    simp [*] at hv2
    subst hv2
    have HV := Lib.hid hv
    clear hv
    go_enter Tryz.func221, Tryz.ntmps221
    go_wp2_with (first | (go_at_call 227; (with_reducible refine (in_0_0_127 l hl k L HL.out _).mono ?_); rintro e wz ⟨rfl, rfl⟩) | (go_at_call 227; (with_reducible refine (in_0_194_223 l hl k L HL.out _).mono ?_); rintro e wz ⟨rfl, rfl⟩) | (go_at_call 227; (with_reducible refine (in_0_224_224 l hl k L HL.out _).mono ?_); rintro e wz ⟨rfl, rfl⟩) | (go_at_call 227; (with_reducible refine (in_0_225_236 l hl k L HL.out _).mono ?_); rintro e wz ⟨rfl, rfl⟩) | (go_at_call 227; (with_reducible refine (in_0_238_239 l hl k L HL.out _).mono ?_); rintro e wz ⟨rfl, rfl⟩) | (go_at_call 227; (with_reducible refine (in_0_237_237 l hl k L HL.out _).mono ?_); rintro e wz ⟨rfl, rfl⟩) | (go_at_call 227; (with_reducible refine (in_0_240_240 l hl k L HL.out _).mono ?_); rintro e wz ⟨rfl, rfl⟩) | (go_at_call 227; (with_reducible refine (in_0_241_243 l hl k L HL.out _).mono ?_); rintro e wz ⟨rfl, rfl⟩) | (go_at_call 227; (with_reducible refine (in_0_244_244 l hl k L HL.out _).mono ?_); rintro e wz ⟨rfl, rfl⟩) | (go_at_call 227; (with_reducible refine (in_1_128_191 l hl k L HL.out _).mono ?_); rintro e wz ⟨rfl, rfl⟩) | (go_at_call 227; (with_reducible refine (in_1_160_191 l hl k L HL.out _).mono ?_); rintro e wz ⟨rfl, rfl⟩) | (go_at_call 227; (with_reducible refine (in_1_128_159 l hl k L HL.out _).mono ?_); rintro e wz ⟨rfl, rfl⟩) | (go_at_call 227; (with_reducible refine (in_1_144_191 l hl k L HL.out _).mono ?_); rintro e wz ⟨rfl, rfl⟩) | (go_at_call 227; (with_reducible refine (in_1_128_143 l hl k L HL.out _).mono ?_); rintro e wz ⟨rfl, rfl⟩) | (go_at_call 227; (with_reducible refine (in_2_128_191 l hl k L HL.out _).mono ?_); rintro e wz ⟨rfl, rfl⟩) | (go_at_call 227; (with_reducible refine (in_3_128_191 l hl k L HL.out _).mono ?_); rintro e wz ⟨rfl, rfl⟩))
    go_ret
    exact ⟨ret_int (by rw [HV.out]; rfl), rfl⟩
   | true =>
    cases y1 : inr L 1 160 191 with
    | true =>
     obtain ⟨v, hv⟩ : ∃ v, sgn L = v := ⟨_, rfl⟩
     have hv2 := hv
     unfold sgn at hv2
     simp [*] at hv2
     subst hv2
     have HV := Lib.hid hv
     clear hv
     go_enter Tryz.func221, Tryz.ntmps221
     go_wp2_with (first | (go_at_call 227; (with_reducible refine (in_0_0_127 l hl k L HL.out _).mono ?_); rintro e wz ⟨rfl, rfl⟩) | (go_at_call 227; (with_reducible refine (in_0_194_223 l hl k L HL.out _).mono ?_); rintro e wz ⟨rfl, rfl⟩) | (go_at_call 227; (with_reducible refine (in_0_224_224 l hl k L HL.out _).mono ?_); rintro e wz ⟨rfl, rfl⟩) | (go_at_call 227; (with_reducible refine (in_0_225_236 l hl k L HL.out _).mono ?_); rintro e wz ⟨rfl, rfl⟩) | (go_at_call 227; (with_reducible refine (in_0_238_239 l hl k L HL.out _).mono ?_); rintro e wz ⟨rfl, rfl⟩) | (go_at_call 227; (with_reducible refine (in_0_237_237 l hl k L HL.out _).mono ?_); rintro e wz ⟨rfl, rfl⟩) | (go_at_call 227; (with_reducible refine (in_0_240_240 l hl k L HL.out _).mono ?_); rintro e wz ⟨rfl, rfl⟩) | (go_at_call 227; (with_reducible refine (in_0_241_243 l hl k L HL.out _).mono ?_); rintro e wz ⟨rfl, rfl⟩) | (go_at_call 227; (with_reducible refine (in_0_244_244 l hl k L HL.out _).mono ?_); rintro e wz ⟨rfl, rfl⟩) | (go_at_call 227; (with_reducible refine (in_1_128_191 l hl k L HL.out _).mono ?_); rintro e wz ⟨rfl, rfl⟩) | (go_at_call 227; (with_reducible refine (in_1_160_191 l hl k L HL.out _).mono ?_); rintro e wz ⟨rfl, rfl⟩) | (go_at_call 227; (with_reducible refine (in_1_128_159 l hl k L HL.out _).mono ?_); rintro e wz ⟨rfl, rfl⟩) | (go_at_call 227; (with_reducible refine (in_1_144_191 l hl k L HL.out _).mono ?_); rintro e wz ⟨rfl, rfl⟩) | (go_at_call 227; (with_reducible refine (in_1_128_143 l hl k L HL.out _).mono ?_); rintro e wz ⟨rfl, rfl⟩) | (go_at_call 227; (with_reducible refine (in_2_128_191 l hl k L HL.out _).mono ?_); rintro e wz ⟨rfl, rfl⟩) | (go_at_call 227; (with_reducible refine (in_3_128_191 l hl k L HL.out _).mono ?_); rintro e wz ⟨rfl, rfl⟩))
     go_ret
     exact ⟨ret_int (by rw [HV.out]; rfl), rfl⟩
    | false =>
     cases y3 : inr L 3 128 191 with
     | false =>
      obtain ⟨v, hv⟩ : ∃ v, sgn L = v := ⟨_, rfl⟩
      have hv2 := hv
      unfold sgn at hv2
      simp [*] at hv2
      subst hv2
      have HV := Lib.hid hv
      clear hv
      go_enter Tryz.func221, Tryz.ntmps221
      go_wp2_with (first | (go_at_call 227; (with_reducible refine (in_0_0_127 l hl k L HL.out _).mono ?_); rintro e wz ⟨rfl, rfl⟩) | (go_at_call 227; (with_reducible refine (in_0_194_223 l hl k L HL.out _).mono ?_); rintro e wz ⟨rfl, rfl⟩) | (go_at_call 227; (with_reducible refine (in_0_224_224 l hl k L HL.out _).mono ?_); rintro e wz ⟨rfl, rfl⟩) | (go_at_call 227; (with_reducible refine (in_0_225_236 l hl k L HL.out _).mono ?_); rintro e wz ⟨rfl, rfl⟩) | (go_at_call 227; (with_reducible refine (in_0_238_239 l hl k L HL.out _).mono ?_); rintro e wz ⟨rfl, rfl⟩) | (go_at_call 227; (with_reducible refine (in_0_237_237 l hl k L HL.out _).mono ?_); rintro e wz ⟨rfl, rfl⟩) | (go_at_call 227; (with_reducible refine (in_0_240_240 l hl k L HL.out _).mono ?_); rintro e wz ⟨rfl, rfl⟩) | (go_at_call 227; (with_reducible refine (in_0_241_243 l hl k L HL.out _).mono ?_); rintro e wz ⟨rfl, rfl⟩) | (go_at_call 227; (with_reducible refine (in_0_244_244 l hl k L HL.out _).mono ?_); rintro e wz ⟨rfl, rfl⟩) | (go_at_call 227; (with_reducible refine (in_1_128_191 l hl k L HL.out _).mono ?_); rintro e wz ⟨rfl, rfl⟩) | (go_at_call 227; (with_reducible refine (in_1_160_191 l hl k L HL.out _).mono ?_); rintro e wz ⟨rfl, rfl⟩) | (go_at_call 227; (with_reducible refine (in_1_128_159 l hl k L HL.out _).mono ?_); rintro e wz ⟨rfl, rfl⟩) | (go_at_call 227; (with_reducible refine (in_1_144_191 l hl k L HL.out _).mono ?_); rintro e wz ⟨rfl, rfl⟩) | (go_at_call 227; (with_reducible refine (in_1_128_143 l hl k L HL.out _).mono ?_); rintro e wz ⟨rfl, rfl⟩) | (go_at_call 227; (with_reducible refine (in_2_128_191 l hl k L HL.out _).mono ?_); rintro e wz ⟨rfl, rfl⟩) | (go_at_call 227; (with_reducible refine (in_3_128_191 l hl k L HL.out _).mono ?_); rintro e wz ⟨rfl, rfl⟩))
      go_ret
      exact ⟨ret_int (by rw [HV.out]; rfl), rfl⟩
     | true =>
      obtain ⟨v, hv⟩ : ∃ v, sgn L = v := ⟨_, rfl⟩
      have hv2 := hv
      unfold sgn at hv2
      simp [*] at hv2
      subst hv2
      have HV := Lib.hid hv
      clear hv
      go_enter Tryz.func221, Tryz.ntmps221
      go_wp2_with (first | (go_at_call 227; (with_reducible refine (in_0_0_127 l hl k L HL.out _).mono ?_); rintro e wz ⟨rfl, rfl⟩) | (go_at_call 227; (with_reducible refine (in_0_194_223 l hl k L HL.out _).mono ?_); rintro e wz ⟨rfl, rfl⟩) | (go_at_call 227; (with_reducible refine (in_0_224_224 l hl k L HL.out _).mono ?_); rintro e wz ⟨rfl, rfl⟩) | (go_at_call 227; (with_reducible refine (in_0_225_236 l hl k L HL.out _).mono ?_); rintro e wz ⟨rfl, rfl⟩) | (go_at_call 227; (with_reducible refine (in_0_238_239 l hl k L HL.out _).mono ?_); rintro e wz ⟨rfl, rfl⟩) | (go_at_call 227; (with_reducible refine (in_0_237_237 l hl k L HL.out _).mono ?_); rintro e wz ⟨rfl, rfl⟩) | (go_at_call 227; (with_reducible refine (in_0_240_240 l hl k L HL.out _).mono ?_); rintro e wz ⟨rfl, rfl⟩) | (go_at_call 227; (with_reducible refine (in_0_241_243 l hl k L HL.out _).mono ?_); rintro e wz ⟨rfl, rfl⟩) | (go_at_call 227; (with_reducible refine (in_0_244_244 l hl k L HL.out _).mono ?_); rintro e wz ⟨rfl, rfl⟩) | (go_at_call 227; (with_reducible refine (in_1_128_191 l hl k L HL.out _).mono ?_); rintro e wz ⟨rfl, rfl⟩) | (go_at_call 227; (with_reducible refine (in_1_160_191 l hl k L HL.out _).mono ?_); rintro e wz ⟨rfl, rfl⟩) | (go_at_call 227; (with_reducible refine (in_1_128_159 l hl k L HL.out _).mono ?_); rintro e wz ⟨rfl, rfl⟩) | (go_at_call 227; (with_reducible refine (in_1_144_191 l hl k L HL.out _).mono ?_); rintro e wz ⟨rfl, rfl⟩) | (go_at_call 227; (with_reducible refine (in_1_128_143 l hl k L HL.out _).mono ?_); rintro e wz ⟨rfl, rfl⟩) | (go_at_call 227; (with_reducible refine (in_2_128_191 l hl k L HL.out _).mono ?_); rintro e wz ⟨rfl, rfl⟩) | (go_at_call 227; (with_reducible refine (in_3_128_191 l hl k L HL.out _).mono ?_); rintro e wz ⟨rfl, rfl⟩))
      go_ret
      exact ⟨ret_int (by rw [HV.out]; rfl), rfl⟩
  ·have z0 := off 0 127 (by omega)
   have z1 := off 194 223 (by omega)
   have z2 := off 224 224 (by omega)
   have z3 := on 225 236 (by omega) (by omega)
   have z4 := off 238 239 (by omega)
   have z5 := off 237 237 (by omega)
   have z6 := off 240 240 (by omega)
   have z7 := off 241 243 (by omega)
   have z8 := off 244 244 (by omega)
   clear on off h1 h2 hbb h0
   cases y2 : inr L 2 128 191 with
   | false =>
    obtain ⟨v, hv⟩ : ∃ v, sgn L = v := ⟨_, rfl⟩
    have hv2 := hv
    unfold sgn at hv2
    simp [*] at hv2
    subst hv2
    have HV := Lib.hid hv
    clear hv
    go_enter Tryz.func221, Tryz.ntmps221
    go_wp2_with (first | (go_at_call 227; (with_reducible refine (in_0_0_127 l hl k L HL.out _).mono ?_); rintro e wz ⟨rfl, rfl⟩) | (go_at_call 227; (with_reducible refine (in_0_194_223 l hl k L HL.out _).mono ?_); rintro e wz ⟨rfl, rfl⟩) | (go_at_call 227; (with_reducible refine (in_0_224_224 l hl k L HL.out _).mono ?_); rintro e wz ⟨rfl, rfl⟩) | (go_at_call 227; (with_reducible refine (in_0_225_236 l hl k L HL.out _).mono ?_); rintro e wz ⟨rfl, rfl⟩) | (go_at_call 227; (with_reducible refine (in_0_238_239 l hl k L HL.out _).mono ?_); rintro e wz ⟨rfl, rfl⟩) | (go_at_call 227; (with_reducible refine (in_0_237_237 l hl k L HL.out _).mono ?_); rintro e wz ⟨rfl, rfl⟩) | (go_at_call 227; (with_reducible refine (in_0_240_240 l hl k L HL.out _).mono ?_); rintro e wz ⟨rfl, rfl⟩) | (go_at_call 227; (with_reducible refine (in_0_241_243 l hl k L HL.out _).mono ?_); rintro e wz ⟨rfl, rfl⟩) | (go_at_call 227; (with_reducible refine (in_0_244_244 l hl k L HL.out _).mono ?_); rintro e wz ⟨rfl, rfl⟩) | (go_at_call 227; (with_reducible refine (in_1_128_191 l hl k L HL.out _).mono ?_); rintro e wz ⟨rfl, rfl⟩) | (go_at_call 227; (with_reducible refine (in_1_160_191 l hl k L HL.out _).mono ?_); rintro e wz ⟨rfl, rfl⟩) | (go_at_call 227; (with_reducible refine (in_1_128_159 l hl k L HL.out _).mono ?_); rintro e wz ⟨rfl, rfl⟩) | (go_at_call 227; (with_reducible refine (in_1_144_191 l hl k L HL.out _).mono ?_); rintro e wz ⟨rfl, rfl⟩) | (go_at_call 227; (with_reducible refine (in_1_128_143 l hl k L HL.out _).mono ?_); rintro e wz ⟨rfl, rfl⟩) | (go_at_call 227; (with_reducible refine (in_2_128_191 l hl k L HL.out _).mono ?_); rintro e wz ⟨rfl, rfl⟩) | (go_at_call 227; (with_reducible refine (in_3_128_191 l hl k L HL.out _).mono ?_); rintro e wz ⟨rfl, rfl⟩))
    go_ret
    exact ⟨ret_int (by rw [HV.out]; rfl), rfl⟩
   | true =>
    cases y1 : inr L 1 128 191 with
    | true =>
     obtain ⟨v, hv⟩ : ∃ v, sgn L = v := ⟨_, rfl⟩
     have hv2 := hv
     unfold sgn at hv2
     simp [*] at hv2
     subst hv2
     have HV := Lib.hid hv
     clear hv
     go_enter Tryz.func221, Tryz.ntmps221
     go_wp2_with (first | (go_at_call 227; (with_reducible refine (in_0_0_127 l hl k L HL.out _).mono ?_); rintro e wz ⟨rfl, rfl⟩) | (go_at_call 227; (with_reducible refine (in_0_194_223 l hl k L HL.out _).mono ?_); rintro e wz ⟨rfl, rfl⟩) | (go_at_call 227; (with_reducible refine (in_0_224_224 l hl k L HL.out _).mono ?_); rintro e wz ⟨rfl, rfl⟩) | (go_at_call 227; (with_reducible refine (in_0_225_236 l hl k L HL.out _).mono ?_); rintro e wz ⟨rfl, rfl⟩) | (go_at_call 227; (with_reducible refine (in_0_238_239 l hl k L HL.out _).mono ?_); rintro e wz ⟨rfl, rfl⟩) | (go_at_call 227; (with_reducible refine (in_0_237_237 l hl k L HL.out _).mono ?_); rintro e wz ⟨rfl, rfl⟩) | (go_at_call 227; (with_reducible refine (in_0_240_240 l hl k L HL.out _).mono ?_); rintro e wz ⟨rfl, rfl⟩) | (go_at_call 227; (with_reducible refine (in_0_241_243 l hl k L HL.out _).mono ?_); rintro e wz ⟨rfl, rfl⟩) | (go_at_call 227; (with_reducible refine (in_0_244_244 l hl k L HL.out _).mono ?_); rintro e wz ⟨rfl, rfl⟩) | (go_at_call 227; (with_reducible refine (in_1_128_191 l hl k L HL.out _).mono ?_); rintro e wz ⟨rfl, rfl⟩) | (go_at_call 227; (with_reducible refine (in_1_160_191 l hl k L HL.out _).mono ?_); rintro e wz ⟨rfl, rfl⟩) | (go_at_call 227; (with_reducible refine (in_1_128_159 l hl k L HL.out _).mono ?_); rintro e wz ⟨rfl, rfl⟩) | (go_at_call 227; (with_reducible refine (in_1_144_191 l hl k L HL.out _).mono ?_); rintro e wz ⟨rfl, rfl⟩) | (go_at_call 227; (with_reducible refine (in_1_128_143 l hl k L HL.out _).mono ?_); rintro e wz ⟨rfl, rfl⟩) | (go_at_call 227; (with_reducible refine (in_2_128_191 l hl k L HL.out _).mono ?_); rintro e wz ⟨rfl, rfl⟩) | (go_at_call 227; (with_reducible refine (in_3_128_191 l hl k L HL.out _).mono ?_); rintro e wz ⟨rfl, rfl⟩))
     go_ret
     exact ⟨ret_int (by rw [HV.out]; rfl), rfl⟩
    | false =>
     cases y3 : inr L 3 128 191 with
     | false =>
      obtain ⟨v, hv⟩ : ∃ v, sgn L = v := ⟨_, rfl⟩
      have hv2 := hv
      unfold sgn at hv2
      simp [*] at hv2
      subst hv2
      have HV := Lib.hid hv
      clear hv
      go_enter Tryz.func221, Tryz.ntmps221
      go_wp2_with (first | (go_at_call 227; (with_reducible refine (in_0_0_127 l hl k L HL.out _).mono ?_); rintro e wz ⟨rfl, rfl⟩) | (go_at_call 227; (with_reducible refine (in_0_194_223 l hl k L HL.out _).mono ?_); rintro e wz ⟨rfl, rfl⟩) | (go_at_call 227; (with_reducible refine (in_0_224_224 l hl k L HL.out _).mono ?_); rintro e wz ⟨rfl, rfl⟩) | (go_at_call 227; (with_reducible refine (in_0_225_236 l hl k L HL.out _).mono ?_); rintro e wz ⟨rfl, rfl⟩) | (go_at_call 227; (with_reducible refine (in_0_238_239 l hl k L HL.out _).mono ?_); rintro e wz ⟨rfl, rfl⟩) | (go_at_call 227; (with_reducible refine (in_0_237_237 l hl k L HL.out _).mono ?_); rintro e wz ⟨rfl, rfl⟩) | (go_at_call 227; (with_reducible refine (in_0_240_240 l hl k L HL.out _).mono ?_); rintro e wz ⟨rfl, rfl⟩) | (go_at_call 227; (with_reducible refine (in_0_241_243 l hl k L HL.out _).mono ?_); rintro e wz ⟨rfl, rfl⟩) | (go_at_call 227; (with_reducible refine (in_0_244_244 l hl k L HL.out _).mono ?_); rintro e wz ⟨rfl, rfl⟩) | (go_at_call 227; (with_reducible refine (in_1_128_191 l hl k L HL.out _).mono ?_); rintro e wz ⟨rfl, rfl⟩) | (go_at_call 227; (with_reducible refine (in_1_160_191 l hl k L HL.out _).mono ?_); rintro e wz ⟨rfl, rfl⟩) | (go_at_call 227; (with_reducible refine (in_1_128_159 l hl k L HL.out _).mono ?_); rintro e wz ⟨rfl, rfl⟩) | (go_at_call 227; (with_reducible refine (in_1_144_191 l hl k L HL.out _).mono ?_); rintro e wz ⟨rfl, rfl⟩) | (go_at_call 227; (with_reducible refine (in_1_128_143 l hl k L HL.out _).mono ?_); rintro e wz ⟨rfl, rfl⟩) | (go_at_call 227; (with_reducible refine (in_2_128_191 l hl k L HL.out _).mono ?_); rintro e wz ⟨rfl, rfl⟩) | (go_at_call 227; (with_reducible refine (in_3_128_191 l hl k L HL.out _).mono ?_); rintro e wz ⟨rfl, rfl⟩))
      go_ret
      exact ⟨ret_int (by rw [HV.out]; rfl), rfl⟩
     | true =>
      obtain ⟨v, hv⟩ : ∃ v, sgn L = v := ⟨_, rfl⟩
      have hv2 := hv
      unfold sgn at hv2
      simp [*] at hv2
      subst hv2
      have HV := Lib.hid hv
      clear hv
      go_enter Tryz.func221, Tryz.ntmps221
      go_wp2_with (first | (go_at_call 227; (with_reducible refine (in_0_0_127 l hl k L HL.out _).mono ?_); rintro e wz ⟨rfl, rfl⟩) | (go_at_call 227; (with_reducible refine (in_0_194_223 l hl k L HL.out _).mono ?_); rintro e wz ⟨rfl, rfl⟩) | (go_at_call 227; (with_reducible refine (in_0_224_224 l hl k L HL.out _).mono ?_); rintro e wz ⟨rfl, rfl⟩) | (go_at_call 227; (with_reducible refine (in_0_225_236 l hl k L HL.out _).mono ?_); rintro e wz ⟨rfl, rfl⟩) | (go_at_call 227; (with_reducible refine (in_0_238_239 l hl k L HL.out _).mono ?_); rintro e wz ⟨rfl, rfl⟩) | (go_at_call 227; (with_reducible refine (in_0_237_237 l hl k L HL.out _).mono ?_); rintro e wz ⟨rfl, rfl⟩) | (go_at_call 227; (with_reducible refine (in_0_240_240 l hl k L HL.out _).mono ?_); rintro e wz ⟨rfl, rfl⟩) | (go_at_call 227; (with_reducible refine (in_0_241_243 l hl k L HL.out _).mono ?_); rintro e wz ⟨rfl, rfl⟩) | (go_at_call 227; (with_reducible refine (in_0_244_244 l hl k L HL.out _).mono ?_); rintro e wz ⟨rfl, rfl⟩) | (go_at_call 227; (with_reducible refine (in_1_128_191 l hl k L HL.out _).mono ?_); rintro e wz ⟨rfl, rfl⟩) | (go_at_call 227; (with_reducible refine (in_1_160_191 l hl k L HL.out _).mono ?_); rintro e wz ⟨rfl, rfl⟩) | (go_at_call 227; (with_reducible refine (in_1_128_159 l hl k L HL.out _).mono ?_); rintro e wz ⟨rfl, rfl⟩) | (go_at_call 227; (with_reducible refine (in_1_144_191 l hl k L HL.out _).mono ?_); rintro e wz ⟨rfl, rfl⟩) | (go_at_call 227; (with_reducible refine (in_1_128_143 l hl k L HL.out _).mono ?_); rintro e wz ⟨rfl, rfl⟩) | (go_at_call 227; (with_reducible refine (in_2_128_191 l hl k L HL.out _).mono ?_); rintro e wz ⟨rfl, rfl⟩) | (go_at_call 227; (with_reducible refine (in_3_128_191 l hl k L HL.out _).mono ?_); rintro e wz ⟨rfl, rfl⟩))
      go_ret
      exact ⟨ret_int (by rw [HV.out]; rfl), rfl⟩
  ·have z0 := off 0 127 (by omega)
   have z1 := off 194 223 (by omega)
   have z2 := off 224 224 (by omega)
   have z3 := off 225 236 (by omega)
   have z4 := on 238 239 (by omega) (by omega)
   have z5 := off 237 237 (by omega)
   have z6 := off 240 240 (by omega)
   have z7 := off 241 243 (by omega)
   have z8 := off 244 244 (by omega)
   clear on off h1 h2 hbb h0
   cases y2 : inr L 2 128 191 with
   | false =>
    obtain ⟨v, hv⟩ : ∃ v, sgn L = v := ⟨_, rfl⟩
    have hv2 := hv
    unfold sgn at hv2
    simp [*] at hv2
    subst hv2
    have HV := Lib.hid hv
    clear hv
    go_enter Tryz.func221, Tryz.ntmps221
    go_wp2_with (first | (go_at_call 227; (with_reducible refine (in_0_0_127 l hl k L HL.out _).mono ?_); rintro e wz ⟨rfl, rfl⟩) | (go_at_call 227; (with_reducible refine (in_0_194_223 l hl k L HL.out _).mono ?_); rintro e wz ⟨rfl, rfl⟩) | (go_at_call 227; (with_reducible refine (in_0_224_224 l hl k L HL.out _).mono ?_); rintro e wz ⟨rfl, rfl⟩) | (go_at_call 227; (with_reducible refine (in_0_225_236 l hl k L HL.out _).mono ?_); rintro e wz ⟨rfl, rfl⟩) | (go_at_call 227; (with_reducible refine (in_0_238_239 l hl k L HL.out _).mono ?_); rintro e wz ⟨rfl, rfl⟩) | (go_at_call 227; (with_reducible refine (in_0_237_237 l hl k L HL.out _).mono ?_); rintro e wz ⟨rfl, rfl⟩) | (go_at_call 227; (with_reducible refine (in_0_240_240 l hl k L HL.out _).mono ?_); rintro e wz ⟨rfl, rfl⟩) | (go_at_call 227; (with_reducible refine (in_0_241_243 l hl k L HL.out _).mono ?_); rintro e wz ⟨rfl, rfl⟩) | (go_at_call 227; (with_reducible refine (in_0_244_244 l hl k L HL.out _).mono ?_); rintro e wz ⟨rfl, rfl⟩) | (go_at_call 227; (with_reducible refine (in_1_128_191 l hl k L HL.out _).mono ?_); rintro e wz ⟨rfl, rfl⟩) | (go_at_call 227; (with_reducible refine (in_1_160_191 l hl k L HL.out _).mono ?_); rintro e wz ⟨rfl, rfl⟩) | (go_at_call 227; (with_reducible refine (in_1_128_159 l hl k L HL.out _).mono ?_); rintro e wz ⟨rfl, rfl⟩) | (go_at_call 227; (with_reducible refine (in_1_144_191 l hl k L HL.out _).mono ?_); rintro e wz ⟨rfl, rfl⟩) | (go_at_call 227; (with_reducible refine (in_1_128_143 l hl k L HL.out _).mono ?_); rintro e wz ⟨rfl, rfl⟩) | (go_at_call 227; (with_reducible refine (in_2_128_191 l hl k L HL.out _).mono ?_); rintro e wz ⟨rfl, rfl⟩) | (go_at_call 227; (with_reducible refine (in_3_128_191 l hl k L HL.out _).mono ?_); rintro e wz ⟨rfl, rfl⟩))
    go_ret
    exact ⟨ret_int (by rw [HV.out]; rfl), rfl⟩
   | true =>
    cases y1 : inr L 1 128 191 with
    | true =>
     obtain ⟨v, hv⟩ : ∃ v, sgn L = v := ⟨_, rfl⟩
     have hv2 := hv
     unfold sgn at hv2
     simp [*] at hv2
     subst hv2
     have HV := Lib.hid hv
     clear hv
     go_enter Tryz.func221, Tryz.ntmps221
     go_wp2_with (first | (go_at_call 227; (with_reducible refine (in_0_0_127 l hl k L HL.out _).mono ?_); rintro e wz ⟨rfl, rfl⟩) | (go_at_call 227; (with_reducible refine (in_0_194_223 l hl k L HL.out _).mono ?_); rintro e wz ⟨rfl, rfl⟩) | (go_at_call 227; (with_reducible refine (in_0_224_224 l hl k L HL.out _).mono ?_); rintro e wz ⟨rfl, rfl⟩) | (go_at_call 227; (with_reducible refine (in_0_225_236 l hl k L HL.out _).mono ?_); rintro e wz ⟨rfl, rfl⟩) | (go_at_call 227; (with_reducible refine (in_0_238_239 l hl k L HL.out _).mono ?_); rintro e wz ⟨rfl, rfl⟩) | (go_at_call 227; (with_reducible refine (in_0_237_237 l hl k L HL.out _).mono ?_); rintro e wz ⟨rfl, rfl⟩) | (go_at_call 227; (with_reducible refine (in_0_240_240 l hl k L HL.out _).mono ?_); rintro e wz ⟨rfl, rfl⟩) | (go_at_call 227; (with_reducible refine (in_0_241_243 l hl k L HL.out _).mono ?_); rintro e wz ⟨rfl, rfl⟩) | (go_at_call 227; (with_reducible refine (in_0_244_244 l hl k L HL.out _).mono ?_); rintro e wz ⟨rfl, rfl⟩) | (go_at_call 227; (with_reducible refine (in_1_128_191 l hl k L HL.out _).mono ?_); rintro e wz ⟨rfl, rfl⟩) | (go_at_call 227; (with_reducible refine (in_1_160_191 l hl k L HL.out _).mono ?_); rintro e wz ⟨rfl, rfl⟩) | (go_at_call 227; (with_reducible refine (in_1_128_159 l hl k L HL.out _).mono ?_); rintro e wz ⟨rfl, rfl⟩) | (go_at_call 227; (with_reducible refine (in_1_144_191 l hl k L HL.out _).mono ?_); rintro e wz ⟨rfl, rfl⟩) | (go_at_call 227; (with_reducible refine (in_1_128_143 l hl k L HL.out _).mono ?_); rintro e wz ⟨rfl, rfl⟩) | (go_at_call 227; (with_reducible refine (in_2_128_191 l hl k L HL.out _).mono ?_); rintro e wz ⟨rfl, rfl⟩) | (go_at_call 227; (with_reducible refine (in_3_128_191 l hl k L HL.out _).mono ?_); rintro e wz ⟨rfl, rfl⟩))
     go_ret
     exact ⟨ret_int (by rw [HV.out]; rfl), rfl⟩
    | false =>
     cases y3 : inr L 3 128 191 with
     | false =>
      obtain ⟨v, hv⟩ : ∃ v, sgn L = v := ⟨_, rfl⟩
      have hv2 := hv
      unfold sgn at hv2
      simp [*] at hv2
      subst hv2
      have HV := Lib.hid hv
      clear hv
      go_enter Tryz.func221, Tryz.ntmps221
      go_wp2_with (first | (go_at_call 227; (with_reducible refine (in_0_0_127 l hl k L HL.out _).mono ?_); rintro e wz ⟨rfl, rfl⟩) | (go_at_call 227; (with_reducible refine (in_0_194_223 l hl k L HL.out _).mono ?_); rintro e wz ⟨rfl, rfl⟩) | (go_at_call 227; (with_reducible refine (in_0_224_224 l hl k L HL.out _).mono ?_); rintro e wz ⟨rfl, rfl⟩) | (go_at_call 227; (with_reducible refine (in_0_225_236 l hl k L HL.out _).mono ?_); rintro e wz ⟨rfl, rfl⟩) | (go_at_call 227; (with_reducible refine (in_0_238_239 l hl k L HL.out _).mono ?_); rintro e wz ⟨rfl, rfl⟩) | (go_at_call 227; (with_reducible refine (in_0_237_237 l hl k L HL.out _).mono ?_); rintro e wz ⟨rfl, rfl⟩) | (go_at_call 227; (with_reducible refine (in_0_240_240 l hl k L HL.out _).mono ?_); rintro e wz ⟨rfl, rfl⟩) | (go_at_call 227; (with_reducible refine (in_0_241_243 l hl k L HL.out _).mono ?_); rintro e wz ⟨rfl, rfl⟩) | (go_at_call 227; (with_reducible refine (in_0_244_244 l hl k L HL.out _).mono ?_); rintro e wz ⟨rfl, rfl⟩) | (go_at_call 227; (with_reducible refine (in_1_128_191 l hl k L HL.out _).mono ?_); rintro e wz ⟨rfl, rfl⟩) | (go_at_call 227; (with_reducible refine (in_1_160_191 l hl k L HL.out _).mono ?_); rintro e wz ⟨rfl, rfl⟩) | (go_at_call 227; (with_reducible refine (in_1_128_159 l hl k L HL.out _).mono ?_); rintro e wz ⟨rfl, rfl⟩) | (go_at_call 227; (with_reducible refine (in_1_144_191 l hl k L HL.out _).mono ?_); rintro e wz ⟨rfl, rfl⟩) | (go_at_call 227; (with_reducible refine (in_1_128_143 l hl k L HL.out _).mono ?_); rintro e wz ⟨rfl, rfl⟩) | (go_at_call 227; (with_reducible refine (in_2_128_191 l hl k L HL.out _).mono ?_); rintro e wz ⟨rfl, rfl⟩) | (go_at_call 227; (with_reducible refine (in_3_128_191 l hl k L HL.out _).mono ?_); rintro e wz ⟨rfl, rfl⟩))
      go_ret
      exact ⟨ret_int (by rw [HV.out]; rfl), rfl⟩
     | true =>
      obtain ⟨v, hv⟩ : ∃ v, sgn L = v := ⟨_, rfl⟩
      have hv2 := hv
      unfold sgn at hv2
      simp [*] at hv2
      subst hv2
      have HV := Lib.hid hv
      clear hv
      go_enter Tryz.func221, Tryz.ntmps221
      go_wp2_with (first | (go_at_call 227; (with_reducible refine (in_0_0_127 l hl k L HL.out _).mono ?_); rintro e wz ⟨rfl, rfl⟩) | (go_at_call 227; (with_reducible refine (in_0_194_223 l hl k L HL.out _).mono ?_); rintro e wz ⟨rfl, rfl⟩) | (go_at_call 227; (with_reducible refine (in_0_224_224 l hl k L HL.out _).mono ?_); rintro e wz ⟨rfl, rfl⟩) | (go_at_call 227; (with_reducible refine (in_0_225_236 l hl k L HL.out _).mono ?_); rintro e wz ⟨rfl, rfl⟩) | (go_at_call 227; (with_reducible refine (in_0_238_239 l hl k L HL.out _).mono ?_); rintro e wz ⟨rfl, rfl⟩) | (go_at_call 227; (with_reducible refine (in_0_237_237 l hl k L HL.out _).mono ?_); rintro e wz ⟨rfl, rfl⟩) | (go_at_call 227; (with_reducible refine (in_0_240_240 l hl k L HL.out _).mono ?_); rintro e wz ⟨rfl, rfl⟩) | (go_at_call 227; (with_reducible refine (in_0_241_243 l hl k L HL.out _).mono ?_); rintro e wz ⟨rfl, rfl⟩) | (go_at_call 227; (with_reducible refine (in_0_244_244 l hl k L HL.out _).mono ?_); rintro e wz ⟨rfl, rfl⟩) | (go_at_call 227; (with_reducible refine (in_1_128_191 l hl k L HL.out _).mono ?_); rintro e wz ⟨rfl, rfl⟩) | (go_at_call 227; (with_reducible refine (in_1_160_191 l hl k L HL.out _).mono ?_); rintro e wz ⟨rfl, rfl⟩) | (go_at_call 227; (with_reducible refine (in_1_128_159 l hl k L HL.out _).mono ?_); rintro e wz ⟨rfl, rfl⟩) | (go_at_call 227; (with_reducible refine (in_1_144_191 l hl k L HL.out _).mono ?_); rintro e wz ⟨rfl, rfl⟩) | (go_at_call 227; (with_reducible refine (in_1_128_143 l hl k L HL.out _).mono ?_); rintro e wz ⟨rfl, rfl⟩) | (go_at_call 227; (with_reducible refine (in_2_128_191 l hl k L HL.out _).mono ?_); rintro e wz ⟨rfl, rfl⟩) | (go_at_call 227; (with_reducible refine (in_3_128_191 l hl k L HL.out _).mono ?_); rintro e wz ⟨rfl, rfl⟩))
      go_ret
      exact ⟨ret_int (by rw [HV.out]; rfl), rfl⟩
  ·have z0 := off 0 127 (by omega)
   have z1 := off 194 223 (by omega)
   have z2 := off 224 224 (by omega)
   have z3 := off 225 236 (by omega)
   have z4 := off 238 239 (by omega)
   have z5 := on 237 237 (by omega) (by omega)
   have z6 := off 240 240 (by omega)
   have z7 := off 241 243 (by omega)
   have z8 := off 244 244 (by omega)
   clear on off h1 h2 hbb h0
   cases y2 : inr L 2 128 191 with
   | false =>
    obtain ⟨v, hv⟩ : ∃ v, sgn L = v := ⟨_, rfl⟩
    have hv2 := hv
    unfold sgn at hv2
    simp [*] at hv2
    subst hv2
    have HV := Lib.hid hv
    clear hv
    go_enter Tryz.func221, Tryz.ntmps221
    go_wp2_with (first | (go_at_call 227; (with_reducible refine (in_0_0_127 l hl k L HL.out _).mono ?_); rintro e wz ⟨rfl, rfl⟩) | (go_at_call 227; (with_reducible refine (in_0_194_223 l hl k L HL.out _).mono ?_); rintro e wz ⟨rfl, rfl⟩) | (go_at_call 227; (with_reducible refine (in_0_224_224 l hl k L HL.out _).mono ?_); rintro e wz ⟨rfl, rfl⟩) | (go_at_call 227; (with_reducible refine (in_0_225_236 l hl k L HL.out _).mono ?_); rintro e wz ⟨rfl, rfl⟩) | (go_at_call 227; (with_reducible refine (in_0_238_239 l hl k L HL.out _).mono ?_); rintro e wz ⟨rfl, rfl⟩) | (go_at_call 227; (with_reducible refine (in_0_237_237 l hl k L HL.out _).mono ?_); rintro e wz ⟨rfl, rfl⟩) | (go_at_call 227; (with_reducible refine (in_0_240_240 l hl k L HL.out _).mono ?_); rintro e wz ⟨rfl, rfl⟩) | (go_at_call 227; (with_reducible refine (in_0_241_243 l hl k L HL.out _).mono ?_); rintro e wz ⟨rfl, rfl⟩) | (go_at_call 227; (with_reducible refine (in_0_244_244 l hl k L HL.out _).mono ?_); rintro e wz ⟨rfl, rfl⟩) | (go_at_call 227; (with_reducible refine (in_1_128_191 l hl k L HL.out _).mono ?_); rintro e wz ⟨rfl, rfl⟩) | (go_at_call 227; (with_reducible refine (in_1_160_191 l hl k L HL.out _).mono ?_); rintro e wz ⟨rfl, rfl⟩) | (go_at_call 227; (with_reducible refine (in_1_128_159 l hl k L HL.out _).mono ?_); rintro e wz ⟨rfl, rfl⟩) | (go_at_call 227; (with_reducible refine (in_1_144_191 l hl k L HL.out _).mono ?_); rintro e wz ⟨rfl, rfl⟩) | (go_at_call 227; (with_reducible refine (in_1_128_143 l hl k L HL.out _).mono ?_); rintro e wz ⟨rfl, rfl⟩) | (go_at_call 227; (with_reducible refine (in_2_128_191 l hl k L HL.out _).mono ?_); rintro e wz ⟨rfl, rfl⟩) | (go_at_call 227; (with_reducible refine (in_3_128_191 l hl k L HL.out _).mono ?_); rintro e wz ⟨rfl, rfl⟩))
    go_ret
    exact ⟨ret_int (by rw [HV.out]; rfl), rfl⟩
   | true =>
    cases y1 : inr L 1 128 159 with
    | true =>
     obtain ⟨v, hv⟩ : ∃ v, sgn L = v := ⟨_, rfl⟩
     have hv2 := hv
     unfold sgn at hv2
     simp [*] at hv2
     subst hv2
     have HV := Lib.hid hv
     clear hv
     go_enter Tryz.func221, Tryz.ntmps221
     go_wp2_with (first | (go_at_call 227; (with_reducible refine (in_0_0_127 l hl k L HL.out _).mono ?_); rintro e wz ⟨rfl, rfl⟩) | (go_at_call 227; (with_reducible refine (in_0_194_223 l hl k L HL.out _).mono ?_); rintro e wz ⟨rfl, rfl⟩) | (go_at_call 227; (with_reducible refine (in_0_224_224 l hl k L HL.out _).mono ?_); rintro e wz ⟨rfl, rfl⟩) | (go_at_call 227; (with_reducible refine (in_0_225_236 l hl k L HL.out _).mono ?_); rintro e wz ⟨rfl, rfl⟩) | (go_at_call 227; (with_reducible refine (in_0_238_239 l hl k L HL.out _).mono ?_); rintro e wz ⟨rfl, rfl⟩) | (go_at_call 227; (with_reducible refine (in_0_237_237 l hl k L HL.out _).mono ?_); rintro e wz ⟨rfl, rfl⟩) | (go_at_call 227; (with_reducible refine (in_0_240_240 l hl k L HL.out _).mono ?_); rintro e wz ⟨rfl, rfl⟩) | (go_at_call 227; (with_reducible refine (in_0_241_243 l hl k L HL.out _).mono ?_); rintro e wz ⟨rfl, rfl⟩) | (go_at_call 227; (with_reducible refine (in_0_244_244 l hl k L HL.out _).mono ?_); rintro e wz ⟨rfl, rfl⟩) | (go_at_call 227; (with_reducible refine (in_1_128_191 l hl k L HL.out _).mono ?_); rintro e wz ⟨rfl, rfl⟩) | (go_at_call 227; (with_reducible refine (in_1_160_191 l hl k L HL.out _).mono ?_); rintro e wz ⟨rfl, rfl⟩) | (go_at_call 227; (with_reducible refine (in_1_128_159 l hl k L HL.out _).mono ?_); rintro e wz ⟨rfl, rfl⟩) | (go_at_call 227; (with_reducible refine (in_1_144_191 l hl k L HL.out _).mono ?_); rintro e wz ⟨rfl, rfl⟩) | (go_at_call 227; (with_reducible refine (in_1_128_143 l hl k L HL.out _).mono ?_); rintro e wz ⟨rfl, rfl⟩) | (go_at_call 227; (with_reducible refine (in_2_128_191 l hl k L HL.out _).mono ?_); rintro e wz ⟨rfl, rfl⟩) | (go_at_call 227; (with_reducible refine (in_3_128_191 l hl k L HL.out _).mono ?_); rintro e wz ⟨rfl, rfl⟩))
     go_ret
     exact ⟨ret_int (by rw [HV.out]; rfl), rfl⟩
    | false =>
     cases y3 : inr L 3 128 191 with
     | false =>
      obtain ⟨v, hv⟩ : ∃ v, sgn L = v := ⟨_, rfl⟩
      have hv2 := hv
      unfold sgn at hv2
      simp [*] at hv2
      subst hv2
      have HV := Lib.hid hv
      clear hv
      go_enter Tryz.func221, Tryz.ntmps221
      go_wp2_with (first | (go_at_call 227; (with_reducible refine (in_0_0_127 l hl k L HL.out _).mono ?_); rintro e wz ⟨rfl, rfl⟩) | (go_at_call 227; (with_reducible refine (in_0_194_223 l hl k L HL.out _).mono ?_); rintro e wz ⟨rfl, rfl⟩) | (go_at_call 227; (with_reducible refine (in_0_224_224 l hl k L HL.out _).mono ?_); rintro e wz ⟨rfl, rfl⟩) | (go_at_call 227; (with_reducible refine (in_0_225_236 l hl k L HL.out _).mono ?_); rintro e wz ⟨rfl, rfl⟩) | (go_at_call 227; (with_reducible refine (in_0_238_239 l hl k L HL.out _).mono ?_); rintro e wz ⟨rfl, rfl⟩) | (go_at_call 227; (with_reducible refine (in_0_237_237 l hl k L HL.out _).mono ?_); rintro e wz ⟨rfl, rfl⟩) | (go_at_call 227; (with_reducible refine (in_0_240_240 l hl k L HL.out _).mono ?_); rintro e wz ⟨rfl, rfl⟩) | (go_at_call 227; (with_reducible refine (in_0_241_243 l hl k L HL.out _).mono ?_); rintro e wz ⟨rfl, rfl⟩) | (go_at_call 227; (with_reducible refine (in_0_244_244 l hl k L HL.out _).mono ?_); rintro e wz ⟨rfl, rfl⟩) | (go_at_call 227; (with_reducible refine (in_1_128_191 l hl k L HL.out _).mono ?_); rintro e wz ⟨rfl, rfl⟩) | (go_at_call 227; (with_reducible refine (in_1_160_191 l hl k L HL.out _).mono ?_); rintro e wz ⟨rfl, rfl⟩) | (go_at_call 227; (with_reducible refine (in_1_128_159 l hl k L HL.out _).mono ?_); rintro e wz ⟨rfl, rfl⟩) | (go_at_call 227; (with_reducible refine (in_1_144_191 l hl k L HL.out _).mono ?_); rintro e wz ⟨rfl, rfl⟩) | (go_at_call 227; (with_reducible refine (in_1_128_143 l hl k L HL.out _).mono ?_); rintro e wz ⟨rfl, rfl⟩) | (go_at_call 227; (with_reducible refine (in_2_128_191 l hl k L HL.out _).mono ?_); rintro e wz ⟨rfl, rfl⟩) | (go_at_call 227; (with_reducible refine (in_3_128_191 l hl k L HL.out _).mono ?_); rintro e wz ⟨rfl, rfl⟩))
      go_ret
      exact ⟨ret_int (by rw [HV.out]; rfl), rfl⟩
     | true =>
      obtain ⟨v, hv⟩ : ∃ v, sgn L = v := ⟨_, rfl⟩
      have hv2 := hv
      unfold sgn at hv2
      simp [*] at hv2
      subst hv2
      have HV := Lib.hid hv
      clear hv
      go_enter Tryz.func221, Tryz.ntmps221
      go_wp2_with (first | (go_at_call 227; (with_reducible refine (in_0_0_127 l hl k L HL.out _).mono ?_); rintro e wz ⟨rfl, rfl⟩) | (go_at_call 227; (with_reducible refine (in_0_194_223 l hl k L HL.out _).mono ?_); rintro e wz ⟨rfl, rfl⟩) | (go_at_call 227; (with_reducible refine (in_0_224_224 l hl k L HL.out _).mono ?_); rintro e wz ⟨rfl, rfl⟩) | (go_at_call 227; (with_reducible refine (in_0_225_236 l hl k L HL.out _).mono ?_); rintro e wz ⟨rfl, rfl⟩) | (go_at_call 227; (with_reducible refine (in_0_238_239 l hl k L HL.out _).mono ?_); rintro e wz ⟨rfl, rfl⟩) | (go_at_call 227; (with_reducible refine (in_0_237_237 l hl k L HL.out _).mono ?_); rintro e wz ⟨rfl, rfl⟩) | (go_at_call 227; (with_reducible refine (in_0_240_240 l hl k L HL.out _).mono ?_); rintro e wz ⟨rfl, rfl⟩) | (go_at_call 227; (with_reducible refine (in_0_241_243 l hl k L HL.out _).mono ?_); rintro e wz ⟨rfl, rfl⟩) | (go_at_call 227; (with_reducible refine (in_0_244_244 l hl k L HL.out _).mono ?_); rintro e wz ⟨rfl, rfl⟩) | (go_at_call 227; (with_reducible refine (in_1_128_191 l hl k L HL.out _).mono ?_); rintro e wz ⟨rfl, rfl⟩) | (go_at_call 227; (with_reducible refine (in_1_160_191 l hl k L HL.out _).mono ?_); rintro e wz ⟨rfl, rfl⟩) | (go_at_call 227; (with_reducible refine (in_1_128_159 l hl k L HL.out _).mono ?_); rintro e wz ⟨rfl, rfl⟩) | (go_at_call 227; (with_reducible refine (in_1_144_191 l hl k L HL.out _).mono ?_); rintro e wz ⟨rfl, rfl⟩) | (go_at_call 227; (with_reducible refine (in_1_128_143 l hl k L HL.out _).mono ?_); rintro e wz ⟨rfl, rfl⟩) | (go_at_call 227; (with_reducible refine (in_2_128_191 l hl k L HL.out _).mono ?_); rintro e wz ⟨rfl, rfl⟩) | (go_at_call 227; (with_reducible refine (in_3_128_191 l hl k L HL.out _).mono ?_); rintro e wz ⟨rfl, rfl⟩))
      go_ret
      exact ⟨ret_int (by rw [HV.out]; rfl), rfl⟩
  ·have z0 := off 0 127 (by omega)
   have z1 := off 194 223 (by omega)
   have z2 := off 224 224 (by omega)
   have z3 := off 225 236 (by omega)
   have z4 := off 238 239 (by omega)
   have z5 := off 237 237 (by omega)
   have z6 := on 240 240 (by omega) (by omega)
   have z7 := off 241 243 (by omega)
   have z8 := off 244 244 (by omega)
   clear on off h1 h2 hbb h0
   cases y2 : inr L 2 128 191 with
   | false =>
    obtain ⟨v, hv⟩ : ∃ v, sgn L = v := ⟨_, rfl⟩
    have hv2 := hv
    unfold sgn at hv2
    simp [*] at hv2
    subst hv2
    have HV := Lib.hid hv
    clear hv
    go_enter Tryz.func221, Tryz.ntmps221
    go_wp2_with (first | (go_at_call 227; (with_reducible refine (in_0_0_127 l hl k L HL.out _).mono ?_); rintro e wz ⟨rfl, rfl⟩) | (go_at_call 227; (with_reducible refine (in_0_194_223 l hl k L HL.out _).mono ?_); rintro e wz ⟨rfl, rfl⟩) | (go_at_call 227; (with_reducible refine (in_0_224_224 l hl k L HL.out _).mono ?_); rintro e wz ⟨rfl, rfl⟩) | (go_at_call 227; (with_reducible refine (in_0_225_236 l hl k L HL.out _).mono ?_); rintro e wz ⟨rfl, rfl⟩) | (go_at_call 227; (with_reducible refine (in_0_238_239 l hl k L HL.out _).mono ?_); rintro e wz ⟨rfl, rfl⟩) | (go_at_call 227; (with_reducible refine (in_0_237_237 l hl k L HL.out _).mono ?_); rintro e wz ⟨rfl, rfl⟩) | (go_at_call 227; (with_reducible refine (in_0_240_240 l hl k L HL.out _).mono ?_); rintro e wz ⟨rfl, rfl⟩) | (go_at_call 227; (with_reducible refine (in_0_241_243 l hl k L HL.out _).mono ?_); rintro e wz ⟨rfl, rfl⟩) | (go_at_call 227; (with_reducible refine (in_0_244_244 l hl k L HL.out _).mono ?_); rintro e wz ⟨rfl, rfl⟩) | (go_at_call 227; (with_reducible refine (in_1_128_191 l hl k L HL.out _).mono ?_); rintro e wz ⟨rfl, rfl⟩) | (go_at_call 227; (with_reducible refine (in_1_160_191 l hl k L HL.out _).mono ?_); rintro e wz ⟨rfl, rfl⟩) | (go_at_call 227; (with_reducible refine (in_1_128_159 l hl k L HL.out _).mono ?_); rintro e wz ⟨rfl, rfl⟩) | (go_at_call 227; (with_reducible refine (in_1_144_191 l hl k L HL.out _).mono ?_); rintro e wz ⟨rfl, rfl⟩) | (go_at_call 227; (with_reducible refine (in_1_128_143 l hl k L HL.out _).mono ?_); rintro e wz ⟨rfl, rfl⟩) | (go_at_call 227; (with_reducible refine (in_2_128_191 l hl k L HL.out _).mono ?_); rintro e wz ⟨rfl, rfl⟩) | (go_at_call 227; (with_reducible refine (in_3_128_191 l hl k L HL.out _).mono ?_); rintro e wz ⟨rfl, rfl⟩))
    go_ret
    exact ⟨ret_int (by rw [HV.out]; rfl), rfl⟩
   | true =>
    cases y3 : inr L 3 128 191 with
    | false =>
     obtain ⟨v, hv⟩ : ∃ v, sgn L = v := ⟨_, rfl⟩
     have hv2 := hv
     unfold sgn at hv2
     simp [*] at hv2
     subst hv2
     have HV := Lib.hid hv
     clear hv
     go_enter Tryz.func221, Tryz.ntmps221
     go_wp2_with (first | (go_at_call 227; (with_reducible refine (in_0_0_127 l hl k L HL.out _).mono ?_); rintro e wz ⟨rfl, rfl⟩) | (go_at_call 227; (with_reducible refine (in_0_194_223 l hl k L HL.out _).mono ?_); rintro e wz ⟨rfl, rfl⟩) | (go_at_call 227; (with_reducible refine (in_0_224_224 l hl k L HL.out _).mono ?_); rintro e wz ⟨rfl, rfl⟩) | (go_at_call 227; (with_reducible refine (in_0_225_236 l hl k L HL.out _).mono ?_); rintro e wz ⟨rfl, rfl⟩) | (go_at_call 227; (with_reducible refine (in_0_238_239 l hl k L HL.out _).mono ?_); rintro e wz ⟨rfl, rfl⟩) | (go_at_call 227; (with_reducible refine (in_0_237_237 l hl k L HL.out _).mono ?_); rintro e wz ⟨rfl, rfl⟩) | (go_at_call 227; (with_reducible refine (in_0_240_240 l hl k L HL.out _).mono ?_); rintro e wz ⟨rfl, rfl⟩) | (go_at_call 227; (with_reducible refine (in_0_241_243 l hl k L HL.out _).mono ?_); rintro e wz ⟨rfl, rfl⟩) | (go_at_call 227; (with_reducible refine (in_0_244_244 l hl k L HL.out _).mono ?_); rintro e wz ⟨rfl, rfl⟩) | (go_at_call 227; (with_reducible refine (in_1_128_191 l hl k L HL.out _).mono ?_); rintro e wz ⟨rfl, rfl⟩) | (go_at_call 227; (with_reducible refine (in_1_160_191 l hl k L HL.out _).mono ?_); rintro e wz ⟨rfl, rfl⟩) | (go_at_call 227; (with_reducible refine (in_1_128_159 l hl k L HL.out _).mono ?_); rintro e wz ⟨rfl, rfl⟩) | (go_at_call 227; (with_reducible refine (in_1_144_191 l hl k L HL.out _).mono ?_); rintro e wz ⟨rfl, rfl⟩) | (go_at_call 227; (with_reducible refine (in_1_128_143 l hl k L HL.out _).mono ?_); rintro e wz ⟨rfl, rfl⟩) | (go_at_call 227; (with_reducible refine (in_2_128_191 l hl k L HL.out _).mono ?_); rintro e wz ⟨rfl, rfl⟩) | (go_at_call 227; (with_reducible refine (in_3_128_191 l hl k L HL.out _).mono ?_); rintro e wz ⟨rfl, rfl⟩))
     go_ret
     exact ⟨ret_int (by rw [HV.out]; rfl), rfl⟩
    | true =>
     cases y1 : inr L 1 144 191 with
     | false =>
      obtain ⟨v, hv⟩ : ∃ v, sgn L = v := ⟨_, rfl⟩
      have hv2 := hv
      unfold sgn at hv2
      simp [*] at hv2
      subst hv2
      have HV := Lib.hid hv
      clear hv
      go_enter Tryz.func221, Tryz.ntmps221
      go_wp2_with (first | (go_at_call 227; (with_reducible refine (in_0_0_127 l hl k L HL.out _).mono ?_); rintro e wz ⟨rfl, rfl⟩) | (go_at_call 227; (with_reducible refine (in_0_194_223 l hl k L HL.out _).mono ?_); rintro e wz ⟨rfl, rfl⟩) | (go_at_call 227; (with_reducible refine (in_0_224_224 l hl k L HL.out _).mono ?_); rintro e wz ⟨rfl, rfl⟩) | (go_at_call 227; (with_reducible refine (in_0_225_236 l hl k L HL.out _).mono ?_); rintro e wz ⟨rfl, rfl⟩) | (go_at_call 227; (with_reducible refine (in_0_238_239 l hl k L HL.out _).mono ?_); rintro e wz ⟨rfl, rfl⟩) | (go_at_call 227; (with_reducible refine (in_0_237_237 l hl k L HL.out _).mono ?_); rintro e wz ⟨rfl, rfl⟩) | (go_at_call 227; (with_reducible refine (in_0_240_240 l hl k L HL.out _).mono ?_); rintro e wz ⟨rfl, rfl⟩) | (go_at_call 227; (with_reducible refine (in_0_241_243 l hl k L HL.out _).mono ?_); rintro e wz ⟨rfl, rfl⟩) | (go_at_call 227; (with_reducible refine (in_0_244_244 l hl k L HL.out _).mono ?_); rintro e wz ⟨rfl, rfl⟩) | (go_at_call 227; (with_reducible refine (in_1_128_191 l hl k L HL.out _).mono ?_); rintro e wz ⟨rfl, rfl⟩) | (go_at_call 227; (with_reducible refine (in_1_160_191 l hl k L HL.out _).mono ?_); rintro e wz ⟨rfl, rfl⟩) | (go_at_call 227; (with_reducible refine (in_1_128_159 l hl k L HL.out _).mono ?_); rintro e wz ⟨rfl, rfl⟩) | (go_at_call 227; (with_reducible refine (in_1_144_191 l hl k L HL.out _).mono ?_); rintro e wz ⟨rfl, rfl⟩) | (go_at_call 227; (with_reducible refine (in_1_128_143 l hl k L HL.out _).mono ?_); rintro e wz ⟨rfl, rfl⟩) | (go_at_call 227; (with_reducible refine (in_2_128_191 l hl k L HL.out _).mono ?_); rintro e wz ⟨rfl, rfl⟩) | (go_at_call 227; (with_reducible refine (in_3_128_191 l hl k L HL.out _).mono ?_); rintro e wz ⟨rfl, rfl⟩))
      go_ret
      exact ⟨ret_int (by rw [HV.out]; rfl), rfl⟩
     | true =>
      obtain ⟨v, hv⟩ : ∃ v, sgn L = v := ⟨_, rfl⟩
      have hv2 := hv
      unfold sgn at hv2
      simp [*] at hv2
      subst hv2
      have HV := Lib.hid hv
      clear hv
      go_enter Tryz.func221, Tryz.ntmps221
      go_wp2_with (first | (go_at_call 227; (with_reducible refine (in_0_0_127 l hl k L HL.out _).mono ?_); rintro e wz ⟨rfl, rfl⟩) | (go_at_call 227; (with_reducible refine (in_0_194_223 l hl k L HL.out _).mono ?_); rintro e wz ⟨rfl, rfl⟩) | (go_at_call 227; (with_reducible refine (in_0_224_224 l hl k L HL.out _).mono ?_); rintro e wz ⟨rfl, rfl⟩) | (go_at_call 227; (with_reducible refine (in_0_225_236 l hl k L HL.out _).mono ?_); rintro e wz ⟨rfl, rfl⟩) | (go_at_call 227; (with_reducible refine (in_0_238_239 l hl k L HL.out _).mono ?_); rintro e wz ⟨rfl, rfl⟩) | (go_at_call 227; (with_reducible refine (in_0_237_237 l hl k L HL.out _).mono ?_); rintro e wz ⟨rfl, rfl⟩) | (go_at_call 227; (with_reducible refine (in_0_240_240 l hl k L HL.out _).mono ?_); rintro e wz ⟨rfl, rfl⟩) | (go_at_call 227; (with_reducible refine (in_0_241_243 l hl k L HL.out _).mono ?_); rintro e wz ⟨rfl, rfl⟩) | (go_at_call 227; (with_reducible refine (in_0_244_244 l hl k L HL.out _).mono ?_); rintro e wz ⟨rfl, rfl⟩) | (go_at_call 227; (with_reducible refine (in_1_128_191 l hl k L HL.out _).mono ?_); rintro e wz ⟨rfl, rfl⟩) | (go_at_call 227; (with_reducible refine (in_1_160_191 l hl k L HL.out _).mono ?_); rintro e wz ⟨rfl, rfl⟩) | (go_at_call 227; (with_reducible refine (in_1_128_159 l hl k L HL.out _).mono ?_); rintro e wz ⟨rfl, rfl⟩) | (go_at_call 227; (with_reducible refine (in_1_144_191 l hl k L HL.out _).mono ?_); rintro e wz ⟨rfl, rfl⟩) | (go_at_call 227; (with_reducible refine (in_1_128_143 l hl k L HL.out _).mono ?_); rintro e wz ⟨rfl, rfl⟩) | (go_at_call 227; (with_reducible refine (in_2_128_191 l hl k L HL.out _).mono ?_); rintro e wz ⟨rfl, rfl⟩) | (go_at_call 227; (with_reducible refine (in_3_128_191 l hl k L HL.out _).mono ?_); rintro e wz ⟨rfl, rfl⟩))
      go_ret
      exact ⟨ret_int (by rw [HV.out]; rfl), rfl⟩
  ·have z0 := off 0 127 (by omega)
   have z1 := off 194 223 (by omega)
   have z2 := off 224 224 (by omega)
   have z3 := off 225 236 (by omega)
   have z4 := off 238 239 (by omega)
   have z5 := off 237 237 (by omega)
   have z6 := off 240 240 (by omega)
   have z7 := on 241 243 (by omega) (by omega)
   have z8 := off 244 244 (by omega)
   clear on off h1 h2 hbb h0
   cases y2 : inr L 2 128 191 with
   | false =>
    obtain ⟨v, hv⟩ : ∃ v, sgn L = v := ⟨_, rfl⟩
    have hv2 := hv
    unfold sgn at hv2
    simp [*] at hv2
    subst hv2
    have HV := Lib.hid hv
    clear hv
    go_enter Tryz.func221, Tryz.ntmps221
    go_wp2_with (first | (go_at_call 227; (with_reducible refine (in_0_0_127 l hl k L HL.out _).mono ?_); rintro e wz ⟨rfl, rfl⟩) | (go_at_call 227; (with_reducible refine (in_0_194_223 l hl k L HL.out _).mono ?_); rintro e wz ⟨rfl, rfl⟩) | (go_at_call 227; (with_reducible refine (in_0_224_224 l hl k L HL.out _).mono ?_); rintro e wz ⟨rfl, rfl⟩) | (go_at_call 227; (with_reducible refine (in_0_225_236 l hl k L HL.out _).mono ?_); rintro e wz ⟨rfl, rfl⟩) | (go_at_call 227; (with_reducible refine (in_0_238_239 l hl k L HL.out _).mono ?_); rintro e wz ⟨rfl, rfl⟩) | (go_at_call 227; (with_reducible refine (in_0_237_237 l hl k L HL.out _).mono ?_); rintro e wz ⟨rfl, rfl⟩) | (go_at_call 227; (with_reducible refine (in_0_240_240 l hl k L HL.out _).mono ?_); rintro e wz ⟨rfl, rfl⟩) | (go_at_call 227; (with_reducible refine (in_0_241_243 l hl k L HL.out _).mono ?_); rintro e wz ⟨rfl, rfl⟩) | (go_at_call 227; (with_reducible refine (in_0_244_244 l hl k L HL.out _).mono ?_); rintro e wz ⟨rfl, rfl⟩) | (go_at_call 227; (with_reducible refine (in_1_128_191 l hl k L HL.out _).mono ?_); rintro e wz ⟨rfl, rfl⟩) | (go_at_call 227; (with_reducible refine (in_1_160_191 l hl k L HL.out _).mono ?_); rintro e wz ⟨rfl, rfl⟩) | (go_at_call 227; (with_reducible refine (in_1_128_159 l hl k L HL.out _).mono ?_); rintro e wz ⟨rfl, rfl⟩) | (go_at_call 227; (with_reducible refine (in_1_144_191 l hl k L HL.out _).mono ?_); rintro e wz ⟨rfl, rfl⟩) | (go_at_call 227; (with_reducible refine (in_1_128_143 l hl k L HL.out _).mono ?_); rintro e wz ⟨rfl, rfl⟩) | (go_at_call 227; (with_reducible refine (in_2_128_191 l hl k L HL.out _).mono ?_); rintro e wz ⟨rfl, rfl⟩) | (go_at_call 227; (with_reducible refine (in_3_128_191 l hl k L HL.out _).mono ?_); rintro e wz ⟨rfl, rfl⟩))
    go_ret
    exact ⟨ret_int (by rw [HV.out]; rfl), rfl⟩
   | true =>
    cases y3 : inr L 3 128 191 with
    | false =>
     obtain ⟨v, hv⟩ : ∃ v, sgn L = v := ⟨_, rfl⟩
     have hv2 := hv
     unfold sgn at hv2
     simp [*] at hv2
     subst hv2
     have HV := Lib.hid hv
     clear hv
     go_enter Tryz.func221, Tryz.ntmps221
     go_wp2_with (first | (go_at_call 227; (with_reducible refine (in_0_0_127 l hl k L HL.out _).mono ?_); rintro e wz ⟨rfl, rfl⟩) | (go_at_call 227; (with_reducible refine (in_0_194_223 l hl k L HL.out _).mono ?_); rintro e wz ⟨rfl, rfl⟩) | (go_at_call 227; (with_reducible refine (in_0_224_224 l hl k L HL.out _).mono ?_); rintro e wz ⟨rfl, rfl⟩) | (go_at_call 227; (with_reducible refine (in_0_225_236 l hl k L HL.out _).mono ?_); rintro e wz ⟨rfl, rfl⟩) | (go_at_call 227; (with_reducible refine (in_0_238_239 l hl k L HL.out _).mono ?_); rintro e wz ⟨rfl, rfl⟩) | (go_at_call 227; (with_reducible refine (in_0_237_237 l hl k L HL.out _).mono ?_); rintro e wz ⟨rfl, rfl⟩) | (go_at_call 227; (with_reducible refine (in_0_240_240 l hl k L HL.out _).mono ?_); rintro e wz ⟨rfl, rfl⟩) | (go_at_call 227; (with_reducible refine (in_0_241_243 l hl k L HL.out _).mono ?_); rintro e wz ⟨rfl, rfl⟩) | (go_at_call 227; (with_reducible refine (in_0_244_244 l hl k L HL.out _).mono ?_); rintro e wz ⟨rfl, rfl⟩) | (go_at_call 227; (with_reducible refine (in_1_128_191 l hl k L HL.out _).mono ?_); rintro e wz ⟨rfl, rfl⟩) | (go_at_call 227; (with_reducible refine (in_1_160_191 l hl k L HL.out _).mono ?_); rintro e wz ⟨rfl, rfl⟩) | (go_at_call 227; (with_reducible refine (in_1_128_159 l hl k L HL.out _).mono ?_); rintro e wz ⟨rfl, rfl⟩) | (go_at_call 227; (with_reducible refine (in_1_144_191 l hl k L HL.out _).mono ?_); rintro e wz ⟨rfl, rfl⟩) | (go_at_call 227; (with_reducible refine (in_1_128_143 l hl k L HL.out _).mono ?_); rintro e wz ⟨rfl, rfl⟩) | (go_at_call 227; (with_reducible refine (in_2_128_191 l hl k L HL.out _).mono ?_); rintro e wz ⟨rfl, rfl⟩) | (go_at_call 227; (with_reducible refine (in_3_128_191 l hl k L HL.out _).mono ?_); rintro e wz ⟨rfl, rfl⟩))
     go_ret
     exact ⟨ret_int (by rw [HV.out]; rfl), rfl⟩
    | true =>
     cases y1 : inr L 1 128 191 with
     | false =>
      obtain ⟨v, hv⟩ : ∃ v, sgn L = v := ⟨_, rfl⟩
      have hv2 := hv
      unfold sgn at hv2
      simp [*] at hv2
      subst hv2
      have HV := Lib.hid hv
      clear hv
      go_enter Tryz.func221, Tryz.ntmps221
      go_wp2_with (first | (go_at_call 227; (with_reducible refine (in_0_0_127 l hl k L HL.out _).mono ?_); rintro e wz ⟨rfl, rfl⟩) | (go_at_call 227; (with_reducible refine (in_0_194_223 l hl k L HL.out _).mono ?_); rintro e wz ⟨rfl, rfl⟩) | (go_at_call 227; (with_reducible refine (in_0_224_224 l hl k L HL.out _).mono ?_); rintro e wz ⟨rfl, rfl⟩) | (go_at_call 227; (with_reducible refine (in_0_225_236 l hl k L HL.out _).mono ?_); rintro e wz ⟨rfl, rfl⟩) | (go_at_call 227; (with_reducible refine (in_0_238_239 l hl k L HL.out _).mono ?_); rintro e wz ⟨rfl, rfl⟩) | (go_at_call 227; (with_reducible refine (in_0_237_237 l hl k L HL.out _).mono ?_); rintro e wz ⟨rfl, rfl⟩) | (go_at_call 227; (with_reducible refine (in_0_240_240 l hl k L HL.out _).mono ?_); rintro e wz ⟨rfl, rfl⟩) | (go_at_call 227; (with_reducible refine (in_0_241_243 l hl k L HL.out _).mono ?_); rintro e wz ⟨rfl, rfl⟩) | (go_at_call 227; (with_reducible refine (in_0_244_244 l hl k L HL.out _).mono ?_); rintro e wz ⟨rfl, rfl⟩) | (go_at_call 227; (with_reducible refine (in_1_128_191 l hl k L HL.out _).mono ?_); rintro e wz ⟨rfl, rfl⟩) | (go_at_call 227; (with_reducible refine (in_1_160_191 l hl k L HL.out _).mono ?_); rintro e wz ⟨rfl, rfl⟩) | (go_at_call 227; (with_reducible refine (in_1_128_159 l hl k L HL.out _).mono ?_); rintro e wz ⟨rfl, rfl⟩) | (go_at_call 227; (with_reducible refine (in_1_144_191 l hl k L HL.out _).mono ?_); rintro e wz ⟨rfl, rfl⟩) | (go_at_call 227; (with_reducible refine (in_1_128_143 l hl k L HL.out _).mono ?_); rintro e wz ⟨rfl, rfl⟩) | (go_at_call 227; (with_reducible refine (in_2_128_191 l hl k L HL.out _).mono ?_); rintro e wz ⟨rfl, rfl⟩) | (go_at_call 227; (with_reducible refine (in_3_128_191 l hl k L HL.out _).mono ?_); rintro e wz ⟨rfl, rfl⟩))
      go_ret
      exact ⟨ret_int (by rw [HV.out]; rfl), rfl⟩
     | true =>
      obtain ⟨v, hv⟩ : ∃ v, sgn L = v := ⟨_, rfl⟩
      have hv2 := hv
      unfold sgn at hv2
      simp [*] at hv2
      subst hv2
      have HV := Lib.hid hv
      clear hv
      go_enter Tryz.func221, Tryz.ntmps221
      go_wp2_with (first | (go_at_call 227; (with_reducible refine (in_0_0_127 l hl k L HL.out _).mono ?_); rintro e wz ⟨rfl, rfl⟩) | (go_at_call 227; (with_reducible refine (in_0_194_223 l hl k L HL.out _).mono ?_); rintro e wz ⟨rfl, rfl⟩) | (go_at_call 227; (with_reducible refine (in_0_224_224 l hl k L HL.out _).mono ?_); rintro e wz ⟨rfl, rfl⟩) | (go_at_call 227; (with_reducible refine (in_0_225_236 l hl k L HL.out _).mono ?_); rintro e wz ⟨rfl, rfl⟩) | (go_at_call 227; (with_reducible refine (in_0_238_239 l hl k L HL.out _).mono ?_); rintro e wz ⟨rfl, rfl⟩) | (go_at_call 227; (with_reducible refine (in_0_237_237 l hl k L HL.out _).mono ?_); rintro e wz ⟨rfl, rfl⟩) | (go_at_call 227; (with_reducible refine (in_0_240_240 l hl k L HL.out _).mono ?_); rintro e wz ⟨rfl, rfl⟩) | (go_at_call 227; (with_reducible refine (in_0_241_243 l hl k L HL.out _).mono ?_); rintro e wz ⟨rfl, rfl⟩) | (go_at_call 227; (with_reducible refine (in_0_244_244 l hl k L HL.out _).mono ?_); rintro e wz ⟨rfl, rfl⟩) | (go_at_call 227; (with_reducible refine (in_1_128_191 l hl k L HL.out _).mono ?_); rintro e wz ⟨rfl, rfl⟩) | (go_at_call 227; (with_reducible refine (in_1_160_191 l hl k L HL.out _).mono ?_); rintro e wz ⟨rfl, rfl⟩) | (go_at_call 227; (with_reducible refine (in_1_128_159 l hl k L HL.out _).mono ?_); rintro e wz ⟨rfl, rfl⟩) | (go_at_call 227; (with_reducible refine (in_1_144_191 l hl k L HL.out _).mono ?_); rintro e wz ⟨rfl, rfl⟩) | (go_at_call 227; (with_reducible refine (in_1_128_143 l hl k L HL.out _).mono ?_); rintro e wz ⟨rfl, rfl⟩) | (go_at_call 227; (with_reducible refine (in_2_128_191 l hl k L HL.out _).mono ?_); rintro e wz ⟨rfl, rfl⟩) | (go_at_call 227; (with_reducible refine (in_3_128_191 l hl k L HL.out _).mono ?_); rintro e wz ⟨rfl, rfl⟩))
      go_ret
      exact ⟨ret_int (by rw [HV.out]; rfl), rfl⟩
  ·have z0 := off 0 127 (by omega)
   have z1 := off 194 223 (by omega)
   have z2 := off 224 224 (by omega)
   have z3 := off 225 236 (by omega)
   have z4 := off 238 239 (by omega)
   have z5 := off 237 237 (by omega)
   have z6 := off 240 240 (by omega)
   have z7 := off 241 243 (by omega)
   have z8 := on 244 244 (by omega) (by omega)
   clear on off h1 h2 hbb h0
   cases y2 : inr L 2 128 191 with
   | false =>
    obtain ⟨v, hv⟩ : ∃ v, sgn L = v := ⟨_, rfl⟩
    have hv2 := hv
    unfold sgn at hv2
    simp [*] at hv2
    subst hv2
    have HV := Lib.hid hv
    clear hv
    go_enter Tryz.func221, Tryz.ntmps221
    go_wp2_with (first | (go_at_call 227; (with_reducible refine (in_0_0_127 l hl k L HL.out _).mono ?_); rintro e wz ⟨rfl, rfl⟩) | (go_at_call 227; (with_reducible refine (in_0_194_223 l hl k L HL.out _).mono ?_); rintro e wz ⟨rfl, rfl⟩) | (go_at_call 227; (with_reducible refine (in_0_224_224 l hl k L HL.out _).mono ?_); rintro e wz ⟨rfl, rfl⟩) | (go_at_call 227; (with_reducible refine (in_0_225_236 l hl k L HL.out _).mono ?_); rintro e wz ⟨rfl, rfl⟩) | (go_at_call 227; (with_reducible refine (in_0_238_239 l hl k L HL.out _).mono ?_); rintro e wz ⟨rfl, rfl⟩) | (go_at_call 227; (with_reducible refine (in_0_237_237 l hl k L HL.out _).mono ?_); rintro e wz ⟨rfl, rfl⟩) | (go_at_call 227; (with_reducible refine (in_0_240_240 l hl k L HL.out _).mono ?_); rintro e wz ⟨rfl, rfl⟩) | (go_at_call 227; (with_reducible refine (in_0_241_243 l hl k L HL.out _).mono ?_); rintro e wz ⟨rfl, rfl⟩) | (go_at_call 227; (with_reducible refine (in_0_244_244 l hl k L HL.out _).mono ?_); rintro e wz ⟨rfl, rfl⟩) | (go_at_call 227; (with_reducible refine (in_1_128_191 l hl k L HL.out _).mono ?_); rintro e wz ⟨rfl, rfl⟩) | (go_at_call 227; (with_reducible refine (in_1_160_191 l hl k L HL.out _).mono ?_); rintro e wz ⟨rfl, rfl⟩) | (go_at_call 227; (with_reducible refine (in_1_128_159 l hl k L HL.out _).mono ?_); rintro e wz ⟨rfl, rfl⟩) | (go_at_call 227; (with_reducible refine (in_1_144_191 l hl k L HL.out _).mono ?_); rintro e wz ⟨rfl, rfl⟩) | (go_at_call 227; (with_reducible refine (in_1_128_143 l hl k L HL.out _).mono ?_); rintro e wz ⟨rfl, rfl⟩) | (go_at_call 227; (with_reducible refine (in_2_128_191 l hl k L HL.out _).mono ?_); rintro e wz ⟨rfl, rfl⟩) | (go_at_call 227; (with_reducible refine (in_3_128_191 l hl k L HL.out _).mono ?_); rintro e wz ⟨rfl, rfl⟩))
    go_ret
    exact ⟨ret_int (by rw [HV.out]; rfl), rfl⟩
   | true =>
    cases y3 : inr L 3 128 191 with
    | false =>
     obtain ⟨v, hv⟩ : ∃ v, sgn L = v := ⟨_, rfl⟩
     have hv2 := hv
     unfold sgn at hv2
     simp [*] at hv2
     subst hv2
     have HV := Lib.hid hv
     clear hv
     go_enter Tryz.func221, Tryz.ntmps221
     go_wp2_with (first | (go_at_call 227; (with_reducible refine (in_0_0_127 l hl k L HL.out _).mono ?_); rintro e wz ⟨rfl, rfl⟩) | (go_at_call 227; (with_reducible refine (in_0_194_223 l hl k L HL.out _).mono ?_); rintro e wz ⟨rfl, rfl⟩) | (go_at_call 227; (with_reducible refine (in_0_224_224 l hl k L HL.out _).mono ?_); rintro e wz ⟨rfl, rfl⟩) | (go_at_call 227; (with_reducible refine (in_0_225_236 l hl k L HL.out _).mono ?_); rintro e wz ⟨rfl, rfl⟩) | (go_at_call 227; (with_reducible refine (in_0_238_239 l hl k L HL.out _).mono ?_); rintro e wz ⟨rfl, rfl⟩) | (go_at_call 227; (with_reducible refine (in_0_237_237 l hl k L HL.out _).mono ?_); rintro e wz ⟨rfl, rfl⟩) | (go_at_call 227; (with_reducible refine (in_0_240_240 l hl k L HL.out _).mono ?_); rintro e wz ⟨rfl, rfl⟩) | (go_at_call 227; (with_reducible refine (in_0_241_243 l hl k L HL.out _).mono ?_); rintro e wz ⟨rfl, rfl⟩) | (go_at_call 227; (with_reducible refine (in_0_244_244 l hl k L HL.out _).mono ?_); rintro e wz ⟨rfl, rfl⟩) | (go_at_call 227; (with_reducible refine (in_1_128_191 l hl k L HL.out _).mono ?_); rintro e wz ⟨rfl, rfl⟩) | (go_at_call 227; (with_reducible refine (in_1_160_191 l hl k L HL.out _).mono ?_); rintro e wz ⟨rfl, rfl⟩) | (go_at_call 227; (with_reducible refine (in_1_128_159 l hl k L HL.out _).mono ?_); rintro e wz ⟨rfl, rfl⟩) | (go_at_call 227; (with_reducible refine (in_1_144_191 l hl k L HL.out _).mono ?_); rintro e wz ⟨rfl, rfl⟩) | (go_at_call 227; (with_reducible refine (in_1_128_143 l hl k L HL.out _).mono ?_); rintro e wz ⟨rfl, rfl⟩) | (go_at_call 227; (with_reducible refine (in_2_128_191 l hl k L HL.out _).mono ?_); rintro e wz ⟨rfl, rfl⟩) | (go_at_call 227; (with_reducible refine (in_3_128_191 l hl k L HL.out _).mono ?_); rintro e wz ⟨rfl, rfl⟩))
     go_ret
     exact ⟨ret_int (by rw [HV.out]; rfl), rfl⟩
    | true =>
     cases y1 : inr L 1 128 143 with
     | false =>
      obtain ⟨v, hv⟩ : ∃ v, sgn L = v := ⟨_, rfl⟩
      have hv2 := hv
      unfold sgn at hv2
      simp [*] at hv2
      subst hv2
      have HV := Lib.hid hv
      clear hv
      go_enter Tryz.func221, Tryz.ntmps221
      go_wp2_with (first | (go_at_call 227; (with_reducible refine (in_0_0_127 l hl k L HL.out _).mono ?_); rintro e wz ⟨rfl, rfl⟩) | (go_at_call 227; (with_reducible refine (in_0_194_223 l hl k L HL.out _).mono ?_); rintro e wz ⟨rfl, rfl⟩) | (go_at_call 227; (with_reducible refine (in_0_224_224 l hl k L HL.out _).mono ?_); rintro e wz ⟨rfl, rfl⟩) | (go_at_call 227; (with_reducible refine (in_0_225_236 l hl k L HL.out _).mono ?_); rintro e wz ⟨rfl, rfl⟩) | (go_at_call 227; (with_reducible refine (in_0_238_239 l hl k L HL.out _).mono ?_); rintro e wz ⟨rfl, rfl⟩) | (go_at_call 227; (with_reducible refine (in_0_237_237 l hl k L HL.out _).mono ?_); rintro e wz ⟨rfl, rfl⟩) | (go_at_call 227; (with_reducible refine (in_0_240_240 l hl k L HL.out _).mono ?_); rintro e wz ⟨rfl, rfl⟩) | (go_at_call 227; (with_reducible refine (in_0_241_243 l hl k L HL.out _).mono ?_); rintro e wz ⟨rfl, rfl⟩) | (go_at_call 227; (with_reducible refine (in_0_244_244 l hl k L HL.out _).mono ?_); rintro e wz ⟨rfl, rfl⟩) | (go_at_call 227; (with_reducible refine (in_1_128_191 l hl k L HL.out _).mono ?_); rintro e wz ⟨rfl, rfl⟩) | (go_at_call 227; (with_reducible refine (in_1_160_191 l hl k L HL.out _).mono ?_); rintro e wz ⟨rfl, rfl⟩) | (go_at_call 227; (with_reducible refine (in_1_128_159 l hl k L HL.out _).mono ?_); rintro e wz ⟨rfl, rfl⟩) | (go_at_call 227; (with_reducible refine (in_1_144_191 l hl k L HL.out _).mono ?_); rintro e wz ⟨rfl, rfl⟩) | (go_at_call 227; (with_reducible refine (in_1_128_143 l hl k L HL.out _).mono ?_); rintro e wz ⟨rfl, rfl⟩) | (go_at_call 227; (with_reducible refine (in_2_128_191 l hl k L HL.out _).mono ?_); rintro e wz ⟨rfl, rfl⟩) | (go_at_call 227; (with_reducible refine (in_3_128_191 l hl k L HL.out _).mono ?_); rintro e wz ⟨rfl, rfl⟩))
      go_ret
      exact ⟨ret_int (by rw [HV.out]; rfl), rfl⟩
     | true =>
      obtain ⟨v, hv⟩ : ∃ v, sgn L = v := ⟨_, rfl⟩
      have hv2 := hv
      unfold sgn at hv2
      simp [*] at hv2
      subst hv2
      have HV := Lib.hid hv
      clear hv
      go_enter Tryz.func221, Tryz.ntmps221
      go_wp2_with (first | (go_at_call 227; (with_reducible refine (in_0_0_127 l hl k L HL.out _).mono ?_); rintro e wz ⟨rfl, rfl⟩) | (go_at_call 227; (with_reducible refine (in_0_194_223 l hl k L HL.out _).mono ?_); rintro e wz ⟨rfl, rfl⟩) | (go_at_call 227; (with_reducible refine (in_0_224_224 l hl k L HL.out _).mono ?_); rintro e wz ⟨rfl, rfl⟩) | (go_at_call 227; (with_reducible refine (in_0_225_236 l hl k L HL.out _).mono ?_); rintro e wz ⟨rfl, rfl⟩) | (go_at_call 227; (with_reducible refine (in_0_238_239 l hl k L HL.out _).mono ?_); rintro e wz ⟨rfl, rfl⟩) | (go_at_call 227; (with_reducible refine (in_0_237_237 l hl k L HL.out _).mono ?_); rintro e wz ⟨rfl, rfl⟩) | (go_at_call 227; (with_reducible refine (in_0_240_240 l hl k L HL.out _).mono ?_); rintro e wz ⟨rfl, rfl⟩) | (go_at_call 227; (with_reducible refine (in_0_241_243 l hl k L HL.out _).mono ?_); rintro e wz ⟨rfl, rfl⟩) | (go_at_call 227; (with_reducible refine (in_0_244_244 l hl k L HL.out _).mono ?_); rintro e wz ⟨rfl, rfl⟩) | (go_at_call 227; (with_reducible refine (in_1_128_191 l hl k L HL.out _).mono ?_); rintro e wz ⟨rfl, rfl⟩) | (go_at_call 227; (with_reducible refine (in_1_160_191 l hl k L HL.out _).mono ?_); rintro e wz ⟨rfl, rfl⟩) | (go_at_call 227; (with_reducible refine (in_1_128_159 l hl k L HL.out _).mono ?_); rintro e wz ⟨rfl, rfl⟩) | (go_at_call 227; (with_reducible refine (in_1_144_191 l hl k L HL.out _).mono ?_); rintro e wz ⟨rfl, rfl⟩) | (go_at_call 227; (with_reducible refine (in_1_128_143 l hl k L HL.out _).mono ?_); rintro e wz ⟨rfl, rfl⟩) | (go_at_call 227; (with_reducible refine (in_2_128_191 l hl k L HL.out _).mono ?_); rintro e wz ⟨rfl, rfl⟩) | (go_at_call 227; (with_reducible refine (in_3_128_191 l hl k L HL.out _).mono ?_); rintro e wz ⟨rfl, rfl⟩))
      go_ret
      exact ⟨ret_int (by rw [HV.out]; rfl), rfl⟩
  ·have z0 := off 0 127 (by omega)
   have z1 := off 194 223 (by omega)
   have z2 := off 224 224 (by omega)
   have z3 := off 225 236 (by omega)
   have z4 := off 238 239 (by omega)
   have z5 := off 237 237 (by omega)
   have z6 := off 240 240 (by omega)
   have z7 := off 241 243 (by omega)
   have z8 := off 244 244 (by omega)
   clear on off h1 hbb h0
   cases y2 : inr L 2 128 191 with
   | false =>
    obtain ⟨v, hv⟩ : ∃ v, sgn L = v := ⟨_, rfl⟩
    have hv2 := hv
    unfold sgn at hv2
    simp [*] at hv2
    subst hv2
    have HV := Lib.hid hv
    clear hv
    go_enter Tryz.func221, Tryz.ntmps221
    go_wp2_with (first | (go_at_call 227; (with_reducible refine (in_0_0_127 l hl k L HL.out _).mono ?_); rintro e wz ⟨rfl, rfl⟩) | (go_at_call 227; (with_reducible refine (in_0_194_223 l hl k L HL.out _).mono ?_); rintro e wz ⟨rfl, rfl⟩) | (go_at_call 227; (with_reducible refine (in_0_224_224 l hl k L HL.out _).mono ?_); rintro e wz ⟨rfl, rfl⟩) | (go_at_call 227; (with_reducible refine (in_0_225_236 l hl k L HL.out _).mono ?_); rintro e wz ⟨rfl, rfl⟩) | (go_at_call 227; (with_reducible refine (in_0_238_239 l hl k L HL.out _).mono ?_); rintro e wz ⟨rfl, rfl⟩) | (go_at_call 227; (with_reducible refine (in_0_237_237 l hl k L HL.out _).mono ?_); rintro e wz ⟨rfl, rfl⟩) | (go_at_call 227; (with_reducible refine (in_0_240_240 l hl k L HL.out _).mono ?_); rintro e wz ⟨rfl, rfl⟩) | (go_at_call 227; (with_reducible refine (in_0_241_243 l hl k L HL.out _).mono ?_); rintro e wz ⟨rfl, rfl⟩) | (go_at_call 227; (with_reducible refine (in_0_244_244 l hl k L HL.out _).mono ?_); rintro e wz ⟨rfl, rfl⟩) | (go_at_call 227; (with_reducible refine (in_1_128_191 l hl k L HL.out _).mono ?_); rintro e wz ⟨rfl, rfl⟩) | (go_at_call 227; (with_reducible refine (in_1_160_191 l hl k L HL.out _).mono ?_); rintro e wz ⟨rfl, rfl⟩) | (go_at_call 227; (with_reducible refine (in_1_128_159 l hl k L HL.out _).mono ?_); rintro e wz ⟨rfl, rfl⟩) | (go_at_call 227; (with_reducible refine (in_1_144_191 l hl k L HL.out _).mono ?_); rintro e wz ⟨rfl, rfl⟩) | (go_at_call 227; (with_reducible refine (in_1_128_143 l hl k L HL.out _).mono ?_); rintro e wz ⟨rfl, rfl⟩) | (go_at_call 227; (with_reducible refine (in_2_128_191 l hl k L HL.out _).mono ?_); rintro e wz ⟨rfl, rfl⟩) | (go_at_call 227; (with_reducible refine (in_3_128_191 l hl k L HL.out _).mono ?_); rintro e wz ⟨rfl, rfl⟩))
    go_ret
    exact ⟨ret_int (by rw [HV.out]; rfl), rfl⟩
   | true =>
    cases y3 : inr L 3 128 191 with
    | false =>
     obtain ⟨v, hv⟩ : ∃ v, sgn L = v := ⟨_, rfl⟩
     have hv2 := hv
     unfold sgn at hv2
     simp [*] at hv2
     subst hv2
     have HV := Lib.hid hv
     clear hv
     go_enter Tryz.func221, Tryz.ntmps221
     go_wp2_with (first | (go_at_call 227; (with_reducible refine (in_0_0_127 l hl k L HL.out _).mono ?_); rintro e wz ⟨rfl, rfl⟩) | (go_at_call 227; (with_reducible refine (in_0_194_223 l hl k L HL.out _).mono ?_); rintro e wz ⟨rfl, rfl⟩) | (go_at_call 227; (with_reducible refine (in_0_224_224 l hl k L HL.out _).mono ?_); rintro e wz ⟨rfl, rfl⟩) | (go_at_call 227; (with_reducible refine (in_0_225_236 l hl k L HL.out _).mono ?_); rintro e wz ⟨rfl, rfl⟩) | (go_at_call 227; (with_reducible refine (in_0_238_239 l hl k L HL.out _).mono ?_); rintro e wz ⟨rfl, rfl⟩) | (go_at_call 227; (with_reducible refine (in_0_237_237 l hl k L HL.out _).mono ?_); rintro e wz ⟨rfl, rfl⟩) | (go_at_call 227; (with_reducible refine (in_0_240_240 l hl k L HL.out _).mono ?_); rintro e wz ⟨rfl, rfl⟩) | (go_at_call 227; (with_reducible refine (in_0_241_243 l hl k L HL.out _).mono ?_); rintro e wz ⟨rfl, rfl⟩) | (go_at_call 227; (with_reducible refine (in_0_244_244 l hl k L HL.out _).mono ?_); rintro e wz ⟨rfl, rfl⟩) | (go_at_call 227; (with_reducible refine (in_1_128_191 l hl k L HL.out _).mono ?_); rintro e wz ⟨rfl, rfl⟩) | (go_at_call 227; (with_reducible refine (in_1_160_191 l hl k L HL.out _).mono ?_); rintro e wz ⟨rfl, rfl⟩) | (go_at_call 227; (with_reducible refine (in_1_128_159 l hl k L HL.out _).mono ?_); rintro e wz ⟨rfl, rfl⟩) | (go_at_call 227; (with_reducible refine (in_1_144_191 l hl k L HL.out _).mono ?_); rintro e wz ⟨rfl, rfl⟩) | (go_at_call 227; (with_reducible refine (in_1_128_143 l hl k L HL.out _).mono ?_); rintro e wz ⟨rfl, rfl⟩) | (go_at_call 227; (with_reducible refine (in_2_128_191 l hl k L HL.out _).mono ?_); rintro e wz ⟨rfl, rfl⟩) | (go_at_call 227; (with_reducible refine (in_3_128_191 l hl k L HL.out _).mono ?_); rintro e wz ⟨rfl, rfl⟩))
     go_ret
     exact ⟨ret_int (by rw [HV.out]; rfl), rfl⟩
    | true =>
     obtain ⟨v, hv⟩ : ∃ v, sgn L = v := ⟨_, rfl⟩
     have hv2 := hv
     unfold sgn at hv2
     simp [*] at hv2
     subst hv2
     have HV := Lib.hid hv
     clear hv
     go_enter Tryz.func221, Tryz.ntmps221
     go_wp2_with (first | (go_at_call 227; (with_reducible refine (in_0_0_127 l hl k L HL.out _).mono ?_); rintro e wz ⟨rfl, rfl⟩) | (go_at_call 227; (with_reducible refine (in_0_194_223 l hl k L HL.out _).mono ?_); rintro e wz ⟨rfl, rfl⟩) | (go_at_call 227; (with_reducible refine (in_0_224_224 l hl k L HL.out _).mono ?_); rintro e wz ⟨rfl, rfl⟩) | (go_at_call 227; (with_reducible refine (in_0_225_236 l hl k L HL.out _).mono ?_); rintro e wz ⟨rfl, rfl⟩) | (go_at_call 227; (with_reducible refine (in_0_238_239 l hl k L HL.out _).mono ?_); rintro e wz ⟨rfl, rfl⟩) | (go_at_call 227; (with_reducible refine (in_0_237_237 l hl k L HL.out _).mono ?_); rintro e wz ⟨rfl, rfl⟩) | (go_at_call 227; (with_reducible refine (in_0_240_240 l hl k L HL.out _).mono ?_); rintro e wz ⟨rfl, rfl⟩) | (go_at_call 227; (with_reducible refine (in_0_241_243 l hl k L HL.out _).mono ?_); rintro e wz ⟨rfl, rfl⟩) | (go_at_call 227; (with_reducible refine (in_0_244_244 l hl k L HL.out _).mono ?_); rintro e wz ⟨rfl, rfl⟩) | (go_at_call 227; (with_reducible refine (in_1_128_191 l hl k L HL.out _).mono ?_); rintro e wz ⟨rfl, rfl⟩) | (go_at_call 227; (with_reducible refine (in_1_160_191 l hl k L HL.out _).mono ?_); rintro e wz ⟨rfl, rfl⟩) | (go_at_call 227; (with_reducible refine (in_1_128_159 l hl k L HL.out _).mono ?_); rintro e wz ⟨rfl, rfl⟩) | (go_at_call 227; (with_reducible refine (in_1_144_191 l hl k L HL.out _).mono ?_); rintro e wz ⟨rfl, rfl⟩) | (go_at_call 227; (with_reducible refine (in_1_128_143 l hl k L HL.out _).mono ?_); rintro e wz ⟨rfl, rfl⟩) | (go_at_call 227; (with_reducible refine (in_2_128_191 l hl k L HL.out _).mono ?_); rintro e wz ⟨rfl, rfl⟩) | (go_at_call 227; (with_reducible refine (in_3_128_191 l hl k L HL.out _).mono ?_); rintro e wz ⟨rfl, rfl⟩))
     go_ret
     exact ⟨ret_int (by rw [HV.out]; rfl), rfl⟩
end Go.Proofs.YtojhenpaeedimaaGreat
