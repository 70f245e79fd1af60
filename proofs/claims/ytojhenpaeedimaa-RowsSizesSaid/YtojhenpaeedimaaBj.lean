/-
 Contracts of the document's Reader.
-/
import Derived.Test.YtojhenpaeedimaaBi
import Derived.Deep.QuietTactic
import Derived.BigQuiet
namespace Go.Proofs.Ytojhenpaeedimaa
open Go.RowKit
open Pk
set_option maxRecDepth 100000
/-- the document's Reader of the bytes s, in block g, at a place -/
def RefAt (w : World) (g : Nat) (s : List UInt8) (k : Nat) (e : Int) : Prop := Is w g 64 [.string (ba s), .int .i64 (k : Int), .int .i64 e]
theorem ref_s {w : World} {g : Nat} {s : List UInt8} {k : Nat} {e : Int} (h : RefAt w g s k e) : w.cell? ⟨g, 0, none⟩ = some (.string (ba s)) := is_cell h 0
theorem ref_at {w : World} {g : Nat} {s : List UInt8} {k : Nat} {e : Int} (h : RefAt w g s k e) : w.cell? ⟨g, 1, none⟩ = some (.int .i64 (k : Int)) := is_cell h 1
theorem ref_e {w : World} {g : Nat} {s : List UInt8} {k : Nat} {e : Int} (h : RefAt w g s k e) : w.cell? ⟨g, 2, none⟩ = some (.int .i64 e) := is_cell h 2
theorem ref_setAt {w : World} {g : Nat} {s : List UInt8} {k : Nat} {e : Int} (h : RefAt w g s k e) (a : Int) (n : Nat) (ha : a = (n : Int)) : RefAt (w.setCell ⟨g, 1, none⟩ (.int .i64 a)) g s n e := by
 subst ha; exact is_set h 1 _
theorem ref_setE {w : World} {g : Nat} {s : List UInt8} {k : Nat} {e : Int} (h : RefAt w g s k e) (x : Int) : RefAt (w.setCell ⟨g, 2, none⟩ (.int .i64 x)) g s k x := is_set h 2 _
theorem ref_drewN {w : World} {g : Nat} {s : List UInt8} {k : Nat} {e : Int} (h : RefAt w g s k e) (n : Nat) : RefAt (w.drewN n) g s k e := h
theorem only_drewN {a w : World} {row : Option Nat} (h : a.grownBy w row) (n : Nat) : a.grownBy (w.drewN n) row := ⟨h.os, h.tape, h.output, h.size, h.block⟩
theorem rLeft_c (g : Nat) (s : List UInt8) (k : Nat) (e : Int) (hk : k ≤ s.length) (hl : s.length ≤ 140737488351232) (w : World) (h : RefAt w g s k e) :
  Calls Try.prog 41 #[.pointer (some ⟨g, 0, none⟩)] w fun e w' => e = .returned (.int .i64 ((s.length - k : Nat) : Int)) ∧ ∃ n, w' = w.drewN n := by
 have h0 := ref_s h
 have h1 := ref_at h
 have hs := ba_size s
 have he : (s.length : Int) - (k : Int) = ((s.length - k : Nat) : Int) := by omega
 clear h
 go_enter Try.func41, Try.ntmps41
 go_wp2
 go_quiet (fail)
 go_wp2
 go_ret
 exact ⟨rfl, _, rfl⟩
/-- how the document's Num ends at bytes that are read as r -/
def RNumEnd (g : Nat) (s : List UInt8) (k0 : Nat) (w : World) (r : Rd) (e : Ending) (w' : World) : Prop :=
 match r with
 | .cut => e = .returned (.int .u64 0) ∧ RefAt w' g s k0 2 ∧ w.grownBy w' (some g)
 | .long => e = .returned (.int .u64 0) ∧ RefAt w' g s k0 3 ∧ w.grownBy w' (some g)
 | .ok n u => e = .returned (.int .u64 (n : Int)) ∧ RefAt w' g s (k0 + u) 0 ∧ w.grownBy w' (some g)
theorem rNumEnd_cut {g : Nat} {s : List UInt8} {k0 : Nat} {w w' : World} {r : Rd} (h : r = .cut) (h1 : RefAt w' g s k0 2) (h2 : w.grownBy w' (some g)) : RNumEnd g s k0 w r (.returned (.int .u64 0)) w' := by subst h; exact ⟨rfl, h1, h2⟩
theorem rNumEnd_long {g : Nat} {s : List UInt8} {k0 : Nat} {w w' : World} {r : Rd} (h : r = .long) (h1 : RefAt w' g s k0 3) (h2 : w.grownBy w' (some g)) : RNumEnd g s k0 w r (.returned (.int .u64 0)) w' := by subst h; exact ⟨rfl, h1, h2⟩
theorem rNumEnd_ok {g : Nat} {s : List UInt8} {k0 : Nat} {w w' : World} {r : Rd} {n u : Nat} {a : Int} (h : r = .ok n u) (ha : a = (n : Int)) (h1 : RefAt w' g s (k0 + u) 0) (h2 : w.grownBy w' (some g)) : RNumEnd g s k0 w r (.returned (.int .u64 a)) w' := by subst h; subst ha; exact ⟨rfl, h1, h2⟩
theorem wrap_sum (acc c P k N : Nat) (hP : P = 128 ^ k) (hk : k ≤ 9) (ha : acc < 128 ^ k) (h9 : k = 9 → c % 128 ≤ 1) (hN : N = acc + c % 128 * 128 ^ k) :
  IntKind.u64.wrap ((acc : Int) + IntKind.u64.wrap ((c : Int) % 128 * (P : Int))) = (N : Int) := by
 subst hN hP
 have hb := group_bd (c := c % 128) hk (Nat.mod_lt _ (by omega)) h9
 have hp : 128 ^ k ≤ 128 ^ 9 := Nat.pow_le_pow_right (by omega) hk
 have e : (c : Int) % 128 * ((128 ^ k : Nat) : Int) = ((c % 128 * 128 ^ k : Nat) : Int) := by simp
 rw [e, IntKind.wrap_u64, IntKind.wrap_u64]
 have hn9 : (128 : Nat) ^ 9 = 9223372036854775808 := by decide
 have h10 := group_lt ha (show c % 128 < 128 from Nat.mod_lt _ (by omega))
 have hs : acc + c % 128 * 128 ^ k < 18446744073709551616 := by
  by_cases hk9 : k = 9
  ·have hc1 := h9 hk9
   have hx : c % 128 * 128 ^ k ≤ 1 * 128 ^ k := Nat.mul_le_mul_right _ hc1
   omega
  ·have hp8 : 128 ^ (k + 1) ≤ 128 ^ 9 := Nat.pow_le_pow_right (by omega) (by omega)
   omega
 generalize c % 128 * 128 ^ k = X at *
 omega
theorem wrap_place (P k Q : Nat) (hP : P = 128 ^ k) (hk : k ≤ 8) (hQ : Q = 128 ^ (k + 1)) : IntKind.u64.wrap ((P : Int) * 128) = (Q : Int) := by
 subst hP hQ
 have hn9 : (128 : Nat) ^ 9 = 9223372036854775808 := by decide
 have hp : 128 ^ (k + 1) ≤ 128 ^ 9 := Nat.pow_le_pow_right (by omega) (by omega)
 rw [hn9] at hp
 have e : ((128 ^ k : Nat) : Int) * 128 = ((128 ^ (k + 1) : Nat) : Int) := by rw [Nat.pow_succ]; simp
 rw [e, IntKind.wrap_u64]
 generalize 128 ^ (k + 1) = X at *
 omega
set_option maxHeartbeats 4000000 in
theorem rNum_end (g : Nat) (s : List UInt8) (k0 : Nat) (hk0 : k0 ≤ s.length) (hl : s.length ≤ 140737488351232) (w : World) (h : RefAt w g s k0 0) :
  Calls Try.prog 34 #[.pointer (some ⟨g, 0, none⟩)] w fun e w' => RNumEnd g s k0 w (rd (s.drop k0)) e w' := by
 have hs := ba_size s
 obtain ⟨l, hle⟩ : ∃ l, l = s.drop k0 := ⟨_, rfl⟩
 rw [← hle]
 have HLE := Lib.hid hle
 have hll : l.length = s.length - k0 := by rw [hle, List.length_drop]
 have HLL := Lib.hid hll
 clear hle hll
 go_enter Try.func34, Try.ntmps34
 go_wp2
 go_loopw [3, 4, 5, 6] (fun n p i _ wr => ∃ k acc P : Nat, k ≤ 9 ∧ i = .int .i64 (k : Int) ∧ n = .int .u64 (acc : Int) ∧ p = .int .u64 (P : Int) ∧ P = 128 ^ k ∧ acc < 128 ^ k ∧ rdAt k acc (l.drop k) = rd l ∧ RefAt wr g s k0 0 ∧ w.grownBy wr (some g))
  (fun _ _ i _ _ => 10 - (Go.RowKit.intOf i).toNat)
 case atStart => exact ⟨0, 0, 1, by omega, rfl, rfl, rfl, rfl, by simp, by simp [rd], h, World.grownBy.refl _ _⟩
 case round =>
  clear h
  obtain ⟨k, acc, P, hk, rfl, rfl, rfl, hP, ha, hrd, hr, ho⟩ := hrel
  have HP := Lib.hid hP
  have HA := Lib.hid ha
  have HR := Lib.hid hrd
  have h0 := ref_s hr
  have h1 := ref_at hr
  have h2 := ref_e hr
  have hf1 := is_free hr 1
  have hf2 := is_free hr 2
  have HRA := Lib.hid hr
  clear ha hrd hP hr
  by_cases hlt : k0 + k < s.length
  ·obtain ⟨b, hb⟩ : ∃ b, s[k0 + k]? = some b := ⟨_, List.getElem?_eq_getElem hlt⟩
   have HB : Hid (l[k]? = some b) := by unfold Hid; rw [HLE.out, List.getElem?_drop]; exact hb
   have hsum : IntKind.i64.wrap ((k0 : Int) + (k : Int)) = (k0 : Int) + (k : Int) := IntWalk.i64_in _ (by omega)
   have hix := index_ba hb ((k0 : Int) + (k : Int)) (by omega)
   have hbb := b.toNat_lt
   obtain ⟨N, hN⟩ : ∃ N, N = acc + b.toNat % 128 * 128 ^ k := ⟨_, rfl⟩
   have HN := Lib.hid hN
   clear hN hb
   have hcase : (k = 9 ∧ 1 < b.toNat) ∨ (k = 9 ∧ b.toNat = 0) ∨ (k = 9 ∧ b.toNat = 1) ∨ (k = 0 ∧ b.toNat < 128) ∨ (k = 0 ∧ 128 ≤ b.toNat) ∨ (0 < k ∧ k < 9 ∧ b.toNat = 0) ∨ (0 < k ∧ k < 9 ∧ 0 < b.toNat ∧ b.toNat < 128) ∨ (0 < k ∧ k < 9 ∧ 128 ≤ b.toNat) := by omega
   rcases hcase with hq | hq | hq | hq | hq | hq | hq | hq
   ·have t1 : ((k : Int) == 9) = true := by simp; omega
    have t2 : decide (1 < (b.toNat : Int)) = true := by simp; omega
    have HQ : Hid ((k = 9 ∧ 1 < b.toNat) ∨ (0 < k ∧ b.toNat = 0)) := by unfold Hid; omega
    clear hq
    go_wp2
    go_quiet (fail)
    go_wp2
    go_quiet (fail)
    go_wp2
    go_ret
    exact rNumEnd_long (rd_step_long HB.out HR.out HQ.out) (ref_setE (ref_drewN HRA.out _) 3) (only_trans (only_drewN ho _) (only_set _ _ _ _))
   ·have t1 : ((k : Int) == 9) = true := by simp; omega
    have t2 : decide (1 < (b.toNat : Int)) = false := by simp; omega
    have t3 : 0 < k := by omega
    have t4 : ((b.toNat : Int) == 0) = true := by simp; omega
    have HQ : Hid ((k = 9 ∧ 1 < b.toNat) ∨ (0 < k ∧ b.toNat = 0)) := by unfold Hid; omega
    clear hq
    go_wp2
    go_quiet (fail)
    go_wp2
    go_quiet (fail)
    go_wp2
    go_ret
    exact rNumEnd_long (rd_step_long HB.out HR.out HQ.out) (ref_setE (ref_drewN HRA.out _) 3) (only_trans (only_drewN ho _) (only_set _ _ _ _))
   ·have t1 : ((k : Int) == 9) = true := by simp; omega
    have t2 : decide (1 < (b.toNat : Int)) = false := by simp; omega
    have t3 : 0 < k := by omega
    have t4 : ((b.toNat : Int) == 0) = false := by simp; omega
    have t5 : b.toNat < 128 := by omega
    have HQ : Hid (¬((k = 9 ∧ 1 < b.toNat) ∨ (0 < k ∧ b.toNat = 0)) ∧ b.toNat < 128) := by unfold Hid; omega
    have hor := wrap_sum acc b.toNat P k N HP.out hk HA.out (by omega) HN.out
    clear hq
    go_wp2
    go_quiet (fail)
    go_wp2
    go_quiet (fail)
    go_wp2
    go_ret
    exact rNumEnd_ok (rd_step_ok HB.out HR.out HQ.out.1 HQ.out.2) (by rw [← HN.out]) (ref_setAt (ref_drewN HRA.out _) _ (k0 + (k + 1)) (by omega)) (only_trans (only_drewN ho _) (only_set _ _ _ _))
   ·have t1 : ((k : Int) == 9) = false := by simp; omega
    have t3 : ¬ 0 < k := by omega
    have t5 : b.toNat < 128 := by omega
    have HQ : Hid (¬((k = 9 ∧ 1 < b.toNat) ∨ (0 < k ∧ b.toNat = 0)) ∧ b.toNat < 128) := by unfold Hid; omega
    have hor := wrap_sum acc b.toNat P k N HP.out hk HA.out (by omega) HN.out
    clear hq
    go_wp2
    go_quiet (fail)
    go_wp2
    go_quiet (fail)
    go_wp2
    go_ret
    exact rNumEnd_ok (rd_step_ok HB.out HR.out HQ.out.1 HQ.out.2) (by rw [← HN.out]) (ref_setAt (ref_drewN HRA.out _) _ (k0 + (k + 1)) (by omega)) (only_trans (only_drewN ho _) (only_set _ _ _ _))
   ·have t1 : ((k : Int) == 9) = false := by simp; omega
    have t3 : ¬ 0 < k := by omega
    have t5 : 128 ≤ b.toNat := by omega
    have HQ : Hid (¬((k = 9 ∧ 1 < b.toNat) ∨ (0 < k ∧ b.toNat = 0)) ∧ 128 ≤ b.toNat) := by unfold Hid; omega
    have hor := wrap_sum acc b.toNat P k N HP.out hk HA.out (by omega) HN.out
    have hk8 : k ≤ 8 := by omega
    obtain ⟨Q, hQ⟩ : ∃ Q, Q = 128 ^ (k + 1) := ⟨_, rfl⟩
    have hpl := wrap_place P k Q HP.out hk8 hQ
    have HQQ := Lib.hid hQ
    clear hq hQ
    go_wp2
    go_quiet (fail)
    go_wp2
    go_quiet (fail)
    go_wp2
    go_roundw
    case rel => exact ⟨k + 1, N, Q, by omega, by go_num, rfl, rfl, HQQ.out, by rw [HN.out]; exact group_lt HA.out (by omega), by rw [HN.out]; exact rd_step_more HB.out HR.out HQ.out.1 HQ.out.2, ref_drewN HRA.out _, only_drewN ho _⟩
    case measure => simp [Go.RowKit.intOf]; omega
   ·have t1 : ((k : Int) == 9) = false := by simp; omega
    have t3 : 0 < k := by omega
    have t4 : ((b.toNat : Int) == 0) = true := by simp; omega
    have HQ : Hid ((k = 9 ∧ 1 < b.toNat) ∨ (0 < k ∧ b.toNat = 0)) := by unfold Hid; omega
    clear hq
    go_wp2
    go_quiet (fail)
    go_wp2
    go_quiet (fail)
    go_wp2
    go_ret
    exact rNumEnd_long (rd_step_long HB.out HR.out HQ.out) (ref_setE (ref_drewN HRA.out _) 3) (only_trans (only_drewN ho _) (only_set _ _ _ _))
   ·have t1 : ((k : Int) == 9) = false := by simp; omega
    have t3 : 0 < k := by omega
    have t4 : ((b.toNat : Int) == 0) = false := by simp; omega
    have t5 : b.toNat < 128 := by omega
    have HQ : Hid (¬((k = 9 ∧ 1 < b.toNat) ∨ (0 < k ∧ b.toNat = 0)) ∧ b.toNat < 128) := by unfold Hid; omega
    have hor := wrap_sum acc b.toNat P k N HP.out hk HA.out (by omega) HN.out
    clear hq
    go_wp2
    go_quiet (fail)
    go_wp2
    go_quiet (fail)
    go_wp2
    go_ret
    exact rNumEnd_ok (rd_step_ok HB.out HR.out HQ.out.1 HQ.out.2) (by rw [← HN.out]) (ref_setAt (ref_drewN HRA.out _) _ (k0 + (k + 1)) (by omega)) (only_trans (only_drewN ho _) (only_set _ _ _ _))
   ·have t1 : ((k : Int) == 9) = false := by simp; omega
    have t3 : 0 < k := by omega
    have t4 : ((b.toNat : Int) == 0) = false := by simp; omega
    have t5 : 128 ≤ b.toNat := by omega
    have HQ : Hid (¬((k = 9 ∧ 1 < b.toNat) ∨ (0 < k ∧ b.toNat = 0)) ∧ 128 ≤ b.toNat) := by unfold Hid; omega
    have hor := wrap_sum acc b.toNat P k N HP.out hk HA.out (by omega) HN.out
    have hk8 : k ≤ 8 := by omega
    obtain ⟨Q, hQ⟩ : ∃ Q, Q = 128 ^ (k + 1) := ⟨_, rfl⟩
    have hpl := wrap_place P k Q HP.out hk8 hQ
    have HQQ := Lib.hid hQ
    clear hq hQ
    go_wp2
    go_quiet (fail)
    go_wp2
    go_quiet (fail)
    go_wp2
    go_roundw
    case rel => exact ⟨k + 1, N, Q, by omega, by go_num, rfl, rfl, HQQ.out, by rw [HN.out]; exact group_lt HA.out (by omega), by rw [HN.out]; exact rd_step_more HB.out HR.out HQ.out.1 HQ.out.2, ref_drewN HRA.out _, only_drewN ho _⟩
    case measure => simp [Go.RowKit.intOf]; omega
  ·have hnlt : s.length ≤ k0 + k := by omega
   go_wp2
   go_quiet (fail)
   go_wp2
   go_ret
   exact rNumEnd_cut (rd_step_cut (by rw [HLL.out]; omega) HR.out) (ref_setE (ref_drewN HRA.out _) 2) (only_trans (only_drewN ho _) (only_set _ _ _ _))
end Go.Proofs.Ytojhenpaeedimaa
