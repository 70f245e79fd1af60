/-
 Contracts of the Reader's num and fix, which leave by a panic.
-/
import Derived.Test.YtojhenpaeedimaaBd
namespace Go.Proofs.Ytojhenpaeedimaa
open Go.RowKit
open Pk
set_option maxRecDepth 100000
/-- how num ends at bytes that are read as r -/
def NumEnd (g : Nat) (s : St) (w : World) (r : Rd) (e : Ending) (w' : World) : Prop :=
 match r with
 | .cut => e = dies 2 ∧ w = w'
 | .long => e = dies 3 ∧ w = w'
 | .ok n u => e = .returned (.int .u64 (n : Int)) ∧ Rdr w' g ⟨s.l.drop u, s.e⟩ ∧ w.grownBy w' (some g)
theorem numEnd_cut {g : Nat} {s : St} {w : World} {r : Rd} (h : r = .cut) : NumEnd g s w r (dies 2) w := by subst h; exact ⟨rfl, rfl⟩
theorem numEnd_long {g : Nat} {s : St} {w : World} {r : Rd} (h : r = .long) : NumEnd g s w r (dies 3) w := by subst h; exact ⟨rfl, rfl⟩
theorem numEnd_ok {g : Nat} {s : St} {w w' : World} {r : Rd} {n u : Nat} {a : Int} (h : r = .ok n u) (ha : a = (n : Int)) (h1 : Rdr w' g ⟨s.l.drop u, s.e⟩) (h2 : w.grownBy w' (some g)) : NumEnd g s w r (.returned (.int .u64 a)) w' := by
 subst h; subst ha; exact ⟨rfl, h1, h2⟩
/-- a group of seven bits, laid behind those ahead -/
theorem or7 (acc c k N : Nat) (hk : k ≤ 9) (ha : acc < 128 ^ k) (hc : c % 128 * 128 ^ k < 18446744073709551616) (hN : N = acc + c % 128 * 128 ^ k) :
  bits BinOp.or IntKind.u64 (acc : Int) (IntKind.u64.wrap ((c : Int) % 128 * 2 ^ (7 * k))) = (N : Int) := by
 subst hN
 have h2 : (128 : Nat) ^ k = 2 ^ (7 * k) := by rw [Nat.pow_mul]
 have hp : 128 ^ k ≤ 128 ^ 9 := Nat.pow_le_pow_right (by omega) hk
 have e : (c : Int) % 128 * 2 ^ (7 * k) = ((c % 128 * 128 ^ k : Nat) : Int) := by rw [h2]; simp
 rw [e, IntKind.wrap_u64]
 have e2 : (((c % 128 * 128 ^ k : Nat) : Int) % 18446744073709551616) = ((c % 128 * 128 ^ k : Nat) : Int) := by omega
 rw [e2, u64_or_nat _ _ (by omega) hc, h2, or_add (by rw [← h2]; exact ha)]
set_option maxHeartbeats 1000000 in
theorem num_end (g : Nat) (s : St) (w : World) (h : Rdr w g s) :
  Calls Try.prog 83 #[.pointer (some ⟨g, 0, none⟩)] w fun e w' => NumEnd g s w (rd s.l) e w' := by
 go_enter Try.func83, Try.ntmps83
 go_wp2
 go_loop [3, 4, 5] (fun n i _ => ∃ k acc : Nat, k ≤ 9 ∧ i = .int .i64 (k : Int) ∧ n = .int .u64 (acc : Int) ∧ acc < 128 ^ k ∧ rdAt k acc (s.l.drop k) = rd s.l)
  (fun _ i _ => 10 - (Go.RowKit.intOf i).toNat)
 case atStart => exact ⟨0, 0, by omega, rfl, rfl, by simp, by simp [rd]⟩
 case round =>
  obtain ⟨k, acc, hk, rfl, rfl, ha, hrd⟩ := hrel
  have HA := Lib.hid ha
  have HR := Lib.hid hrd
  clear ha hrd
  by_cases hlt : k < s.l.length
  ·obtain ⟨b, hb⟩ : ∃ b, s.l[k]? = some b := ⟨_, List.getElem?_eq_getElem hlt⟩
   have HB := Lib.hid hb
   clear hb
   have hbb := b.toNat_lt
   obtain ⟨N, hN⟩ : ∃ N, N = acc + b.toNat % 128 * 128 ^ k := ⟨_, rfl⟩
   have HN := Lib.hid hN
   clear hN
   have hcase : (k = 9 ∧ 1 < b.toNat) ∨ (k = 9 ∧ b.toNat = 0) ∨ (k = 9 ∧ b.toNat = 1) ∨ (k = 0 ∧ b.toNat < 128) ∨ (k = 0 ∧ 128 ≤ b.toNat) ∨ (0 < k ∧ k < 9 ∧ b.toNat = 0) ∨ (0 < k ∧ k < 9 ∧ 0 < b.toNat ∧ b.toNat < 128) ∨ (0 < k ∧ k < 9 ∧ 128 ≤ b.toNat) := by omega
   rcases hcase with hq | hq | hq | hq | hq | hq | hq | hq
   ·have t1 : ((k : Int) == 9) = true := by simp; omega
    have t2 : decide (1 < (b.toNat : Int)) = true := by simp; omega
    have HQ : Hid ((k = 9 ∧ 1 < b.toNat) ∨ (0 < k ∧ b.toNat = 0)) := by unfold Hid; omega
    clear hq
    go_wp2_with (go_at_call 95; refine (peek_in g k b s hlt HB.out _ h).mono ?_; rintro e wz ⟨rfl, rfl⟩)
    exact ⟨rfl, numEnd_long (rd_step_long HB.out HR.out HQ.out)⟩
   ·have t1 : ((k : Int) == 9) = true := by simp; omega
    have t2 : decide (1 < (b.toNat : Int)) = false := by simp; omega
    have t3 : 0 < k := by omega
    have t4 : ((b.toNat : Int) == 0) = true := by simp; omega
    have HQ : Hid ((k = 9 ∧ 1 < b.toNat) ∨ (0 < k ∧ b.toNat = 0)) := by unfold Hid; omega
    clear hq
    go_wp2_with (go_at_call 95; refine (peek_in g k b s hlt HB.out _ h).mono ?_; rintro e wz ⟨rfl, rfl⟩)
    exact ⟨rfl, numEnd_long (rd_step_long HB.out HR.out HQ.out)⟩
   ·have t1 : ((k : Int) == 9) = true := by simp; omega
    have t2 : decide (1 < (b.toNat : Int)) = false := by simp; omega
    have t3 : 0 < k := by omega
    have t4 : ((b.toNat : Int) == 0) = false := by simp; omega
    have t5 : b.toNat < 128 := by omega
    have HQ : Hid (¬((k = 9 ∧ 1 < b.toNat) ∨ (0 < k ∧ b.toNat = 0)) ∧ b.toNat < 128) := by unfold Hid; omega
    have hor := or7 acc b.toNat k N hk HA.out (group_bd hk (by omega) (by omega)) HN.out
    clear hq
    go_wp2_with (first | (go_at_call 95; refine (peek_in g k b s hlt HB.out _ h).mono ?_; rintro e wz ⟨rfl, rfl⟩) | (go_at_call 96; refine (take_in g (k + 1) _ (by omega) s (by omega) _ h).mono ?_; rintro e wt ⟨rfl, hr1, ho1⟩))
    go_ret
    exact numEnd_ok (rd_step_ok HB.out HR.out HQ.out.1 HQ.out.2) (by rw [← HN.out]) hr1 ho1
   ·have t1 : ((k : Int) == 9) = false := by simp; omega
    have t3 : ¬ 0 < k := by omega
    have t5 : b.toNat < 128 := by omega
    have HQ : Hid (¬((k = 9 ∧ 1 < b.toNat) ∨ (0 < k ∧ b.toNat = 0)) ∧ b.toNat < 128) := by unfold Hid; omega
    have hor := or7 acc b.toNat k N hk HA.out (group_bd hk (by omega) (by omega)) HN.out
    clear hq
    go_wp2_with (first | (go_at_call 95; refine (peek_in g k b s hlt HB.out _ h).mono ?_; rintro e wz ⟨rfl, rfl⟩) | (go_at_call 96; refine (take_in g (k + 1) _ (by omega) s (by omega) _ h).mono ?_; rintro e wt ⟨rfl, hr1, ho1⟩))
    go_ret
    exact numEnd_ok (rd_step_ok HB.out HR.out HQ.out.1 HQ.out.2) (by rw [← HN.out]) hr1 ho1
   ·have t1 : ((k : Int) == 9) = false := by simp; omega
    have t3 : ¬ 0 < k := by omega
    have t5 : 128 ≤ b.toNat := by omega
    have HQ : Hid (¬((k = 9 ∧ 1 < b.toNat) ∨ (0 < k ∧ b.toNat = 0)) ∧ 128 ≤ b.toNat) := by unfold Hid; omega
    have hor := or7 acc b.toNat k N hk HA.out (group_bd hk (by omega) (by omega)) HN.out
    have hk8 : k ≤ 8 := by omega
    clear hq
    go_wp2_with (go_at_call 95; refine (peek_in g k b s hlt HB.out _ h).mono ?_; rintro e wz ⟨rfl, rfl⟩)
    go_round
    case rel => exact ⟨k + 1, N, by omega, by go_num, rfl, by rw [HN.out]; exact group_lt HA.out (by omega), by rw [HN.out]; exact rd_step_more HB.out HR.out HQ.out.1 HQ.out.2⟩
    case measure => simp [Go.RowKit.intOf]; omega
   ·have t1 : ((k : Int) == 9) = false := by simp; omega
    have t3 : 0 < k := by omega
    have t4 : ((b.toNat : Int) == 0) = true := by simp; omega
    have HQ : Hid ((k = 9 ∧ 1 < b.toNat) ∨ (0 < k ∧ b.toNat = 0)) := by unfold Hid; omega
    clear hq
    go_wp2_with (go_at_call 95; refine (peek_in g k b s hlt HB.out _ h).mono ?_; rintro e wz ⟨rfl, rfl⟩)
    exact ⟨rfl, numEnd_long (rd_step_long HB.out HR.out HQ.out)⟩
   ·have t1 : ((k : Int) == 9) = false := by simp; omega
    have t3 : 0 < k := by omega
    have t4 : ((b.toNat : Int) == 0) = false := by simp; omega
    have t5 : b.toNat < 128 := by omega
    have HQ : Hid (¬((k = 9 ∧ 1 < b.toNat) ∨ (0 < k ∧ b.toNat = 0)) ∧ b.toNat < 128) := by unfold Hid; omega
    have hor := or7 acc b.toNat k N hk HA.out (group_bd hk (by omega) (by omega)) HN.out
    clear hq
    go_wp2_with (first | (go_at_call 95; refine (peek_in g k b s hlt HB.out _ h).mono ?_; rintro e wz ⟨rfl, rfl⟩) | (go_at_call 96; refine (take_in g (k + 1) _ (by omega) s (by omega) _ h).mono ?_; rintro e wt ⟨rfl, hr1, ho1⟩))
    go_ret
    exact numEnd_ok (rd_step_ok HB.out HR.out HQ.out.1 HQ.out.2) (by rw [← HN.out]) hr1 ho1
   ·have t1 : ((k : Int) == 9) = false := by simp; omega
    have t3 : 0 < k := by omega
    have t4 : ((b.toNat : Int) == 0) = false := by simp; omega
    have t5 : 128 ≤ b.toNat := by omega
    have HQ : Hid (¬((k = 9 ∧ 1 < b.toNat) ∨ (0 < k ∧ b.toNat = 0)) ∧ 128 ≤ b.toNat) := by unfold Hid; omega
    have hor := or7 acc b.toNat k N hk HA.out (group_bd hk (by omega) (by omega)) HN.out
    have hk8 : k ≤ 8 := by omega
    clear hq
    go_wp2_with (go_at_call 95; refine (peek_in g k b s hlt HB.out _ h).mono ?_; rintro e wz ⟨rfl, rfl⟩)
    go_round
    case rel => exact ⟨k + 1, N, by omega, by go_num, rfl, by rw [HN.out]; exact group_lt HA.out (by omega), by rw [HN.out]; exact rd_step_more HB.out HR.out HQ.out.1 HQ.out.2⟩
    case measure => simp [Go.RowKit.intOf]; omega
  ·go_wp2_with (go_at_call 95; refine (peek_out g k s (by omega) _ h).mono ?_; rintro e wz ⟨rfl, rfl⟩)
   exact ⟨rfl, numEnd_cut (rd_step_cut (by omega) HR.out)⟩
end Go.Proofs.Ytojhenpaeedimaa
