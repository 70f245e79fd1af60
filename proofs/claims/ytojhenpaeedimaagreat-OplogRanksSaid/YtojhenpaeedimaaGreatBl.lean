/-
 Contracts of the document's Reader.
 Contracts of the document's Reader, whole: Num, Int, Take, Fix, Done.
 Worlds that only grow.
-/
import Derived.Test.YtojhenpaeedimaaGreatBi
import Derived.Deep.QuietTactic
import Derived.BigQuiet
section
namespace Go.Proofs.YtojhenpaeedimaaGreat
open Go.RowKit
open Pk
set_option maxRecDepth 100000
/-- the document's Reader of the bytes s, in block g, at a place -/
def RefAt (w : World) (g : Nat) (s : List UInt8) (k : Nat) (e : Int) : Prop := Is w g 81 [.string (ba s), .int .i64 (k : Int), .int .i64 e]
theorem ref_s {w : World} {g : Nat} {s : List UInt8} {k : Nat} {e : Int} (h : RefAt w g s k e) : w.cell? ⟨g, 0, none⟩ = some (.string (ba s)) := is_cell h 0
theorem ref_at {w : World} {g : Nat} {s : List UInt8} {k : Nat} {e : Int} (h : RefAt w g s k e) : w.cell? ⟨g, 1, none⟩ = some (.int .i64 (k : Int)) := is_cell h 1
theorem ref_e {w : World} {g : Nat} {s : List UInt8} {k : Nat} {e : Int} (h : RefAt w g s k e) : w.cell? ⟨g, 2, none⟩ = some (.int .i64 e) := is_cell h 2
theorem ref_setAt {w : World} {g : Nat} {s : List UInt8} {k : Nat} {e : Int} (h : RefAt w g s k e) (a : Int) (n : Nat) (ha : a = (n : Int)) : RefAt (w.setCell ⟨g, 1, none⟩ (.int .i64 a)) g s n e := by
 subst ha; exact is_set h 1 _
theorem ref_setE {w : World} {g : Nat} {s : List UInt8} {k : Nat} {e : Int} (h : RefAt w g s k e) (x : Int) : RefAt (w.setCell ⟨g, 2, none⟩ (.int .i64 x)) g s k x := is_set h 2 _
theorem ref_drewN {w : World} {g : Nat} {s : List UInt8} {k : Nat} {e : Int} (h : RefAt w g s k e) (n : Nat) : RefAt (w.drewN n) g s k e := h
theorem only_drewN {a w : World} {row : Option Nat} (h : a.grownBy w row) (n : Nat) : a.grownBy (w.drewN n) row := ⟨h.os, h.tape, h.output, h.size, h.block⟩
theorem rLeft_c (g : Nat) (s : List UInt8) (k : Nat) (e : Int) (hk : k ≤ s.length) (hl : s.length ≤ 140737488351232) (w : World) (h : RefAt w g s k e) :
  Calls Tryz.prog 56 #[.pointer (some ⟨g, 0, none⟩)] w fun e w' => e = .returned (.int .i64 ((s.length - k : Nat) : Int)) ∧ ∃ n, w' = w.drewN n := by
 have h0 := ref_s h
 have h1 := ref_at h
 have hs := ba_size s
 have he : (s.length : Int) - (k : Int) = ((s.length - k : Nat) : Int) := by omega
 clear h
 go_enter Tryz.func56, Tryz.ntmps56
 go_wp2
 go_quiet (fail)
 go_wp2
 go_ret
 exact ⟨rfl, _, rfl⟩
/-- how the document's Num ends at bytes that are read as r -/
def RNumEnd (g : Nat) (s : List UInt8) (k0 : Nat) (w : World) (r : Rd) (e : Ending) (w' : World) : Prop :=
 match r with
 | .cut => e = .returned (.int .u64 0) ∧ RefAt w' g s k0 2 ∧ w.grownBy w' (some g)
 | .long => e = .returned (.int .u64 0) ∧ RefAt w' g s k0 3 ∧ w.grownBy w' (some g)
 | .ok n u => e = .returned (.int .u64 (n : Int)) ∧ RefAt w' g s (k0 + u) 0 ∧ w.grownBy w' (some g)
theorem rNumEnd_cut {g : Nat} {s : List UInt8} {k0 : Nat} {w w' : World} {r : Rd} (h : r = .cut) (h1 : RefAt w' g s k0 2) (h2 : w.grownBy w' (some g)) : RNumEnd g s k0 w r (.returned (.int .u64 0)) w' := by subst h; exact ⟨rfl, h1, h2⟩
theorem rNumEnd_long {g : Nat} {s : List UInt8} {k0 : Nat} {w w' : World} {r : Rd} (h : r = .long) (h1 : RefAt w' g s k0 3) (h2 : w.grownBy w' (some g)) : RNumEnd g s k0 w r (.returned (.int .u64 0)) w' := by subst h; exact ⟨rfl, h1, h2⟩
theorem rNumEnd_ok {g : Nat} {s : List UInt8} {k0 : Nat} {w w' : World} {r : Rd} {n u : Nat} {a : Int} (h : r = .ok n u) (ha : a = (n : Int)) (h1 : RefAt w' g s (k0 + u) 0) (h2 : w.grownBy w' (some g)) : RNumEnd g s k0 w r (.returned (.int .u64 a)) w' := by subst h; subst ha; exact ⟨rfl, h1, h2⟩
theorem wrap_sum (acc c P k N : Nat) (hP : P = 128 ^ k) (hk : k ≤ 9) (ha : acc < 128 ^ k) (h9 : k = 9 → c % 128 ≤ 1) (hN : N = acc + c % 128 * 128 ^ k) :
  IntKind.u64.wrap ((acc : Int) + IntKind.u64.wrap ((c : Int) % 128 * (P : Int))) = (N : Int) := by
 subst hN hP
 have hb := group_bd (c := c % 128) hk (Nat.mod_lt _ (by omega)) h9
 have hp : 128 ^ k ≤ 128 ^ 9 := Nat.pow_le_pow_right (by omega) hk
 have e : (c : Int) % 128 * ((128 ^ k : Nat) : Int) = ((c % 128 * 128 ^ k : Nat) : Int) := by simp
 rw [e, IntKind.wrap_u64, IntKind.wrap_u64]
 have hn9 : (128 : Nat) ^ 9 = 9223372036854775808 := by decide
 have h10 := group_lt ha (show c % 128 < 128 from Nat.mod_lt _ (by omega))
 have hs : acc + c % 128 * 128 ^ k < 18446744073709551616 := by
  by_cases hk9 : k = 9
  ·have hc1 := h9 hk9
   have hx : c % 128 * 128 ^ k ≤ 1 * 128 ^ k := Nat.mul_le_mul_right _ hc1
   omega
  ·have hp8 : 128 ^ (k + 1) ≤ 128 ^ 9 := Nat.pow_le_pow_right (by omega) (by omega)
   omega
 generalize c % 128 * 128 ^ k = X at *
 omega
theorem wrap_place (P k Q : Nat) (hP : P = 128 ^ k) (hk : k ≤ 8) (hQ : Q = 128 ^ (k + 1)) : IntKind.u64.wrap ((P : Int) * 128) = (Q : Int) := by
 subst hP hQ
 have hn9 : (128 : Nat) ^ 9 = 9223372036854775808 := by decide
 have hp : 128 ^ (k + 1) ≤ 128 ^ 9 := Nat.pow_le_pow_right (by omega) (by omega)
 rw [hn9] at hp
 have e : ((128 ^ k : Nat) : Int) * 128 = ((128 ^ (k + 1) : Nat) : Int) := by rw [Nat.pow_succ]; simp
 rw [e, IntKind.wrap_u64]
 generalize 128 ^ (k + 1) = X at *
 omega
set_option maxHeartbeats 4000000 in
theorem rNum_end (g : Nat) (s : List UInt8) (k0 : Nat) (hk0 : k0 ≤ s.length) (hl : s.length ≤ 140737488351232) (w : World) (h : RefAt w g s k0 0) :
  Calls Tryz.prog 55 #[.pointer (some ⟨g, 0, none⟩)] w fun e w' => RNumEnd g s k0 w (rd (s.drop k0)) e w' := by
 have hs := ba_size s
 obtain ⟨l, hle⟩ : ∃ l, l = s.drop k0 := ⟨_, rfl⟩
 rw [← hle]
 have HLE := Lib.hid hle
 have hll : l.length = s.length - k0 := by rw [hle, List.length_drop]
 have HLL := Lib.hid hll
 clear hle hll
 go_enter Tryz.func55, Tryz.ntmps55
 go_wp2
 go_loopw [3, 4, 5, 6] (fun n p i _ wr => ∃ k acc P : Nat, k ≤ 9 ∧ i = .int .i64 (k : Int) ∧ n = .int .u64 (acc : Int) ∧ p = .int .u64 (P : Int) ∧ P = 128 ^ k ∧ acc < 128 ^ k ∧ rdAt k acc (l.drop k) = rd l ∧ RefAt wr g s k0 0 ∧ w.grownBy wr (some g))
  (fun _ _ i _ _ => 10 - (Go.RowKit.intOf i).toNat)
 case atStart => exact ⟨0, 0, 1, by omega, rfl, rfl, rfl, rfl, by simp, by simp [rd], h, World.grownBy.refl _ _⟩
 case round =>
  clear h
  obtain ⟨k, acc, P, hk, rfl, rfl, rfl, hP, ha, hrd, hr, ho⟩ := hrel
  have HP := Lib.hid hP
  have HA := Lib.hid ha
  have HR := Lib.hid hrd
  have h0 := ref_s hr
  have h1 := ref_at hr
  have h2 := ref_e hr
  have hf1 := is_free hr 1
  have hf2 := is_free hr 2
  have HRA := Lib.hid hr
  clear ha hrd hP hr
  by_cases hlt : k0 + k < s.length
  ·obtain ⟨b, hb⟩ : ∃ b, s[k0 + k]? = some b := ⟨_, List.getElem?_eq_getElem hlt⟩
   have HB : Hid (l[k]? = some b) := by unfold Hid; rw [HLE.out, List.getElem?_drop]; exact hb
   have hsum : IntKind.i64.wrap ((k0 : Int) + (k : Int)) = (k0 : Int) + (k : Int) := IntWalk.i64_in _ (by omega)
   have hix := index_ba hb ((k0 : Int) + (k : Int)) (by omega)
   have hbb := b.toNat_lt
   obtain ⟨N, hN⟩ : ∃ N, N = acc + b.toNat % 128 * 128 ^ k := ⟨_, rfl⟩
   have HN := Lib.hid hN
   clear hN hb
   have hcase : (k = 9 ∧ 1 < b.toNat) ∨ (k = 9 ∧ b.toNat = 0) ∨ (k = 9 ∧ b.toNat = 1) ∨ (k = 0 ∧ b.toNat < 128) ∨ (k = 0 ∧ 128 ≤ b.toNat) ∨ (0 < k ∧ k < 9 ∧ b.toNat = 0) ∨ (0 < k ∧ k < 9 ∧ 0 < b.toNat ∧ b.toNat < 128) ∨ (0 < k ∧ k < 9 ∧ 128 ≤ b.toNat) := by omega
   rcases hcase with hq | hq | hq | hq | hq | hq | hq | hq
   ·have t1 : ((k : Int) == 9) = true := by simp; omega
    have t2 : decide (1 < (b.toNat : Int)) = true := by simp; omega
    have HQ : Hid ((k = 9 ∧ 1 < b.toNat) ∨ (0 < k ∧ b.toNat = 0)) := by unfold Hid; omega
    clear hq
    go_wp2
    go_quiet (fail)
    go_wp2
    go_quiet (fail)
    go_wp2
    go_ret
    exact rNumEnd_long (rd_step_long HB.out HR.out HQ.out) (ref_setE (ref_drewN HRA.out _) 3) (only_trans (only_drewN ho _) (only_set _ _ _ _))
   ·have t1 : ((k : Int) == 9) = true := by simp; omega
    have t2 : decide (1 < (b.toNat : Int)) = false := by simp; omega
    have t3 : 0 < k := by omega
    have t4 : ((b.toNat : Int) == 0) = true := by simp; omega
    have HQ : Hid ((k = 9 ∧ 1 < b.toNat) ∨ (0 < k ∧ b.toNat = 0)) := by unfold Hid; omega
    clear hq
    go_wp2
    go_quiet (fail)
    go_wp2
    go_quiet (fail)
    go_wp2
    go_ret
    exact rNumEnd_long (rd_step_long HB.out HR.out HQ.out) (ref_setE (ref_drewN HRA.out _) 3) (only_trans (only_drewN ho _) (only_set _ _ _ _))
   ·have t1 : ((k : Int) == 9) = true := by simp; omega
    have t2 : decide (1 < (b.toNat : Int)) = false := by simp; omega
    have t3 : 0 < k := by omega
    have t4 : ((b.toNat : Int) == 0) = false := by simp; omega
    have t5 : b.toNat < 128 := by omega
    have HQ : Hid (¬((k = 9 ∧ 1 < b.toNat) ∨ (0 < k ∧ b.toNat = 0)) ∧ b.toNat < 128) := by unfold Hid; omega
    have hor := wrap_sum acc b.toNat P k N HP.out hk HA.out (by omega) HN.out
    clear hq
    go_wp2
    go_quiet (fail)
    go_wp2
    go_quiet (fail)
    go_wp2
    go_ret
    exact rNumEnd_ok (rd_step_ok HB.out HR.out HQ.out.1 HQ.out.2) (by rw [← HN.out]) (ref_setAt (ref_drewN HRA.out _) _ (k0 + (k + 1)) (by omega)) (only_trans (only_drewN ho _) (only_set _ _ _ _))
   ·have t1 : ((k : Int) == 9) = false := by simp; omega
    have t3 : ¬ 0 < k := by omega
    have t5 : b.toNat < 128 := by omega
    have HQ : Hid (¬((k = 9 ∧ 1 < b.toNat) ∨ (0 < k ∧ b.toNat = 0)) ∧ b.toNat < 128) := by unfold Hid; omega
    have hor := wrap_sum acc b.toNat P k N HP.out hk HA.out (by omega) HN.out
    clear hq
    go_wp2
    go_quiet (fail)
    go_wp2
    go_quiet (fail)
    go_wp2
    go_ret
    exact rNumEnd_ok (rd_step_ok HB.out HR.out HQ.out.1 HQ.out.2) (by rw [← HN.out]) (ref_setAt (ref_drewN HRA.out _) _ (k0 + (k + 1)) (by omega)) (only_trans (only_drewN ho _) (only_set _ _ _ _))
   ·have t1 : ((k : Int) == 9) = false := by simp; omega
    have t3 : ¬ 0 < k := by omega
    have t5 : 128 ≤ b.toNat := by omega
    have HQ : Hid (¬((k = 9 ∧ 1 < b.toNat) ∨ (0 < k ∧ b.toNat = 0)) ∧ 128 ≤ b.toNat) := by unfold Hid; omega
    have hor := wrap_sum acc b.toNat P k N HP.out hk HA.out (by omega) HN.out
    have hk8 : k ≤ 8 := by omega
    obtain ⟨Q, hQ⟩ : ∃ Q, Q = 128 ^ (k + 1) := ⟨_, rfl⟩
    have hpl := wrap_place P k Q HP.out hk8 hQ
    have HQQ := Lib.hid hQ
    clear hq hQ
    go_wp2
    go_quiet (fail)
    go_wp2
    go_quiet (fail)
    go_wp2
    go_roundw
    case rel => exact ⟨k + 1, N, Q, by omega, by go_num, rfl, rfl, HQQ.out, by rw [HN.out]; exact group_lt HA.out (by omega), by rw [HN.out]; exact rd_step_more HB.out HR.out HQ.out.1 HQ.out.2, ref_drewN HRA.out _, only_drewN ho _⟩
    case measure => simp [Go.RowKit.intOf]; omega
   ·have t1 : ((k : Int) == 9) = false := by simp; omega
    have t3 : 0 < k := by omega
    have t4 : ((b.toNat : Int) == 0) = true := by simp; omega
    have HQ : Hid ((k = 9 ∧ 1 < b.toNat) ∨ (0 < k ∧ b.toNat = 0)) := by unfold Hid; omega
    clear hq
    go_wp2
    go_quiet (fail)
    go_wp2
    go_quiet (fail)
    go_wp2
    go_ret
    exact rNumEnd_long (rd_step_long HB.out HR.out HQ.out) (ref_setE (ref_drewN HRA.out _) 3) (only_trans (only_drewN ho _) (only_set _ _ _ _))
   ·have t1 : ((k : Int) == 9) = false := by simp; omega
    have t3 : 0 < k := by omega
    have t4 : ((b.toNat : Int) == 0) = false := by simp; omega
    have t5 : b.toNat < 128 := by omega
    have HQ : Hid (¬((k = 9 ∧ 1 < b.toNat) ∨ (0 < k ∧ b.toNat = 0)) ∧ b.toNat < 128) := by unfold Hid; omega
    have hor := wrap_sum acc b.toNat P k N HP.out hk HA.out (by omega) HN.out
    clear hq
    go_wp2
    go_quiet (fail)
    go_wp2
    go_quiet (fail)
    go_wp2
    go_ret
    exact rNumEnd_ok (rd_step_ok HB.out HR.out HQ.out.1 HQ.out.2) (by rw [← HN.out]) (ref_setAt (ref_drewN HRA.out _) _ (k0 + (k + 1)) (by omega)) (only_trans (only_drewN ho _) (only_set _ _ _ _))
   ·have t1 : ((k : Int) == 9) = false := by simp; omega
    have t3 : 0 < k := by omega
    have t4 : ((b.toNat : Int) == 0) = false := by simp; omega
    have t5 : 128 ≤ b.toNat := by omega
    have HQ : Hid (¬((k = 9 ∧ 1 < b.toNat) ∨ (0 < k ∧ b.toNat = 0)) ∧ 128 ≤ b.toNat) := by unfold Hid; omega
    have hor := wrap_sum acc b.toNat P k N HP.out hk HA.out (by omega) HN.out
    have hk8 : k ≤ 8 := by omega
    obtain ⟨Q, hQ⟩ : ∃ Q, Q = 128 ^ (k + 1) := ⟨_, rfl⟩
    have hpl := wrap_place P k Q HP.out hk8 hQ
    have HQQ := Lib.hid hQ
    clear hq hQ
    go_wp2
    go_quiet (fail)
    go_wp2
    go_quiet (fail)
    go_wp2
    go_roundw
    case rel => exact ⟨k + 1, N, Q, by omega, by go_num, rfl, rfl, HQQ.out, by rw [HN.out]; exact group_lt HA.out (by omega), by rw [HN.out]; exact rd_step_more HB.out HR.out HQ.out.1 HQ.out.2, ref_drewN HRA.out _, only_drewN ho _⟩
    case measure => simp [Go.RowKit.intOf]; omega
  ·have hnlt : s.length ≤ k0 + k := by omega
   go_wp2
   go_quiet (fail)
   go_wp2
   go_ret
   exact rNumEnd_cut (rd_step_cut (by rw [HLL.out]; omega) HR.out) (ref_setE (ref_drewN HRA.out _) 2) (only_trans (only_drewN ho _) (only_set _ _ _ _))
end Go.Proofs.YtojhenpaeedimaaGreat
end
section
namespace Go.Proofs.YtojhenpaeedimaaGreat
open Go.RowKit
open Pk
set_option maxRecDepth 100000
/-- the document's Reader of s, in block g, that is as far as st -/
def Ref (w : World) (g : Nat) (s : List UInt8) (st : St) : Prop := ∃ k, k ≤ s.length ∧ s.drop k = st.l ∧ RefAt w g s k st.e
theorem ref_mk {w : World} {g : Nat} {s : List UInt8} {k : Nat} {l : List UInt8} {e : Int} (hk : k ≤ s.length) (hd : s.drop k = l) (h : RefAt w g s k e) : Ref w g s ⟨l, e⟩ := ⟨k, hk, hd, h⟩
theorem rnum_off (g : Nat) (s : List UInt8) (k : Nat) (e : Int) (he : e ≠ 0) (w : World) (h : RefAt w g s k e) :
  Calls Tryz.prog 55 #[.pointer (some ⟨g, 0, none⟩)] w fun e w' => e = .returned (.int .u64 0) ∧ w = w' := by
 have h2 := ref_e h
 have hd : (e == 0) = false := by simpa using he
 clear h he
 go_enter Tryz.func55, Tryz.ntmps55
 go_wp2
 refine wp_loop_rounds 1 ?_
 rw [rounds_succ]
 go_wp2
 go_ret
 exact ⟨rfl, rfl⟩
/-- a call that answers v and leaves the document's Reader as st -/
def RDone (w : World) (g : Nat) (s : List UInt8) (st : St) (v : Value) (e : Ending) (w' : World) : Prop := e = .returned v ∧ Ref w' g s st ∧ w.grownBy w' (some g)
theorem rDone_mk {w w' : World} {g : Nat} {s : List UInt8} {st st' : St} {v u : Value} {e : Ending} (h : e = .returned u) (hv : u = v) (hr : Ref w' g s st') (hs : st' = st) (ho : w.grownBy w' (some g)) : RDone w g s st v e w' := by
 subst hv; subst hs; exact ⟨h, hr, ho⟩
theorem rnum_all (g : Nat) (s : List UInt8) (st : St) (hl : s.length ≤ 140737488351232) (w : World) (h : Ref w g s st) :
  Calls Tryz.prog 55 #[.pointer (some ⟨g, 0, none⟩)] w fun e w' => RDone w g s (numS st) (.int .u64 (numV st : Int)) e w' := by
 obtain ⟨k, hk, hd, hr⟩ := h
 by_cases he : st.e = 0
 ·rw [he] at hr
  refine (rNum_end g s k hk hl w hr).mono fun e w' hq => ?_
  rw [hd] at hq
  cases hrd : rd st.l with
  | cut =>
   rw [hrd] at hq
   obtain ⟨h1, h2, h3⟩ := hq
   exact rDone_mk h1 (by rw [(num_cut he hrd).1]; rfl) (ref_mk hk hd h2) (num_cut he hrd).2.symm h3
  | long =>
   rw [hrd] at hq
   obtain ⟨h1, h2, h3⟩ := hq
   exact rDone_mk h1 (by rw [(num_long he hrd).1]; rfl) (ref_mk hk hd h2) (num_long he hrd).2.symm h3
  | ok n u =>
   rw [hrd] at hq
   obtain ⟨h1, h2, h3⟩ := hq
   have hu := (rd_inv hrd).2.2.1
   have hll := drop_at hd
   exact rDone_mk h1 (by rw [(num_ok he hrd).1]) (ref_mk (k := k + u) (by omega) (by rw [← hd, List.drop_drop]) h2) (num_ok he hrd).2.symm h3
 ·refine (rnum_off g s k st.e he w hr).mono fun e w' hq => ?_
  obtain ⟨h1, h2⟩ := hq
  subst h2
  exact rDone_mk h1 (by rw [(num_err he).1]; rfl) ⟨k, hk, hd, hr⟩ (num_err he).2.symm (World.grownBy.refl _ _)
theorem rnum_m (g : Nat) (s : List UInt8) (st : St) (hl : s.length ≤ 140737488351232) (w : World) (h : Ref w g s st) :
  Calls Tryz.prog 55 #[.pointer (some ⟨g, 0, none⟩)] w fun e w' => e = .returned (.int .u64 (numV st : Int)) ∧ Ref w' g s (numS st) ∧ w.grownBy w' (some g) :=
 (rnum_all g s st hl w h).mono fun _ _ hq => hq
theorem rint_m (g : Nat) (s : List UInt8) (st : St) (hl : s.length ≤ 140737488351232) (w : World) (h : Ref w g s st) :
  Calls Tryz.prog 131 #[.pointer (some ⟨g, 0, none⟩)] w fun e w' => e = .returned (.int .i64 (zag (numV st))) ∧ Ref w' g s (numS st) ∧ w.grownBy w' (some g) := by
 have hb := numV_lt st
 go_enter Tryz.func131, Tryz.ntmps131
 go_wp2_with (first | (go_at_call 55; refine (rnum_m g s st hl _ h).mono ?_; rintro e w1 ⟨rfl, hr1, ho1⟩) | (go_at_call 184; refine (rZag_c _ hb _).mono ?_; rintro e wz ⟨rfl, rfl⟩))
 go_ret
 exact ⟨rfl, hr1, ho1⟩
theorem rtake_off (g : Nat) (n : Int) (s : List UInt8) (k : Nat) (e : Int) (he : e ≠ 0) (w : World) (h : RefAt w g s k e) :
  Calls Tryz.prog 57 #[.pointer (some ⟨g, 0, none⟩), .int .i64 n] w fun e w' => e = .returned (.string (ba [])) ∧ ∃ m, w' = w.drewN m := by
 have h2 := ref_e h
 have hd : (e == 0) = false := by simpa using he
 have hd2 : (e != 0) = true := by simpa using he
 clear h he
 go_enter Tryz.func57, Tryz.ntmps57
 go_wp2
 go_quiet (fail)
 go_wp2
 go_ret
 exact ⟨rfl, _, rfl⟩
theorem rtake_neg (g : Nat) (n : Int) (hn : n < 0) (s : List UInt8) (k : Nat) (w : World) (h : RefAt w g s k 0) :
  Calls Tryz.prog 57 #[.pointer (some ⟨g, 0, none⟩), .int .i64 n] w fun e w' => e = .returned (.string (ba [])) ∧ RefAt w' g s k 2 ∧ w.grownBy w' (some g) := by
 have h2 := ref_e h
 have hf2 := is_free h 2
 have HR := Lib.hid h
 clear h
 go_enter Tryz.func57, Tryz.ntmps57
 go_wp2
 go_quiet (fail)
 go_wp2
 go_ret
 exact ⟨rfl, ref_setE (ref_drewN HR.out _) 2, only_trans (only_drewN (World.grownBy.refl _ _) _) (only_set _ _ _ _)⟩
theorem rtake_far (g : Nat) (n : Int) (s : List UInt8) (k : Nat) (hk : k ≤ s.length) (hl : s.length ≤ 140737488351232) (hn : ((s.length - k : Nat) : Int) < n) (w : World) (h : RefAt w g s k 0) :
  Calls Tryz.prog 57 #[.pointer (some ⟨g, 0, none⟩), .int .i64 n] w fun e w' => e = .returned (.string (ba [])) ∧ RefAt w' g s k 2 ∧ w.grownBy w' (some g) := by
 have h0 := ref_s h
 have h1 := ref_at h
 have h2 := ref_e h
 have hf2 := is_free h 2
 have hs := ba_size s
 have hn1 : 0 ≤ n := by omega
 have hn2 : (s.length : Int) - (k : Int) < n := by omega
 have hsub : IntKind.i64.wrap ((s.length : Int) - (k : Int)) = (s.length : Int) - (k : Int) := IntWalk.i64_in _ (by omega)
 have HR := Lib.hid h
 clear h hn
 go_enter Tryz.func57, Tryz.ntmps57
 go_wp2
 go_quiet (fail)
 go_wp2
 go_ret
 exact ⟨rfl, ref_setE (ref_drewN HR.out _) 2, only_trans (only_drewN (World.grownBy.refl _ _) _) (only_set _ _ _ _)⟩
theorem rtake_in (g m : Nat) (s : List UInt8) (k : Nat) (hk : k + m ≤ s.length) (hl : s.length ≤ 140737488351232) (w : World) (h : RefAt w g s k 0) :
  Calls Tryz.prog 57 #[.pointer (some ⟨g, 0, none⟩), .int .i64 (m : Int)] w fun e w' => e = .returned (.string (ba ((s.drop k).take m))) ∧ RefAt w' g s (k + m) 0 ∧ w.grownBy w' (some g) := by
 have h0 := ref_s h
 have h1 := ref_at h
 have h2 := ref_e h
 have hf1 := is_free h 1
 have hs := ba_size s
 have hsub : IntKind.i64.wrap ((s.length : Int) - (k : Int)) = (s.length : Int) - (k : Int) := IntWalk.i64_in _ (by omega)
 have hn2 : ¬ (s.length : Int) - (k : Int) < (m : Int) := by omega
 have HR := Lib.hid h
 clear h
 go_enter Tryz.func57, Tryz.ntmps57
 go_wp2
 go_quiet (fail)
 go_wp2
 go_quiet (fail)
 go_wp2
 go_ret
 exact ⟨ret_str (by rw [extract_mid, List.drop_take, Nat.add_sub_cancel_left]), ref_drewN (ref_setAt (ref_drewN HR.out _) _ (k + m) (by omega)) _, only_drewN (only_trans (only_drewN (World.grownBy.refl _ _) _) (only_set _ _ _ _)) _⟩
theorem rtake_all (g : Nat) (n : Int) (s : List UInt8) (st : St) (hl : s.length ≤ 140737488351232) (w : World) (h : Ref w g s st) :
  Calls Tryz.prog 57 #[.pointer (some ⟨g, 0, none⟩), .int .i64 n] w fun e w' => RDone w g s (takeS n st) (.string (ba (takeV n st))) e w' := by
 obtain ⟨k, hk, hd, hr⟩ := h
 have hll := drop_at hd
 by_cases he : st.e = 0
 ·rw [he] at hr
  by_cases hn : n < 0
  ·refine (rtake_neg g n hn s k w hr).mono fun e w' hq => ?_
   obtain ⟨h1, h2, h3⟩ := hq
   exact rDone_mk h1 (by rw [(take_cut he (.inl hn)).1]) (ref_mk hk hd h2) (take_cut he (.inl hn)).2.symm h3
  ·by_cases hf : (st.l.length : Int) < n
   ·refine (rtake_far g n s k hk hl (by omega) w hr).mono fun e w' hq => ?_
    obtain ⟨h1, h2, h3⟩ := hq
    exact rDone_mk h1 (by rw [(take_cut he (.inr hf)).1]) (ref_mk hk hd h2) (take_cut he (.inr hf)).2.symm h3
   ·obtain ⟨m, rfl⟩ := Int.eq_ofNat_of_zero_le (show 0 ≤ n by omega)
    have hno : ¬((m : Int) < 0 ∨ (st.l.length : Int) < (m : Int)) := by omega
    refine (rtake_in g m s k (by omega) hl w hr).mono fun e w' hq => ?_
    obtain ⟨h1, h2, h3⟩ := hq
    exact rDone_mk h1 (by rw [(take_ok he hno).1, hd]; rfl) (ref_mk (k := k + m) (by omega) (by rw [← hd, List.drop_drop]; rfl) h2) (take_ok he hno).2.symm h3
 ·refine (rtake_off g n s k st.e he w hr).mono fun e w' hq => ?_
  obtain ⟨h1, m, h2⟩ := hq
  subst h2
  exact rDone_mk h1 (by rw [(take_err he).1]) ⟨k, hk, hd, ref_drewN hr _⟩ (take_err he).2.symm (only_drewN (World.grownBy.refl _ _) _)
theorem rtake_m (g : Nat) (n : Int) (s : List UInt8) (st : St) (hl : s.length ≤ 140737488351232) (w : World) (h : Ref w g s st) :
  Calls Tryz.prog 57 #[.pointer (some ⟨g, 0, none⟩), .int .i64 n] w fun e w' => e = .returned (.string (ba (takeV n st))) ∧ Ref w' g s (takeS n st) ∧ w.grownBy w' (some g) :=
 (rtake_all g n s st hl w h).mono fun _ _ hq => hq
theorem rdone_m (g : Nat) (s : List UInt8) (st : St) (hl : s.length ≤ 140737488351232) (w : World) (h : Ref w g s st) :
  Calls Tryz.prog 71 #[.pointer (some ⟨g, 0, none⟩)] w fun e w' => e = .returned (.int .i64 (doneV st)) ∧ ∃ n, w' = w.drewN n := by
 obtain ⟨k, hk, hd, hr⟩ := h
 have hll := drop_at hd
 have h2 := ref_e hr
 by_cases he : st.e = 0
 ·have ht : (st.e == 0) = true := by simpa using he
  by_cases hp : 0 < st.l.length
  ·have HV : Hid (doneV st = 5) := by unfold Hid doneV; rw [if_pos he, if_pos hp]
   have hp2 : (0 : Int) < ((s.length - k : Nat) : Int) := by omega
   have HR := Lib.hid hr
   clear he hd hr hll
   go_enter Tryz.func71, Tryz.ntmps71
   go_wp2_with (go_at_call 56; refine (rLeft_c g s k st.e hk hl _ HR.out).mono ?_; rintro e wz ⟨rfl, n, rfl⟩)
   go_ret
   exact ⟨ret_int HV.out.symm, _, rfl⟩
  ·have HV : Hid (doneV st = 0) := by unfold Hid doneV; rw [if_pos he, if_neg hp]
   have hp2 : ¬ (0 : Int) < ((s.length - k : Nat) : Int) := by omega
   have HR := Lib.hid hr
   have HE := Lib.hid he
   clear he hd hr hll
   go_enter Tryz.func71, Tryz.ntmps71
   go_wp2_with (go_at_call 56; refine (rLeft_c g s k st.e hk hl _ HR.out).mono ?_; rintro e wz ⟨rfl, n, rfl⟩)
   go_ret
   exact ⟨ret_int (by rw [HV.out, HE.out]), _, rfl⟩
 ·have ht : (st.e == 0) = false := by simpa using he
  have HV : Hid (doneV st = st.e) := by unfold Hid doneV; rw [if_neg he]
  clear he hd hr hll
  go_enter Tryz.func71, Tryz.ntmps71
  go_wp2
  go_ret
  exact ⟨ret_int (by rw [HV.out]), 0, rfl⟩
theorem rleft_m (g : Nat) (s : List UInt8) (st : St) (hl : s.length ≤ 140737488351232) (w : World) (h : Ref w g s st) :
  Calls Tryz.prog 56 #[.pointer (some ⟨g, 0, none⟩)] w fun e w' => e = .returned (.int .i64 (st.l.length : Int)) ∧ ∃ n, w' = w.drewN n := by
 obtain ⟨k, hk, hd, hr⟩ := h
 rw [drop_at hd]
 exact rLeft_c g s k st.e hk hl w hr
end Go.Proofs.YtojhenpaeedimaaGreat
end
section
namespace Go.Proofs.YtojhenpaeedimaaGreat
open Go.RowKit
theorem below_only {B g : Nat} {a w w' : World} (hb : Below B a w) (ho : w.grownBy w' (some g)) (hB : B ≤ w.heap.size) (hg : B ≤ g) : Below B a w' :=
 hb.grown ho hB (fun k hk => by injection hk with hk; omega)
end Go.Proofs.YtojhenpaeedimaaGreat
end
