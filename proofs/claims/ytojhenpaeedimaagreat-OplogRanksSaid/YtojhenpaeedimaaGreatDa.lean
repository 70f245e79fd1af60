/-
 Contracts of the document's answer for layer 1: Bits in all, Canon, Kind, Same, and Float.
 Contract of the document's answer for layer 1: Float, and what an operation that has no answer gives.
 Contract of the document's answer for layer 1: Float in all; contracts at whatever integer; and 'live' of layer 1's statements.
 Contracts of cmp.Compare of ints, and of the closures of package rank.
 Contract of package rank's first, at the two pairs of ways that are handed to it.
 Contracts of package rank's Before and Less, and of the document's.
 Contracts of the document's Before and Less; and 'live' of layer 2's statements.
 Rows as cells; the place of the first row that fits (slices.IndexFunc, slices.ContainsFunc).
 The first row of a child: its place, and itself, by the program and by the document.
 Whether a row may be, and whether two are alike; lists of rows held against each other; few rows.
 Lists of rows held against each other; few rows.
 slices.Grow, slices.Clone, slices.Concat at rows.
 A row that is dropped, and one that is set: the program's.
 A row that is set: the program's.
 A row that is dropped: the document's.
 A row that is set: the document's.
 Who is above whom: the document's.
 What may be a tree: the document's.
 Rows of whole numbers; a node's way up: the document's.
 delta's steps: each number with the one ahead; Deltas.
-/
import Derived.Test.YtojhenpaeedimaaGreatNi
import Derived.Test.YtojhenpaeedimaaGreatNe
import Derived.LoopN
import Derived.Handy
import Derived.Test.YtojhenpaeedimaaGreatMg
import Derived.Deep.LoopGhost
import Derived.WalkMore
import Derived.Shelf.Abstract
import Derived.Test.YtojhenpaeedimaaGreatEd
import Derived.Deep.RegionHeld3
import Derived.Lib.AppendZeros
import Derived.Lib.SliceRun
import Derived.Laws.AppendOwnNone
import Derived.Deep.QuietTactic
import Derived.BigQuiet
import Derived.Test.YtojhenpaeedimaaGreatRa
import Derived.Deep.RegionHeldLaw
import Derived.Test.YtojhenpaeedimaaGreatBl
section
namespace Go.Proofs.YtojhenpaeedimaaGreat
open Go.RowKit
open Fl
set_option maxRecDepth 100000
theorem rBits_c (x : Nat) (hx : x < 18446744073709551616) (w : World) :
  Calls Tryz.prog 65 #[.float .f64 x] w fun e w' => e = .returned (.int .u64 (cb x : Int)) ∧ w = w' := by
 rcases kd_of x with ⟨hn, _, hc⟩ | ⟨hn, hc, hle, hkk⟩
 ·rw [hc]
  exact rBits_nan x hx hn w
 ·rw [hc]
  rcases hkk with ⟨_, h3⟩ | ⟨_, h3⟩ | ⟨_, h3⟩ | ⟨_, h3, h4⟩
  ·exact rBits_inf x hx hn h3 w
  ·exact rBits_zero x hx hn h3 w
  ·rcases Nat.eq_zero_or_pos (mg x) with h0 | h0
   ·exact rBits_zero x hx hn h0 w
   ·exact rBits_tiny x (mg x) hx hn h0 h3 rfl w
  ·have hq : mg x = nw (mg x / 4503599627370496) (mg x % 4503599627370496) := by unfold nw; omega
   rcases Nat.lt_or_ge (mg x / 4503599627370496) 1023 with h5 | h5
   ·exact rBits_low x _ _ hx hn (by omega) h5 (by omega) hq w
   ·exact rBits_big x _ _ hx hn h5 (by omega) (by omega) hq w
theorem rSame_c (x y : Nat) (hx : x < 18446744073709551616) (hy : y < 18446744073709551616) (w : World) :
  Calls Tryz.prog 83 #[.float .f64 x, .float .f64 y] w fun e w' => e = .returned (.bool ((cb x : Int) == (cb y : Int))) ∧ w = w' := by
 go_enter Tryz.func83, Tryz.ntmps83
 go_wp2_with fail
 refine (rBits_c x hx _).mono ?_
 rintro e w1 ⟨rfl, rfl⟩
 go_wp2_with fail
 refine (rBits_c y hy _).mono ?_
 rintro e w2 ⟨rfl, rfl⟩
 go_wp2
 go_ret
 exact ⟨rfl, rfl⟩
theorem rCanon_c (u : Nat) (hu : u < 18446744073709551616) (w : World) :
  Calls Tryz.prog 147 #[.int .u64 (u : Int)] w fun e w' => e = .returned (.bool (cn u)) ∧ w = w' := by
 have hc : cn u = (!(((u / 4503599627370496 % 2048 : Nat) : Int) == 2047) || (((u % 4503599627370496 : Nat) : Int) == 0) || ((u : Int) == 9221120237041090560)) := by
  unfold cn
  rw [Bool.eq_iff_iff]
  simp only [decide_eq_true_eq, Bool.or_eq_true, Bool.not_eq_true', beq_iff_eq, beq_eq_false_iff_ne]
  omega
 rw [hc]
 clear hc
 have h1 : (u : Int) / 4503599627370496 % 2048 = ((u / 4503599627370496 % 2048 : Nat) : Int) := by omega
 have h2 : (u : Int) % 4503599627370496 = ((u % 4503599627370496 : Nat) : Int) := by omega
 generalize u / 4503599627370496 % 2048 = a at *
 generalize u % 4503599627370496 = b at *
 by_cases k1 : ((a : Int) == 2047) = true
 ·have k3 : ((a : Int) != 2047) = false := by unfold bne; rw [k1]; rfl
  by_cases k2 : ((b : Int) == 0) = true
  ·go_enter Tryz.func147, Tryz.ntmps147
   go_wp2_with fail
   go_ret
   exact ⟨by simp [k1, k2], rfl⟩
  ·rw [Bool.not_eq_true] at k2
   go_enter Tryz.func147, Tryz.ntmps147
   go_wp2_with (go_at_call 114; refine (none_c _).mono ?_; rintro e w' ⟨rfl, rfl⟩)
   go_ret
   exact ⟨by simp [k1, k2], rfl⟩
 ·rw [Bool.not_eq_true] at k1
  have k3 : ((a : Int) != 2047) = true := by unfold bne; rw [k1]; rfl
  go_enter Tryz.func147, Tryz.ntmps147
  go_wp2_with fail
  go_ret
  exact ⟨by simp [k1], rfl⟩
end Go.Proofs.YtojhenpaeedimaaGreat
end
section
namespace Go.Proofs.YtojhenpaeedimaaGreat
open Go.RowKit
open Fl
set_option maxRecDepth 100000
/-- the bits of no number that the run gives where an operation has no answer -/
def nanW (x y : Nat) (w : World) : Nat := (Question.nanBits .f64 x y).cut (w.tape w.drawn (Question.nanBits .f64 x y))
theorem nanW_nn (x y : Nat) (w : World) : nn (nanW x y w) = true ∧ nanW x y w < 18446744073709551616 := by
 unfold nanW
 generalize w.tape w.drawn (Question.nanBits .f64 x y) = t
 have h : (Question.nanBits .f64 x y).cut t = (t % 2) * 2 ^ 63 + 0x7ff0000000000000 + 1 + (t / 2) % (2 ^ 52 - 1) := rfl
 rw [h, p63]
 have h2 : (2 : Nat) ^ 52 - 1 = 4503599627370495 := by decide
 rw [h2]
 unfold nn
 have hr : t / 2 % 4503599627370495 < 4503599627370495 := Nat.mod_lt _ (by omega)
 generalize t / 2 % 4503599627370495 = r at *
 rcases Nat.mod_two_eq_zero_or_one t with h0 | h0
 ·rw [h0]
  exact ⟨decide_eq_true (by omega), by omega⟩
 ·rw [h0]
  exact ⟨decide_eq_true (by omega), by omega⟩
theorem run_float_none (P : Program) (w : World) (op : BinOp) (t : TypeId) (x y : Nat) (ho : op = .quo ∨ op = .mul ∨ op = .add ∨ op = .sub) (h : floatBits op .f64 x y = none) :
  (binOp op t (.float .f64 x) (.float .f64 y)).run P w = .ok (.float .f64 (nanW x y w)) w.drew := by
 rcases ho with rfl | rfl | rfl | rfl
 all_goals
  have h' := h
  simp only [floatBits] at h'
  simp only [binOp, Op.floatArith]
  rw [h']
  rfl
theorem neg_cases (u r : Nat) (hr : r < 9223372036854775808) (h : mg u = r) (hu : u < 18446744073709551616) : (ng u = true → Op.negFloat .f64 r = u) ∧ (ng u = false → r = u) := by
 rcases mg_split u hu with ⟨h1, h2⟩ | ⟨h1, h2⟩
 ·refine ⟨fun _ => ?_, fun h3 => absurd (h3.symm.trans h1) (by simp)⟩
  have := neg_eq false r hr
  have e1 : wd false r = r := by simp [wd]
  have e2 : wd (!false) r = u := by simp only [wd, Bool.not_false, if_true]; omega
  rw [e1, e2] at this
  exact this
 ·exact ⟨fun h3 => absurd (h3.symm.trans h1) (by simp), fun _ => by omega⟩
theorem ge_top {u : Nat} {b : Bool} (h : ng u = b) : decide ((9223372036854775808 : Int) ≤ (u : Int)) = b := by
 rw [← h]; unfold ng; exact decide_eq_decide.2 (by omega)
theorem ret_f64 {a b : Nat} (h : a = b) : Ending.returned (.float .f64 a) = .returned (.float .f64 b) := by rw [h]
theorem rFloat_nan (u m : Nat) (hm : 0 < m) (he : (u : Int) / 4503599627370496 % 2048 = 2047) (hr : (u : Int) % 4503599627370496 = m) (w : World) :
  Calls Tryz.prog 148 #[.int .u64 (u : Int)] w fun e w' => e = .returned (.float .f64 (nanW 0 0 w)) ∧ w.drew = w' := by
 have hd := fun wx => run_float_none Tryz.prog wx .quo 49 0 0 (.inl rfl) (by decide)
 have h2 : ((m : Int) != 0) = true := by rw [bne_iff_ne]; omega
 go_enter Tryz.func148, Tryz.ntmps148
 go_wp2
 go_ret
 exact ⟨rfl, rfl⟩
theorem rFloat_inf (u : Nat) (hu : u < 18446744073709551616) (he : (u : Int) / 4503599627370496 % 2048 = 2047) (hr : (u : Int) % 4503599627370496 = 0) (w : World) :
  Calls Tryz.prog 148 #[.int .u64 (u : Int)] w fun e w' => e = .returned (.float .f64 u) ∧ w = w' := by
 obtain ⟨I, hI⟩ : ∃ I : Nat, I = 9218868437227405312 := ⟨_, rfl⟩
 have hd := fun wx => run_float_arith (P := Tryz.prog) wx .quo 49 .f64 _ _ _ (inv_pos.trans (congrArg some hI.symm))
 obtain ⟨c1, c2⟩ := neg_cases u I (by omega) (by unfold mg; omega) hu
 clear hI
 rcases ng_cases u with ⟨h, hs⟩ | ⟨h, hs⟩
 case' inl => have c3 := Lib.hid (c1 h)
 case' inr => have c3 := Lib.hid (c2 h)
 all_goals
  have hb := Lib.hid (ge_top h)
  clear hs h c1 c2 hu
  go_enter Tryz.func148, Tryz.ntmps148
  go_wp2_with fail
  refine (top_c _).mono ?_
  rintro e w' ⟨rfl, rfl⟩
  have hb' := hb.out
  go_wp2
  go_ret
  exact ⟨ret_f64 c3.out, rfl⟩
set_option maxHeartbeats 1000000 in
theorem rFloat_tiny (u m : Nat) (hu : u < 18446744073709551616) (hm : m < 4503599627370496) (he : (u : Int) / 4503599627370496 % 2048 = 0) (hr : (u : Int) % 4503599627370496 = m) (w : World) :
  Calls Tryz.prog 148 #[.int .u64 (u : Int)] w fun e w' => e = .returned (.float .f64 u) ∧ w = w' := by
 have h4 := ofNat_en m (by omega)
 obtain ⟨c1, c2⟩ := neg_cases u (en m 0) (by have := small_en m hm; omega) (by have := small_en m hm; unfold mg; omega) hu
 rcases ng_cases u with ⟨h, hs⟩ | ⟨h, hs⟩
 case' inl => have c3 := Lib.hid (c1 h)
 case' inr => have c3 := Lib.hid (c2 h)
 all_goals
  have hb := Lib.hid (ge_top h)
  clear hs h c1 c2
  go_enter Tryz.func148, Tryz.ntmps148
  go_wp2
  go_loop [5, 7] (fun f v => ∃ j s : Nat, j + s ≤ 1074 ∧ 1074 ≤ j + s ∧ v = .int .i64 j ∧ f = .float .f64 (en m s)) (fun _ v => (1074 - Go.RowKit.intOf v).toNat)
  case atStart => exact ⟨0, B, by rw [B_eq]; omega, by rw [B_eq]; omega, rfl, rfl⟩
  case round =>
   obtain ⟨j, s, hj, hjs, rfl, rfl⟩ := hrel
   by_cases hj2 : j < 1074
   ·obtain ⟨p, rfl⟩ : ∃ p, s = p + 1 := ⟨s - 1, by omega⟩
    have hmul := fun wx => run_float_arith (P := Tryz.prog) wx .mul 49 .f64 _ _ _ (mul_half m p (by omega) (by omega))
    go_wp2
    go_round
    case rel => exact ⟨j + 1, p, by omega, by omega, by go_num, rfl⟩
    case measure => simp only [Go.RowKit.intOf]; omega
   ·obtain rfl : s = 0 := by omega
    go_wp2
    refine wp_loop_rounds 1 ?_
    rw [rounds_succ]
    go_wp2_with fail
    refine (top_c _).mono ?_
    rintro e w' ⟨rfl, rfl⟩
    have hb' := hb.out
    go_wp2
    go_ret
    exact ⟨ret_f64 c3.out, rfl⟩
set_option maxHeartbeats 1000000 in
theorem rFloat_plain (u q m : Nat) (hu : u < 18446744073709551616) (hq1 : 1 ≤ q) (hq2 : q ≤ 2046) (hm : m < 4503599627370496) (he : (u : Int) / 4503599627370496 % 2048 = q) (hr : (u : Int) % 4503599627370496 = m) (w : World) :
  Calls Tryz.prog 148 #[.int .u64 (u : Int)] w fun e w' => e = .returned (.float .f64 u) ∧ w = w' := by
 have hqe : ((q : Int) == 2047) = false := by rw [beq_eq_false_iff_ne]; omega
 have hnw := nw_en q m hm hq1 hq2
 obtain ⟨c1, c2⟩ := neg_cases u (en (4503599627370496 + m) (q - 1)) (by have := nw_lt q m hq2 hm; omega) (by rw [← hnw]; unfold mg nw; omega) hu
 obtain ⟨M, hM1, hM2⟩ : ∃ M : Nat, M = 4503599627370496 + m ∧ (m : Int) + 4503599627370496 = M := ⟨_, rfl, by omega⟩
 rw [← hM1] at c1 c2
 have hM : M < 9007199254740992 := by omega
 have h4 := ofNat_en M hM
 clear hM1 hnw
 rcases ng_cases u with ⟨h, hs⟩ | ⟨h, hs⟩
 case' inl => have c3 := Lib.hid (c1 h)
 case' inr => have c3 := Lib.hid (c2 h)
 all_goals
  have hb := Lib.hid (ge_top h)
  clear hs h c1 c2
  go_enter Tryz.func148, Tryz.ntmps148
  go_wp2
  clear hM2 h4
  go_loop [5, 7] (fun f v => ∃ j s : Nat, j + s ≤ 1074 ∧ 1074 ≤ j + s ∧ (j = 0 ∨ (j : Int) ≤ 1075 - q) ∧ v = .int .i64 j ∧ f = .float .f64 (en M s)) (fun _ v => (2000 - Go.RowKit.intOf v).toNat)
  case atStart => exact ⟨0, B, by rw [B_eq]; omega, by rw [B_eq]; omega, by omega, rfl, rfl⟩
  case round =>
   obtain ⟨j, s, hjs1, hjs2, hj, rfl, rfl⟩ := hrel
   by_cases hj2 : (j : Int) < 1075 - q
   ·obtain ⟨p, rfl⟩ : ∃ p, s = p + 1 := ⟨s - 1, by omega⟩
    have hmul := fun wx => run_float_arith (P := Tryz.prog) wx .mul 49 .f64 _ _ _ (mul_half M p hM (by omega))
    go_wp2
    go_round
    case rel => exact ⟨j + 1, p, by omega, by omega, by omega, by go_num, rfl⟩
    case measure => simp only [Go.RowKit.intOf]; omega
   ·go_wp2
    go_loop [5, 8] (fun f v => ∃ i z : Nat, z ≤ s + i ∧ s + i ≤ z ∧ (i = 0 ∨ (i : Int) ≤ q - 1075) ∧ v = .int .i64 i ∧ f = .float .f64 (en M z)) (fun _ v => (2000 - Go.RowKit.intOf v).toNat)
    case atStart => exact ⟨0, s, by omega, by omega, by omega, rfl, rfl⟩
    case round =>
     obtain ⟨i, z, hz1, hz2, hi, rfl, rfl⟩ := hrel
     by_cases hi2 : (i : Int) < q - 1075
     ·have hmul := fun wx => run_float_arith (P := Tryz.prog) wx .mul 49 .f64 _ _ _ (mul_two M z hM (by omega))
      go_wp2
      go_round
      case rel => exact ⟨i + 1, z + 1, by omega, by omega, by omega, by go_num, rfl⟩
      case measure => simp only [Go.RowKit.intOf]; omega
     ·have hT : z = q - 1 := by omega
      rw [hT]
      clear hT
      go_wp2_with fail
      refine (top_c _).mono ?_
      rintro e w' ⟨rfl, rfl⟩
      have hb' := hb.out
      go_wp2
      go_ret
      exact ⟨ret_f64 c3.out, rfl⟩
end Go.Proofs.YtojhenpaeedimaaGreat
end
section
namespace Go.Proofs.YtojhenpaeedimaaGreat
open Go.RowKit
open Fl
set_option maxRecDepth 100000
/-- what the document's Float gives for u -/
def RF (u y : Nat) : Prop := y < 18446744073709551616 ∧ (nn u = false → y = u) ∧ (nn u = true → nn y = true)
theorem rFloat_c (u : Nat) (hu : u < 18446744073709551616) (w : World) :
  Calls Tryz.prog 148 #[.int .u64 (u : Int)] w fun e w' => ∃ y, e = .returned (.float .f64 y) ∧ RF u y ∧ Below w.heap.size w w' := by
 by_cases h1 : u / 4503599627370496 % 2048 = 2047
 ·by_cases h2 : u % 4503599627370496 = 0
  ·refine (rFloat_inf u hu (by omega) (by omega) w).mono ?_
   rintro e w' ⟨rfl, rfl⟩
   refine ⟨u, rfl, ⟨hu, fun _ => rfl, fun h => ?_⟩, Below.refl _ _⟩
   unfold nn at h
   have := of_decide_eq_true h
   omega
  ·refine (rFloat_nan u (u % 4503599627370496) (by omega) (by omega) (by omega) w).mono ?_
   rintro e w' ⟨rfl, rfl⟩
   have hn := nanW_nn 0 0 w
   refine ⟨_, rfl, ⟨hn.2, fun h => ?_, fun _ => hn.1⟩, (Below.refl _ _).drew⟩
   unfold nn at h
   have := of_decide_eq_false h
   omega
 ·have hn : nn u = false := by unfold nn; exact decide_eq_false (by omega)
  by_cases h0 : u / 4503599627370496 % 2048 = 0
  ·refine (rFloat_tiny u (u % 4503599627370496) hu (by omega) (by omega) (by omega) w).mono ?_
   rintro e w' ⟨rfl, rfl⟩
   exact ⟨u, rfl, ⟨hu, fun _ => rfl, fun h => absurd (h.symm.trans hn) (by simp)⟩, Below.refl _ _⟩
  ·refine (rFloat_plain u (u / 4503599627370496 % 2048) (u % 4503599627370496) hu (by omega) (by omega) (by omega) (by omega) (by omega) w).mono ?_
   rintro e w' ⟨rfl, rfl⟩
   exact ⟨u, rfl, ⟨hu, fun _ => rfl, fun h => absurd (h.symm.trans hn) (by simp)⟩, Below.refl _ _⟩
end Go.Proofs.YtojhenpaeedimaaGreat
end
section
namespace Go.Proofs.YtojhenpaeedimaaGreat
open Go.RowKit
open Fl
set_option maxRecDepth 100000
/-- how two ints stand -/
def ci (x y : Int) : Int := if x < y then -1 else if y < x then 1 else 0
theorem cmpInt_c (x y : Int) (w : World) :
  Calls Tryz.prog 159 #[.int .i64 x, .int .i64 y] w fun e w' => e = .returned (.int .i64 (ci x y)) ∧ w = w' := by
 rcases Int.lt_trichotomy x y with h | h | h
 ·have hc : ci x y = -1 := by unfold ci; rw [if_pos h]
  rw [hc]
  go_enter Tryz.func159, Tryz.ntmps159
  go_wp2
  go_ret
  exact ⟨rfl, rfl⟩
 ·subst h
  have hc : ci x x = 0 := by unfold ci; rw [if_neg (by omega), if_neg (by omega)]
  rw [hc]
  go_enter Tryz.func159, Tryz.ntmps159
  go_wp2
  go_ret
  exact ⟨rfl, rfl⟩
 ·have hc : ci x y = 1 := by unfold ci; rw [if_neg (by omega), if_pos h]
  rw [hc]
  go_enter Tryz.func159, Tryz.ntmps159
  go_wp2
  go_ret
  exact ⟨rfl, rfl⟩
end Go.Proofs.YtojhenpaeedimaaGreat
end
section
namespace Go.Proofs.YtojhenpaeedimaaGreat
open Go.RowKit
open Fl
set_option maxRecDepth 100000
/-- what 'first' tells of two ways, by what these tell -/
def fr (v1 v2 : Int) : Int := if v1 = 0 then v2 else v1
end Go.Proofs.YtojhenpaeedimaaGreat
end
section
namespace Go.Proofs.YtojhenpaeedimaaGreat
open Go.RowKit
open Fl
set_option maxRecDepth 100000
/-- three blocks, laid one behind the other -/
def three (w : World) (A B C : Array Value) (T T2 : TypeId) : World := ((w.alloc (.cells A T)).alloc (.cells B T)).alloc (.cells C T2)
theorem three_facts (w : World) (A B C : Array Value) (T T2 : TypeId) :
  (∀ j, (three w A B C T T2).cell? ⟨w.heap.size, j, none⟩ = A[j]?) ∧ (∀ j, (three w A B C T T2).cell? ⟨w.heap.size + 1, j, none⟩ = B[j]?) ∧ (∀ j, (three w A B C T T2).cell? ⟨w.heap.size + 1 + 1, j, none⟩ = C[j]?) ∧
  w.heap.size + 1 + 1 < (three w A B C T T2).heap.size ∧ Below w.heap.size w (three w A B C T T2) := by
 have s1 : (w.alloc (.cells A T)).heap.size = w.heap.size + 1 := by simp
 have s2 : ((w.alloc (.cells A T)).alloc (.cells B T)).heap.size = w.heap.size + 1 + 1 := by simp
 have s3 : (three w A B C T T2).heap.size = w.heap.size + 1 + 1 + 1 := by simp [three]
 refine ⟨fun j => ?_, fun j => ?_, fun j => ?_, by omega, ?_⟩
 ·unfold three
  rw [World.cell?_alloc_past _ _ _ (by omega), World.cell?_alloc_past _ _ _ (by omega), World.cell?_alloc_at _ _ _ _ rfl]
 ·unfold three
  rw [World.cell?_alloc_past _ _ _ (by omega), World.cell?_alloc_at _ _ _ _ s1.symm]
 ·unfold three
  rw [World.cell?_alloc_at _ _ _ _ s2.symm]
 ·exact (((Below.refl _ _).alloc (Nat.le_refl _) _).alloc (by omega) _).alloc (by omega) _
end Go.Proofs.YtojhenpaeedimaaGreat
end
section
namespace Go.Proofs.YtojhenpaeedimaaGreat
open Go.RowKit
open Fl
set_option maxRecDepth 100000
theorem ci_lt {x y : Int} (h : x < y) : ci x y = -1 := by unfold ci; rw [if_pos h]
theorem ci_eq (x : Int) : ci x x = 0 := by unfold ci; rw [if_neg (by omega), if_neg (by omega)]
theorem ci_gt {x y : Int} (h : y < x) : ci x y = 1 := by unfold ci; rw [if_neg (by omega), if_pos h]
theorem ci_neg (x y : Int) : decide (ci x y < 0) = decide (x < y) := by
 rcases Int.lt_trichotomy x y with h | h | h
 ·rw [ci_lt h]; exact decide_eq_decide.2 (by omega)
 ·subst h; rw [ci_eq]; exact decide_eq_decide.2 (by omega)
 ·rw [ci_gt h]; exact decide_eq_decide.2 (by omega)
theorem fr_zero (v : Int) : fr 0 v = v := by simp [fr]
end Go.Proofs.YtojhenpaeedimaaGreat
end
section
namespace Go.Proofs.YtojhenpaeedimaaGreat
open Go.RowKit Go.IntWalk
set_option maxRecDepth 100000
attribute [local go_sem] Oper.semAt_some
/-- a row: its child, its parent, its name, its rank -/
abbrev Rw := Int × Int × List UInt8 × Nat
abbrev ch (r : Rw) : Int := r.1
abbrev pa (r : Rw) : Int := r.2.1
abbrev nm (r : Rw) : List UInt8 := r.2.2.1
abbrev rk (r : Rw) : Nat := r.2.2.2
def rv (r : Rw) : Value := .agg #[.int .i64 (ch r), .int .i64 (pa r), .string (ba (nm r)), .float .f64 (rk r)]
theorem Tryz.info157 : (Tryz.prog.info? 157).map (fun i => (i.zero, i.size, i.bytes)) = some (some (.agg #[.int .i64 0, .int .i64 0, .string ByteArray.empty, .float .f64 0]), 4, 40) := by kernel_rfl
end Go.Proofs.YtojhenpaeedimaaGreat
end
section
namespace Go.Proofs.YtojhenpaeedimaaGreat
open Go.RowKit Go.IntWalk
set_option maxRecDepth 100000
attribute [local go_sem] Oper.semAt_some
end Go.Proofs.YtojhenpaeedimaaGreat
end
section
namespace Go.Proofs.YtojhenpaeedimaaGreat
open Go.RowKit Go.IntWalk
open Wd Fl
set_option maxRecDepth 100000
attribute [local go_sem] Oper.semAt_some
theorem ba_beq (a b : List UInt8) : ((ba a).toList == (ba b).toList) = decide (a = b) := by
 rw [ByteArray.toList_eq, ByteArray.toList_eq, ba_list, ba_list]
 by_cases h : a = b <;> simp [h]
def oneP (r : Rw) : Bool := decide (1 ≤ ch r) && (decide (ch r ≤ 2147483647) && (decide (0 ≤ pa r) && (decide (pa r ≤ 2147483647) && (decide ((nm r).length ≤ 64) && valid (nm r)))))
def alikeP (a b : Rw) : Bool := decide (ch a = ch b) && (decide (pa a = pa b) && (decide (nm a = nm b) && ((cb (rk a) : Int) == (cb (rk b) : Int))))
theorem one_c (r : Rw) (hn : (nm r).length ≤ maxLen) (w : World) :
  Calls Tryz.prog 155 #[rv r] w fun e w' => e = .returned (.bool (oneP r)) ∧ Below w.heap.size w w' := by
 obtain ⟨c, p, n, f⟩ := r
 show Calls Tryz.prog 155 #[.agg #[.int .i64 c, .int .i64 p, .string (ba n), .float .f64 f]] w _
 have hs := ba_size n
 have hb := (Below.refl w.heap.size w).alloc (Nat.le_refl _) (.cells #[.int .i64 c, .int .i64 p, .string (ba n), .float .f64 f] 157)
 unfold maxLen at hn
 change n.length ≤ _ at hn
 show Calls _ _ _ _ fun e w' => e = .returned (.bool (decide (1 ≤ c) && (decide (c ≤ 2147483647) && (decide (0 ≤ p) && (decide (p ≤ 2147483647) && (decide (n.length ≤ 64) && valid n)))))) ∧ _
 by_cases h1 : 1 ≤ c
 case neg =>
  have g1 : c < 1 := by omega
  have g1b : ¬ 0 < c := by omega
  rw [decide_eq_false h1, Bool.false_and]
  go_enter Tryz.func155, Tryz.ntmps155
  go_wp2
  go_ret
  exact ⟨rfl, hb⟩
 have q1 : 0 < c := by omega
 by_cases h2 : c ≤ 2147483647
 case neg =>
  have g2 : 2147483647 < c := by omega
  rw [decide_eq_true h1, Bool.true_and, decide_eq_false h2, Bool.false_and]
  go_enter Tryz.func155, Tryz.ntmps155
  go_wp2
  go_ret
  exact ⟨rfl, hb⟩
 by_cases h3 : 0 ≤ p
 case neg =>
  have g3 : p < 0 := by omega
  rw [decide_eq_true h1, Bool.true_and, decide_eq_true h2, Bool.true_and, decide_eq_false h3, Bool.false_and]
  go_enter Tryz.func155, Tryz.ntmps155
  go_wp2
  go_ret
  exact ⟨rfl, hb⟩
 by_cases h4 : p ≤ 2147483647
 case neg =>
  have g4 : 2147483647 < p := by omega
  rw [decide_eq_true h1, Bool.true_and, decide_eq_true h2, Bool.true_and, decide_eq_true h3, Bool.true_and, decide_eq_false h4, Bool.false_and]
  go_enter Tryz.func155, Tryz.ntmps155
  go_wp2
  go_ret
  exact ⟨rfl, hb⟩
 by_cases h5 : n.length ≤ 64
 case neg =>
  have g5 : (64 : Int) < (n.length : Int) := by omega
  have g5b : ¬ (n.length : Int) ≤ 64 := by omega
  rw [decide_eq_true h1, Bool.true_and, decide_eq_true h2, Bool.true_and, decide_eq_true h3, Bool.true_and, decide_eq_true h4, Bool.true_and, decide_eq_false h5, Bool.false_and]
  go_enter Tryz.func155, Tryz.ntmps155
  go_wp2
  go_ret
  exact ⟨rfl, hb⟩
 have q5 : (n.length : Int) ≤ 64 := by omega
 rw [decide_eq_true h1, Bool.true_and, decide_eq_true h2, Bool.true_and, decide_eq_true h3, Bool.true_and, decide_eq_true h4, Bool.true_and, decide_eq_true h5, Bool.true_and]
 go_enter Tryz.func155, Tryz.ntmps155
 go_wp2_with fail
 refine (valid_c n (by omega) _).mono ?_
 rintro e w1 ⟨rfl, rfl⟩
 go_wp2_with fail
 go_ret
 exact ⟨rfl, hb⟩
theorem rone_c (r : Rw) (hn : (nm r).length ≤ maxLen) (w : World) :
  Calls Tryz.prog 137 #[rv r] w fun e w' => e = .returned (.bool (oneP r)) ∧ Below w.heap.size w w' := by
 obtain ⟨c, p, n, f⟩ := r
 show Calls Tryz.prog 137 #[.agg #[.int .i64 c, .int .i64 p, .string (ba n), .float .f64 f]] w _
 have hs := ba_size n
 have hb := (Below.refl w.heap.size w).alloc (Nat.le_refl _) (.cells #[.int .i64 c, .int .i64 p, .string (ba n), .float .f64 f] 157)
 unfold maxLen at hn
 change n.length ≤ _ at hn
 show Calls _ _ _ _ fun e w' => e = .returned (.bool (decide (1 ≤ c) && (decide (c ≤ 2147483647) && (decide (0 ≤ p) && (decide (p ≤ 2147483647) && (decide (n.length ≤ 64) && valid n)))))) ∧ _
 by_cases h1 : 1 ≤ c
 case neg =>
  have g1 : c < 1 := by omega
  have g1b : ¬ 0 < c := by omega
  rw [decide_eq_false h1, Bool.false_and]
  go_enter Tryz.func137, Tryz.ntmps137
  go_wp2
  go_ret
  exact ⟨rfl, hb⟩
 have q1 : 0 < c := by omega
 by_cases h2 : c ≤ 2147483647
 case neg =>
  have g2 : 2147483647 < c := by omega
  rw [decide_eq_true h1, Bool.true_and, decide_eq_false h2, Bool.false_and]
  go_enter Tryz.func137, Tryz.ntmps137
  go_wp2
  go_ret
  exact ⟨rfl, hb⟩
 by_cases h3 : 0 ≤ p
 case neg =>
  have g3 : p < 0 := by omega
  rw [decide_eq_true h1, Bool.true_and, decide_eq_true h2, Bool.true_and, decide_eq_false h3, Bool.false_and]
  go_enter Tryz.func137, Tryz.ntmps137
  go_wp2
  go_ret
  exact ⟨rfl, hb⟩
 by_cases h4 : p ≤ 2147483647
 case neg =>
  have g4 : 2147483647 < p := by omega
  rw [decide_eq_true h1, Bool.true_and, decide_eq_true h2, Bool.true_and, decide_eq_true h3, Bool.true_and, decide_eq_false h4, Bool.false_and]
  go_enter Tryz.func137, Tryz.ntmps137
  go_wp2
  go_ret
  exact ⟨rfl, hb⟩
 by_cases h5 : n.length ≤ 64
 case neg =>
  have g5 : (64 : Int) < (n.length : Int) := by omega
  have g5b : ¬ (n.length : Int) ≤ 64 := by omega
  rw [decide_eq_true h1, Bool.true_and, decide_eq_true h2, Bool.true_and, decide_eq_true h3, Bool.true_and, decide_eq_true h4, Bool.true_and, decide_eq_false h5, Bool.false_and]
  go_enter Tryz.func137, Tryz.ntmps137
  go_wp2
  go_ret
  exact ⟨rfl, hb⟩
 have q5 : (n.length : Int) ≤ 64 := by omega
 rw [decide_eq_true h1, Bool.true_and, decide_eq_true h2, Bool.true_and, decide_eq_true h3, Bool.true_and, decide_eq_true h4, Bool.true_and, decide_eq_true h5, Bool.true_and]
 go_enter Tryz.func137, Tryz.ntmps137
 go_wp2_with fail
 refine (rValid_c n (by omega) _).mono ?_
 rintro e w1 ⟨rfl, rfl⟩
 go_wp2_with fail
 go_ret
 exact ⟨rfl, hb⟩
set_option maxHeartbeats 1000000 in
theorem alike_c (a b : Rw) (ha : rk a < 18446744073709551616) (hb : rk b < 18446744073709551616) (w : World) :
  Calls Tryz.prog 149 #[rv a, rv b] w fun e w' => e = .returned (.bool (alikeP a b)) ∧ Below w.heap.size w w' := by
 obtain ⟨c1, p1, n1, f1⟩ := a
 obtain ⟨c2, p2, n2, f2⟩ := b
 show Calls Tryz.prog 149 #[.agg #[.int .i64 c1, .int .i64 p1, .string (ba n1), .float .f64 f1], .agg #[.int .i64 c2, .int .i64 p2, .string (ba n2), .float .f64 f2]] w _
 have hbw := ((Below.refl w.heap.size w).alloc (Nat.le_refl _) (.cells #[.int .i64 c1, .int .i64 p1, .string (ba n1), .float .f64 f1] 157)).alloc (by simp) (.cells #[.int .i64 c2, .int .i64 p2, .string (ba n2), .float .f64 f2] 157)
 show Calls _ _ _ _ fun e w' => e = .returned (.bool (decide (c1 = c2) && (decide (p1 = p2) && (decide (n1 = n2) && ((cb f1 : Int) == (cb f2 : Int)))))) ∧ _
 change f1 < _ at ha
 change f2 < _ at hb
 have hst := ba_beq n1 n2
 by_cases h1 : c1 = c2
 case neg =>
  have g : (c1 == c2) = false := by simpa using h1
  rw [decide_eq_false h1, Bool.false_and]
  clear hst
  go_enter Tryz.func149, Tryz.ntmps149
  go_wp2
  go_ret
  exact ⟨rfl, hbw⟩
 by_cases h2 : p1 = p2
 case neg =>
  have g1 : (c1 == c2) = true := by simpa using h1
  have g : (p1 == p2) = false := by simpa using h2
  rw [decide_eq_true h1, Bool.true_and, decide_eq_false h2, Bool.false_and]
  clear hst h1
  go_enter Tryz.func149, Tryz.ntmps149
  go_wp2
  go_ret
  exact ⟨rfl, hbw⟩
 by_cases h3 : n1 = n2
 case neg =>
  have g1 : (c1 == c2) = true := by simpa using h1
  have g2 : (p1 == p2) = true := by simpa using h2
  rw [decide_eq_false h3] at hst
  rw [decide_eq_true h1, Bool.true_and, decide_eq_true h2, Bool.true_and, decide_eq_false h3, Bool.false_and]
  clear h1 h2
  go_enter Tryz.func149, Tryz.ntmps149
  go_wp2
  go_ret
  exact ⟨rfl, hbw⟩
 have g1 : (c1 == c2) = true := by simpa using h1
 have g2 : (p1 == p2) = true := by simpa using h2
 rw [decide_eq_true h3] at hst
 rw [decide_eq_true h1, Bool.true_and, decide_eq_true h2, Bool.true_and, decide_eq_true h3, Bool.true_and]
 clear h1 h2 h3
 go_enter Tryz.func149, Tryz.ntmps149
 go_wp2_with fail
 refine (rSame_c f1 f2 ha hb _).mono ?_
 rintro e w1 ⟨rfl, rfl⟩
 go_wp2_with fail
 go_ret
 exact ⟨rfl, hbw⟩
end Go.Proofs.YtojhenpaeedimaaGreat
end
section
namespace Go.Proofs.YtojhenpaeedimaaGreat
open Go.RowKit Go.IntWalk
open Wd Fl
set_option maxRecDepth 100000
attribute [local go_sem] Oper.semAt_some
end Go.Proofs.YtojhenpaeedimaaGreat
end
section
namespace Go.Proofs.YtojhenpaeedimaaGreat
open Go.RowKit Go.IntWalk
set_option maxRecDepth 100000
attribute [local go_sem] Oper.semAt_some
theorem at_news {w : World} {B b o : Nat} {xs : List Value} (h : At w B (some ⟨b, o, none⟩) xs) : ∀ j u, xs[j]? = some u → w.cell? ((⟨b, o, none⟩ : Addr).add j) = some u := by
 intro j u hu
 obtain ⟨b', o', e, _, hc⟩ := h j u hu
 cases e
 rw [Go.WideShapes.add_plain]
 exact hc
theorem below_own {B : Nat} {w w1 w2 : World} {v : Value} {e : TypeId} {size n : Nat} {xs : List Value} (hb : Below B w w1) (hB : B ≤ w1.heap.size) (hown : w1.ownsRow B e size v n xs) (hg : w1.grownBy w2 v.ownBlock) : Below B w w2 :=
 hb.grown hg hB (fun k hk => (hown.lt k hk).1)
end Go.Proofs.YtojhenpaeedimaaGreat
end
section
namespace Go.Proofs.YtojhenpaeedimaaGreat
open Go.RowKit Go.IntWalk
set_option maxRecDepth 100000
attribute [local go_sem] Oper.semAt_some
end Go.Proofs.YtojhenpaeedimaaGreat
end
section
namespace Go.Proofs.YtojhenpaeedimaaGreat
open Go.RowKit Go.IntWalk
set_option maxRecDepth 100000
attribute [local go_sem] Oper.semAt_some
end Go.Proofs.YtojhenpaeedimaaGreat
end
section
namespace Go.Proofs.YtojhenpaeedimaaGreat
open Go.RowKit Go.IntWalk
set_option maxRecDepth 100000
attribute [local go_sem] Oper.semAt_some
end Go.Proofs.YtojhenpaeedimaaGreat
end
section
namespace Go.Proofs.YtojhenpaeedimaaGreat
open Go.RowKit Go.IntWalk
set_option maxRecDepth 100000
attribute [local go_sem] Oper.semAt_some
end Go.Proofs.YtojhenpaeedimaaGreat
end
section
namespace Go.Proofs.YtojhenpaeedimaaGreat
open Go.RowKit Go.IntWalk
set_option maxRecDepth 100000
attribute [local go_sem] Oper.semAt_some
end Go.Proofs.YtojhenpaeedimaaGreat
end
section
namespace Go.Proofs.YtojhenpaeedimaaGreat
open Go.RowKit Go.IntWalk
set_option maxRecDepth 100000
attribute [local go_sem] Oper.semAt_some
/-- a region that only reads but for calls that keep C -/
theorem quiet_held {P : Program} {id : Nat} {Q : Exit → Act → World → Prop} {a : Act} {w : World} {l : List Oper} (C : World → Prop) (hm : P.follows .mixedOrders = true) (hB : Region.lexB .any l.toArray = true) (hC : C w.drew)
  (h : wpQuiet P l.toArray C (fun a' => ∀ w', C w' → Q .normal a' w') l a) : (Code.region id l.toArray true).wp P Q a w :=
 wp_region_quiet (C := C) hm hB hC (by simpa using h)
end Go.Proofs.YtojhenpaeedimaaGreat
end
section
namespace Go.Proofs.YtojhenpaeedimaaGreat
open Go.RowKit Go.IntWalk
set_option maxRecDepth 100000
attribute [local go_sem] Oper.semAt_some
theorem Tryz.info3 : (Tryz.prog.info? 3).map (fun i => (i.zero, i.size, i.bytes)) = some (some (.int .i64 0), 1, 8) := by kernel_rfl
theorem below_ownI {w1 w2 : World} {B size n : Nat} {e : TypeId} {v : Value} {xs : List Value} (h : w1.ownsRow B e size v n xs) (hb : Below w1.heap.size w1 w2) : w2.ownsRow B e size v n xs := by
 refine ⟨h.1, ?_⟩
 rcases h.2 with h2 | ⟨g, cap, cur, hv, hg, hh, r⟩
 ·exact .inl h2
 ·exact .inr ⟨g, cap, cur, hv, hg, by rw [hb.block g (Array.getElem?_eq_some_iff.1 hh).1]; exact hh, r⟩
end Go.Proofs.YtojhenpaeedimaaGreat
end
section
namespace Go.Proofs.YtojhenpaeedimaaGreat
namespace Dl
open Go.RowKit
open Pk
set_option maxRecDepth 100000
attribute [local go_sem] Oper.semAt_some
theorem prs_at {a : Int} {l : List Int} {k : Nat} {x : Int} (h : l[k]? = some x) : prs a (l.drop k) = (a, x) :: prs x (l.drop (k + 1)) := by
 rw [drop_at_cons h]; rfl
set_option maxHeartbeats 2000000 in
/-- the iterator: each number with the one ahead, for every loop body that keeps what lay below n₀ -/
theorem steps1_in (F : Fence) (n : Nat) (h59 : F.fn 200) (hro : F.round = none) (hn : 1 ≤ n) (l Bf Bs n₀ : Nat) (A : Option Addr) (cap : Nat) (a0 : Int) (xs : List Int) (hx : xs.length ≤ maxLen) (J Jx : List (Int × Int) → World → Prop)
  (hY : ∀ pre x W, J pre W → pre.length < xs.length → YieldAt F (n - 1) Tryz.prog l #[.int .i64 x.1, .int .i64 x.2] W fun e W' =>
   (e = .returned (.bool true) ∧ J (pre ++ [x]) W' ∧ Below n₀ W W') ∨ (e = .returned (.bool false) ∧ Jx (pre ++ [x]) W'))
  (W : World) (hBf : W.cell? ⟨Bf, 0, none⟩ = some (.int .i64 a0)) (hBs : W.cell? ⟨Bs, 0, none⟩ = some (.slice A xs.length cap)) (hc : At W n₀ A (ivs xs)) (h0 : J [] W) :
  CallsIn F n Tryz.prog 200 #[.func (.yield l) #[] #[], .pointer (some ⟨Bf, 0, none⟩), .pointer (some ⟨Bs, 0, none⟩)] W fun e W' => (∃ v, e = .returned v) ∧
   ((∃ ys, ys = prs a0 xs ∧ J ys W') ∨ (∃ pre, pre <+: prs a0 xs ∧ Jx pre W')) := by
 have HC := Lib.hid hc
 unfold maxLen at hx
 clear hc
 refine callsIn_of_wp Tryz.func200 rfl h59 ?_ hro
 simp only [Tryz.ntmps200, List.size_toArray, List.length_cons, List.length_nil, Nat.reduceAdd, Nat.reduceSub, Array.replicate_succ, Array.replicate_zero, List.push_toArray, List.append_toArray, List.nil_append, List.cons_append]
 gi_wp2
 gi_loopw [4, 10] (fun a i wr => ∃ (k : Nat) (ahead : Int) (pre : List (Int × Int)), a = .int .i64 ahead ∧ i = .int .i64 k ∧ k ≤ xs.length ∧ pre.length = k ∧ pre ++ prs ahead (xs.drop k) = prs a0 xs ∧ J pre wr ∧ Below n₀ W wr)
  (fun _ i _ => xs.length - (Go.RowKit.intOf i).toNat)
 case atStart => exact ⟨0, a0, [], rfl, rfl, Nat.zero_le _, rfl, rfl, h0, Below.refl _ _⟩
 case round =>
  obtain ⟨k, ahead, pre, rfl, rfl, hk, hpl, hpre, hJs, hnx⟩ := hrel
  have HP := Lib.hid hpre
  clear hpre
  by_cases hlt : k < xs.length
  ·obtain ⟨x, hxk⟩ := some_at hlt
   obtain ⟨b, off, rfl, hbl, hcell⟩ := (HC.out.below hnx) k _ (ivs_at hxk)
   have HX := Lib.hid hxk
   clear hxk
   obtain ⟨fn, tmps, assign, body, hy, hR⟩ := hY pre (ahead, x) wr hJs (by rw [hpl]; exact hlt)
   dsimp only at hy
   gi_wp2
   refine hR.mono ?_
   rintro e W3 (⟨rfl, hJ3, hk3⟩ | ⟨rfl, hJx3⟩)
   ·gi_wp2
    go_roundw
    case rel => exact ⟨k + 1, x, pre ++ [(ahead, x)], rfl, by simp, by omega, by simp [hpl], by rw [← HP.out, prs_at HX.out]; simp, hJ3, hnx.trans hk3⟩
    case measure => simp [Go.RowKit.intOf]; omega
   ·gi_wp2
    refine bodyPost_ret (results_none rfl _ _ _) rfl ?_
    exact ⟨⟨_, rfl⟩, .inr ⟨pre ++ [(ahead, x)], ⟨prs x (xs.drop (k + 1)), by rw [← HP.out, prs_at HX.out]; simp⟩, hJx3⟩⟩
  ·obtain rfl : k = xs.length := by omega
   gi_wp2
   go_end0
   exact ⟨⟨_, rfl⟩, .inl ⟨_, by rw [← HP.out, List.drop_length]; simp [prs], hJs⟩⟩
set_option maxHeartbeats 1000000 in
theorem steps_in (F : Fence) (n : Nat) (h40 : F.fn 161) (hro : F.round = none) (a : Int) (A : Option Addr) (len cap : Nat) (w : World) :
  CallsIn F n Tryz.prog 161 #[.int .i64 a, .slice A len cap] w fun e w' => e = .returned (.func (.func 200) #[] #[.pointer (some ⟨w.heap.size, 0, none⟩), .pointer (some ⟨w.heap.size + 1, 0, none⟩)]) ∧
   w' = (w.alloc (.cells #[.int .i64 a] 3)).alloc (.cells #[.slice A len cap] 57) := by
 refine callsIn_of_wp Tryz.func161 rfl h40 ?_ hro
 simp only [Tryz.ntmps161, List.size_toArray, List.length_cons, List.length_nil, Nat.reduceAdd, Nat.reduceSub, Array.replicate_succ, Array.replicate_zero, List.push_toArray, List.append_toArray, List.nil_append, List.cons_append]
 gi_wp2
 go_ret
 exact ⟨rfl, rfl⟩
theorem steps_stops (F : Fence) (n : Nat) (h59 : F.fn 200) (hro : F.round = none) (hn : 1 ≤ n) (Bf Bs n₀ : Nat) (A : Option Addr) (cap : Nat) (a0 : Int) (xs : List Int) (hx : xs.length ≤ maxLen) (w : World)
  (hn₀ : n₀ ≤ w.heap.size) (hf : w.cell? ⟨Bf, 0, none⟩ = some (.int .i64 a0)) (hs : w.cell? ⟨Bs, 0, none⟩ = some (.slice A xs.length cap)) (hc : At w n₀ A (ivs xs)) :
  SeqStopsK F n Tryz.prog 200 #[.pointer (some ⟨Bf, 0, none⟩), .pointer (some ⟨Bs, 0, none⟩)] (fun x : Int × Int => #[Value.int .i64 x.1, Value.int .i64 x.2]) (Below n₀) (fun ys => ys = prs a0 xs) (fun pre => pre <+: prs a0 xs) xs.length w := fun l J Jx W hW _ _ hY h0 =>
 steps1_in F n h59 hro hn l Bf Bs n₀ A cap a0 xs hx J Jx hY W ((hW.cell (p := ⟨Bf, 0, none⟩) (World.block_lt_of_cell? _ _ hf)).trans hf) ((hW.cell (p := ⟨Bs, 0, none⟩) (World.block_lt_of_cell? _ _ hs)).trans hs) (hc.below (hW.mono hn₀)) h0
theorem Tryz.info3 : (Tryz.prog.info? 3).map (fun i => (i.zero, i.size, i.bytes)) = some (some (.int .i64 0), 1, 8) := by kernel_rfl
def dpre (pre : List (Int × Int)) : List Int := pre.map fun p => w64 (p.2 - p.1)
set_option maxHeartbeats 2000000 in
theorem deltas_in (F : Fence) (n : Nat) (h15 : F.fn 94) (h40 : F.fn 161) (h59 : F.fn 200) (hro : F.round = none) (hn : 3 ≤ n) (A : Option Addr) (cap : Nat) (xs : List Int) (hx : xs.length ≤ 100000) (w : World) (hc : At w w.heap.size A (ivs xs)) :
  CallsIn F n Tryz.prog 94 #[.slice A xs.length cap] w fun e W' => ∃ v, e = .returned v ∧ W'.ownsRow w.heap.size 3 1 v (dl 0 xs).length (ivs (dl 0 xs)) ∧ Below w.heap.size w W' := by
 have h1 : 1 ≤ n := by omega
 obtain ⟨i0, hi, hz0, hz1, hz2⟩ := info_parts Tryz.info3
 have HC := Lib.hid hc
 clear hc
 refine callsIn_of_wp_marks Tryz.func94 rfl h15 ?_ hro
 simp only [Tryz.ntmps94, List.size_toArray, List.length_cons, List.length_nil, Nat.reduceAdd, Nat.reduceSub, Array.replicate_succ, Array.replicate_zero, List.push_toArray, List.append_toArray, List.nil_append, List.cons_append]
 have hbx : i0.bytes * xs.length ≤ 281474976710656 := by rw [hz2]; omega
 have hmx : xs.length ≤ maxLen := by unfold maxLen; omega
 gi_wp2_with (gi_at_make; refine wpListIn_make_own _ rfl _ _ 57 rfl w.heap.size 3 i0 (.int .i64 0) 1 Tryz.underlying57 hi hz0 hz1 .i64 .i64 _ xs.length rfl rfl rfl hbx hmx (Nat.le_refl _) ?_; intro w1 hown1 hgrow1)
 have bO := Boxed.new w1 57 (.slice (some ⟨w.heap.size, 0, none⟩) 0 xs.length)
 have hW0 : Below w.heap.size w (w1.alloc (.cells #[.slice (some ⟨w.heap.size, 0, none⟩) 0 xs.length] 57)) := ((Below.refl _ w).grown hgrow1 (Nat.le_refl _) (fun k e => by cases e)).alloc hgrow1.size _
 have hown0 := hown1.alloc (.cells #[.slice (some ⟨w.heap.size, 0, none⟩) 0 xs.length] 57)
 obtain ⟨B, hB⟩ : ∃ B, B = w1.heap.size := ⟨_, rfl⟩
 obtain ⟨W0, hW⟩ : ∃ W0, W0 = w1.alloc (.cells #[.slice (some ⟨w.heap.size, 0, none⟩) 0 xs.length] 57) := ⟨_, rfl⟩
 have hsz : W0.heap.size = B + 1 := by rw [hW, hB]; simp
 have hwB : w.heap.size ≤ B := by rw [hB]; exact hgrow1.size
 rw [← hW, ← hB]
 rw [← hW] at bO hW0 hown0
 rw [← hB] at bO
 clear hW hB hown1 hgrow1 hbx
 refine (steps_in F (n - 1) h40 hro _ _ _ _ _).mono ?_
 rintro e W1 ⟨rfl, hW1⟩
 have hf := Boxed.new W0 3 (.int .i64 0)
 have hs := Boxed.new (W0.alloc (.cells #[.int .i64 0] 3)) 57 (.slice A xs.length cap)
 rw [World.size_alloc] at hs
 have hf1 := (hf.alloc (.cells #[.slice A xs.length cap] 57)).cell
 have hs1 := hs.cell
 have bO1 := (bO.alloc (.cells #[.int .i64 0] 3)).alloc (.cells #[.slice A xs.length cap] 57)
 have hown2 := (hown0.alloc (.cells #[.int .i64 0] 3)).alloc (.cells #[.slice A xs.length cap] 57)
 have hbw1 : Below w.heap.size w W1 := by rw [hW1]; exact (hW0.alloc hW0.size _).alloc (by simp; omega) _
 rw [← hW1] at hf1 hs1 bO1 hown2
 have hsz1 : W1.heap.size = B + 3 := by rw [hW1]; simp [hsz]
 clear hf hs bO hown0 hW1
 rw [hsz] at hf1 hs1
 rw [hsz]
 gi_wp2
 refine wpIn_rangeFunc_ownG hro h1 (gf := 200) (lb := #[.pointer (some ⟨B + 1, 0, none⟩), .pointer (some ⟨B + 1 + 1, 0, none⟩)]) rfl h59 (enters_of Tryz.func200 (by kernel_rfl) rfl)
  (steps_stops F (n - 1) h59 hro (by omega) (B + 1) (B + 1 + 1) w.heap.size A cap 0 xs hmx W1 hbw1.size hf1 hs1 (HC.out.below hbw1)) belowK_t (belowK_b hbw1.size) (Below.refl _ _) (fun _ => rfl)
  (fun pre W => (∃ v, Boxed W B 57 v ∧ W.ownsRow w.heap.size 3 1 v (dpre pre).length (ivs (dpre pre)) ∧ True) ∧ Below w.heap.size w W)
  (fun _ _ _ => False)
  (OwnFrom.and (Own.from (holdsRow_own w.heap.size B 57 3 1 (fun pre => (dpre pre).length) (fun pre => ivs (dpre pre)) (fun _ _ => True)) _) (ownFrom_below (Nat.le_refl _) (by omega)))
  (fun _ _ _ _ _ hs _ _ => hs)
  ⟨⟨_, bO1, hown2, trivial⟩, hbw1⟩
  (fun x => { tmps := #[.slice A xs.length cap, undef, .slice none 0 0, .pointer (some ⟨B, 0, none⟩), .int .i64 x.1, .int .i64 x.2, .slice A xs.length cap, .int .i64 (xs.length : Int), .slice (some ⟨w.heap.size, 0, none⟩) 0 xs.length, .slice A xs.length cap,
   .func (.func 200) #[] #[.pointer (some ⟨B + 1, 0, none⟩), .pointer (some ⟨B + 1 + 1, 0, none⟩)], .int .i64 x.1, .int .i64 x.2, undef, undef, undef, undef, undef, undef, undef], defers := [] }) ?assign ?body ?done ?stop
 case assign =>
  intro l x W K hK
  gi_wp2
  exact hK
 case body =>
  rintro l pre x W ⟨⟨v, hv, hrow, -⟩, hB⟩ hlt
  have hcv := hv.cell
  have hpl : (dpre pre).length ≤ pre.length := by simp [dpre]
  have hbs := hB.size
  gi_wp2_with (gi_at_builtin; refine wpListIn_append_own _ rfl _ _ 57 rfl w.heap.size 3 i0 (.int .i64 0) 1 8 Tryz.underlying57 hi hz0 hz1 hz2 rfl (by decide) _ _ _ rfl (hrow.alloc _) ⟨W.heap.size, 0, none⟩ 1 1 [.int .i64 (wrap64 (x.2 - x.1))] rfl rfl (cell_one_new _ _ _) (by simp [Value.oneCell']) (by unfold maxLen; omega) (by omega) (by simp; omega) ?_; intro v' w2 hown' hgrow _; obtain ⟨g', cap', rfl⟩ := ownsRow_succ hown'; obtain ⟨hv1, hv2, hr2, hk2, hb2⟩ := hv.appended (by decide) hrow hbs hwB hown' hgrow; have hc1 := hv1.cell; have hf1 := hv1.frozen)
  refine ⟨hk2.from _, hb2, ⟨_, hv2, ?_, trivial⟩, hB.trans hb2⟩
  have e1 : dpre (pre ++ [x]) = dpre pre ++ [wrap64 (x.2 - x.1)] := by simp [dpre, w64, wrap64]
  have e2 : ivs (dpre (pre ++ [x])) = ivs (dpre pre) ++ [.int .i64 (wrap64 (x.2 - x.1))] := by rw [e1]; simp [ivs]
  rw [e2, e1, List.length_append, List.length_singleton]
  exact hr2
 case done =>
  rintro D ys W hD rfl ⟨⟨v, hv, hrow, -⟩, hB⟩ hK
  have hcv := hv.cell
  gi_wp2
  refine ⟨by simp, .inl ⟨_, _, rfl, run_takeDeferred hK, ?_⟩⟩
  exact ⟨_, results_tmp rfl _ _ _, v, rfl, ownsRow_putObj hrow _ hK rfl, hB.trans (belowK_b (w := w) (Nat.le_refl _) W D _ _ (by omega) hK rfl rfl)⟩
 case stop =>
  rintro D c pre W _ _ h _
  exact h.elim
theorem deltas_c (A : Option Addr) (cap : Nat) (xs : List Int) (hx : xs.length ≤ 100000) (w : World) (hc : At w w.heap.size A (ivs xs)) :
  Calls Tryz.prog 94 #[.slice A xs.length cap] w fun e w' => ∃ A' cap', e = .returned (.slice A' xs.length cap') ∧ xs.length ≤ cap' ∧ Fresh w.heap.size A' ∧ At w' w'.heap.size A' (ivs (dl 0 xs)) ∧ Below w.heap.size w w' := by
 refine ((callsIn_wide (n := 3)).1 (deltas_in Fence.wide 3 trivial trivial trivial rfl (Nat.le_refl _) A cap xs hx w hc)).mono ?_
 rintro e w' ⟨v, rfl, hown, hb⟩
 obtain ⟨A', cap', rfl, ha, hfr, hcp⟩ := own_at hown
 rw [dl_len] at hcp ⊢
 exact ⟨A', cap', rfl, hcp, hfr, ha, hb⟩
end Dl
end Go.Proofs.YtojhenpaeedimaaGreat
end
