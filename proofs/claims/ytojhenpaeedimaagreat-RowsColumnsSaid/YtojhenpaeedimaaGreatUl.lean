/-
 Moves held against each other: the program's.
 Moves held against each other, and few moves: the document's.
-/
import Derived.Test.YtojhenpaeedimaaGreatZe
import Derived.Test.YtojhenpaeedimaaGreatTl
import Derived.Deep.RegionHeldLaw
section
namespace Go.Proofs.YtojhenpaeedimaaGreat
open Go.RowKit Go.IntWalk
open Wd Fl
set_option maxRecDepth 100000
attribute [local go_sem] Oper.semAt_some
end Go.Proofs.YtojhenpaeedimaaGreat
end
section
namespace Go.Proofs.YtojhenpaeedimaaGreat
open Go.RowKit Go.IntWalk
open Wd Fl
set_option maxRecDepth 100000
attribute [local go_sem] Oper.semAt_some
theorem rmrow_k (m : Mv) (w : World) :
  Calls Tryz.prog 138 #[.agg #[.int .i64 (mc m), .int .i64 (mr m), .int .i64 (pa (mw m)), .int .i64 (ch (mw m)), .string (ba (nm (mw m))), .float .f64 (rk (mw m))]] w fun e w' => e = .returned (.agg #[.int .i64 (ch (mw m)), .int .i64 (pa (mw m)), .string (ba (nm (mw m))), .float .f64 (rk (mw m))]) ∧ Below w.heap.size w w' := rmrow_c m w
theorem ralike_k {a b : Mv} {q : Bool} (h : alikeP (mw a) (mw b) = q) (ha : rk (mw a) < 18446744073709551616) (hb : rk (mw b) < 18446744073709551616) (w : World) :
  Calls Tryz.prog 149 #[.agg #[.int .i64 (ch (mw a)), .int .i64 (pa (mw a)), .string (ba (nm (mw a))), .float .f64 (rk (mw a))], .agg #[.int .i64 (ch (mw b)), .int .i64 (pa (mw b)), .string (ba (nm (mw b))), .float .f64 (rk (mw b))]] w fun e w' => e = .returned (.bool q) ∧ Below w.heap.size w w' := by
 subst h
 exact alike_c (mw a) (mw b) ha hb w
theorem two_keep {w w1 w2 : World} {G K : Nat} {t : TypeId} {vs us : List Value} (h : Is w1 G t vs ∧ Is w1 K t us ∧ Below w.heap.size w w1) (hb : Below w1.heap.size w1 w2) : Is w2 G t vs ∧ Is w2 K t us ∧ Below w.heap.size w w2 :=
 ⟨is_below h.1 hb (is_lt h.1), is_below h.2.1 hb (is_lt h.2.1), h.2.2.trans (hb.mono h.2.2.size)⟩
theorem two_start (w : World) (a b : Mv) : Is ((w.alloc (.cells #[.int .i64 (mc a), .int .i64 (mr a), .int .i64 (pa (mw a)), .int .i64 (ch (mw a)), .string (ba (nm (mw a))), .float .f64 (rk (mw a))] 51)).alloc (.cells #[.int .i64 (mc b), .int .i64 (mr b), .int .i64 (pa (mw b)), .int .i64 (ch (mw b)), .string (ba (nm (mw b))), .float .f64 (rk (mw b))] 51)).drew w.heap.size 51 [.int .i64 (mc a), .int .i64 (mr a), .int .i64 (pa (mw a)), .int .i64 (ch (mw a)), .string (ba (nm (mw a))), .float .f64 (rk (mw a))] ∧ Is ((w.alloc (.cells #[.int .i64 (mc a), .int .i64 (mr a), .int .i64 (pa (mw a)), .int .i64 (ch (mw a)), .string (ba (nm (mw a))), .float .f64 (rk (mw a))] 51)).alloc (.cells #[.int .i64 (mc b), .int .i64 (mr b), .int .i64 (pa (mw b)), .int .i64 (ch (mw b)), .string (ba (nm (mw b))), .float .f64 (rk (mw b))] 51)).drew (w.heap.size + 1) 51 [.int .i64 (mc b), .int .i64 (mr b), .int .i64 (pa (mw b)), .int .i64 (ch (mw b)), .string (ba (nm (mw b))), .float .f64 (rk (mw b))] ∧ Below w.heap.size w ((w.alloc (.cells #[.int .i64 (mc a), .int .i64 (mr a), .int .i64 (pa (mw a)), .int .i64 (ch (mw a)), .string (ba (nm (mw a))), .float .f64 (rk (mw a))] 51)).alloc (.cells #[.int .i64 (mc b), .int .i64 (mr b), .int .i64 (pa (mw b)), .int .i64 (ch (mw b)), .string (ba (nm (mw b))), .float .f64 (rk (mw b))] 51)).drew := by
 have h1 : Is (w.alloc (.cells #[.int .i64 (mc a), .int .i64 (mr a), .int .i64 (pa (mw a)), .int .i64 (ch (mw a)), .string (ba (nm (mw a))), .float .f64 (rk (mw a))] 51)) w.heap.size 51 [.int .i64 (mc a), .int .i64 (mr a), .int .i64 (pa (mw a)), .int .i64 (ch (mw a)), .string (ba (nm (mw a))), .float .f64 (rk (mw a))] := is_new w 51 [.int .i64 (mc a), .int .i64 (mr a), .int .i64 (pa (mw a)), .int .i64 (ch (mw a)), .string (ba (nm (mw a))), .float .f64 (rk (mw a))]
 have h2 : Is ((w.alloc (.cells #[.int .i64 (mc a), .int .i64 (mr a), .int .i64 (pa (mw a)), .int .i64 (ch (mw a)), .string (ba (nm (mw a))), .float .f64 (rk (mw a))] 51)).alloc (.cells #[.int .i64 (mc b), .int .i64 (mr b), .int .i64 (pa (mw b)), .int .i64 (ch (mw b)), .string (ba (nm (mw b))), .float .f64 (rk (mw b))] 51)) (w.alloc (.cells #[.int .i64 (mc a), .int .i64 (mr a), .int .i64 (pa (mw a)), .int .i64 (ch (mw a)), .string (ba (nm (mw a))), .float .f64 (rk (mw a))] 51)).heap.size 51 [.int .i64 (mc b), .int .i64 (mr b), .int .i64 (pa (mw b)), .int .i64 (ch (mw b)), .string (ba (nm (mw b))), .float .f64 (rk (mw b))] := is_new (w.alloc (.cells #[.int .i64 (mc a), .int .i64 (mr a), .int .i64 (pa (mw a)), .int .i64 (ch (mw a)), .string (ba (nm (mw a))), .float .f64 (rk (mw a))] 51)) 51 [.int .i64 (mc b), .int .i64 (mr b), .int .i64 (pa (mw b)), .int .i64 (ch (mw b)), .string (ba (nm (mw b))), .float .f64 (rk (mw b))]
 rw [World.size_alloc] at h2
 exact ⟨is_below h1 (((Below.refl _ _).alloc (Nat.le_refl _) (.cells #[.int .i64 (mc b), .int .i64 (mr b), .int .i64 (pa (mw b)), .int .i64 (ch (mw b)), .string (ba (nm (mw b))), .float .f64 (rk (mw b))] 51)).drew) (is_lt h1), h2, (((Below.refl _ _).alloc (Nat.le_refl _) (.cells #[.int .i64 (mc a), .int .i64 (mr a), .int .i64 (pa (mw a)), .int .i64 (ch (mw a)), .string (ba (nm (mw a))), .float .f64 (rk (mw a))] 51)).alloc (by simp) (.cells #[.int .i64 (mc b), .int .i64 (mr b), .int .i64 (pa (mw b)), .int .i64 (ch (mw b)), .string (ba (nm (mw b))), .float .f64 (rk (mw b))] 51)).drew⟩
section
set_option maxHeartbeats 4000000 in
theorem rmalike_c (a b : Mv) (ha : rk (mw a) < 18446744073709551616) (hb : rk (mw b) < 18446744073709551616) (w : World) :
  Calls Tryz.prog 82 #[.agg #[.int .i64 (mc a), .int .i64 (mr a), .int .i64 (pa (mw a)), .int .i64 (ch (mw a)), .string (ba (nm (mw a))), .float .f64 (rk (mw a))], .agg #[.int .i64 (mc b), .int .i64 (mr b), .int .i64 (pa (mw b)), .int .i64 (ch (mw b)), .string (ba (nm (mw b))), .float .f64 (rk (mw b))]] w fun e w' => e = .returned (.bool (alikeM a b)) ∧ Below w.heap.size w w' := by
 have hst := two_start w a b
 unfold alikeM timeEq
 obtain ⟨q, hq⟩ : ∃ q, alikeP (mw a) (mw b) = q := ⟨_, rfl⟩
 rw [hq]
 have HQ := Lib.hid hq
 have HST := Lib.hid hst
 clear hq hst
 by_cases h1 : mc a = mc b
 case neg =>
  rw [decide_eq_false h1, Bool.false_and, Bool.false_and]
  have HH1 := Lib.hid h1
  clear h1
  go_enter Tryz.func82, Tryz.ntmps82
  go_wp2_with fail
  refine quiet_held (fun w' => Is w' w.heap.size 51 [.int .i64 (mc a), .int .i64 (mr a), .int .i64 (pa (mw a)), .int .i64 (ch (mw a)), .string (ba (nm (mw a))), .float .f64 (rk (mw a))] ∧ Is w' (w.heap.size + 1) 51 [.int .i64 (mc b), .int .i64 (mr b), .int .i64 (pa (mw b)), .int .i64 (ch (mw b)), .string (ba (nm (mw b))), .float .f64 (rk (mw b))] ∧ Below w.heap.size w w') (by kernel_rfl) (by kernel_rfl) HST.out ?_
  repeat (first
   | go_big_quiet_skip
   | (go_big_quiet_want; go_big_quiet_op; go_big_quiet_on)
   | (go_big_quiet_want; apply Exists.intro; refine ⟨fun wq hq => ?_, ?_⟩; (focus (obtain ⟨p0, p1, p2, p3, p4, p5⟩ := box6 (m := a) hq.1; obtain ⟨r0, r1, r2, r3, r4, r5⟩ := box6 (m := b) hq.2.1; unfold Oper.quietAt; go_simp; all_goals (first | rfl | (rw [if_neg HH1.out]; exact ⟨rfl, rfl⟩)))); simp only [Act.put, List.setIfInBounds_toArray, List.set_cons_zero, List.set_cons_succ]; go_big_quiet_on))
  refine wpQuiet_nil ?_
  intro wq hq
  obtain ⟨-, -, hwq⟩ := hq
  go_wp2_with fail
  go_ret
  exact ⟨rfl, hwq⟩
 by_cases h2 : mr a = mr b
 case neg =>
  rw [decide_eq_false h2, Bool.and_false, Bool.false_and]
  have HH1 := Lib.hid h1
  have HH2 := Lib.hid h2
  clear h1 h2
  go_enter Tryz.func82, Tryz.ntmps82
  go_wp2_with fail
  refine quiet_held (fun w' => Is w' w.heap.size 51 [.int .i64 (mc a), .int .i64 (mr a), .int .i64 (pa (mw a)), .int .i64 (ch (mw a)), .string (ba (nm (mw a))), .float .f64 (rk (mw a))] ∧ Is w' (w.heap.size + 1) 51 [.int .i64 (mc b), .int .i64 (mr b), .int .i64 (pa (mw b)), .int .i64 (ch (mw b)), .string (ba (nm (mw b))), .float .f64 (rk (mw b))] ∧ Below w.heap.size w w') (by kernel_rfl) (by kernel_rfl) HST.out ?_
  repeat (first
   | go_big_quiet_skip
   | (go_big_quiet_want; go_big_quiet_op; go_big_quiet_on)
   | (go_big_quiet_want; apply Exists.intro; refine ⟨fun wq hq => ?_, ?_⟩; (focus (obtain ⟨p0, p1, p2, p3, p4, p5⟩ := box6 (m := a) hq.1; obtain ⟨r0, r1, r2, r3, r4, r5⟩ := box6 (m := b) hq.2.1; unfold Oper.quietAt; go_simp; all_goals (first | rfl | (rw [if_pos HH1.out, if_neg HH2.out]; exact ⟨rfl, rfl⟩)))); simp only [Act.put, List.setIfInBounds_toArray, List.set_cons_zero, List.set_cons_succ]; go_big_quiet_on))
  refine wpQuiet_nil ?_
  intro wq hq
  obtain ⟨-, -, hwq⟩ := hq
  go_wp2_with fail
  go_ret
  exact ⟨rfl, hwq⟩
 case pos =>
  rw [decide_eq_true h1, decide_eq_true h2, Bool.true_and, Bool.true_and]
  have HH1 := Lib.hid h1
  have HH2 := Lib.hid h2
  clear h1 h2
  go_enter Tryz.func82, Tryz.ntmps82
  go_wp2_with fail
  refine quiet_held (fun w' => Is w' w.heap.size 51 [.int .i64 (mc a), .int .i64 (mr a), .int .i64 (pa (mw a)), .int .i64 (ch (mw a)), .string (ba (nm (mw a))), .float .f64 (rk (mw a))] ∧ Is w' (w.heap.size + 1) 51 [.int .i64 (mc b), .int .i64 (mr b), .int .i64 (pa (mw b)), .int .i64 (ch (mw b)), .string (ba (nm (mw b))), .float .f64 (rk (mw b))] ∧ Below w.heap.size w w') (by kernel_rfl) (by kernel_rfl) HST.out ?_
  repeat (first
   | go_big_quiet_skip
   | (go_big_quiet_want; go_big_quiet_op; go_big_quiet_on)
   | (go_big_quiet_want; apply Exists.intro; refine ⟨fun wq hq => ?_, ?_⟩; (focus (obtain ⟨p0, p1, p2, p3, p4, p5⟩ := box6 (m := a) hq.1; obtain ⟨r0, r1, r2, r3, r4, r5⟩ := box6 (m := b) hq.2.1; unfold Oper.quietAt; go_simp; all_goals (first | rfl | (rw [if_pos HH1.out, if_pos HH2.out]; exact ⟨rfl, rfl⟩) | (with_reducible refine (rmrow_k a _).mono ?_; rintro e w5 ⟨rfl, hbn⟩; exact ⟨rfl, two_keep hq hbn⟩) | (with_reducible refine (rmrow_k b _).mono ?_; rintro e w5 ⟨rfl, hbn⟩; exact ⟨rfl, two_keep hq hbn⟩) | (with_reducible refine (ralike_k HQ.out ha hb _).mono ?_; rintro e w5 ⟨rfl, hbn⟩; exact ⟨rfl, two_keep hq hbn⟩)))); simp only [Act.put, List.setIfInBounds_toArray, List.set_cons_zero, List.set_cons_succ]; go_big_quiet_on))
  refine wpQuiet_nil ?_
  intro wq hq
  obtain ⟨-, -, hwq⟩ := hq
  go_wp2_with fail
  go_ret
  exact ⟨rfl, hwq⟩
end
theorem rmalike_k {a b : Mv} {q : Bool} (h : alikeM a b = q) (ha : rk (mw a) < 18446744073709551616) (hb : rk (mw b) < 18446744073709551616) (w : World) :
  Calls Tryz.prog 82 #[.agg #[.int .i64 (mc a), .int .i64 (mr a), .int .i64 (pa (mw a)), .int .i64 (ch (mw a)), .string (ba (nm (mw a))), .float .f64 (rk (mw a))], .agg #[.int .i64 (mc b), .int .i64 (mr b), .int .i64 (pa (mw b)), .int .i64 (ch (mw b)), .string (ba (nm (mw b))), .float .f64 (rk (mw b))]] w fun e w' => e = .returned (.bool q) ∧ Below w.heap.size w w' := by
 subst h
 exact rmalike_c a b ha hb w
set_option maxHeartbeats 4000000 in
theorem rmsame_c (A1 A2 : Option Addr) (c1 c2 : Nat) (xs ys : List Mv) (hx : xs.length ≤ maxLen) (hy : ys.length ≤ maxLen) (hwx : Moves_ xs) (hwy : Moves_ ys) (w : World) (h1 : At w w.heap.size A1 (mvs xs)) (h2 : At w w.heap.size A2 (mvs ys)) :
  Calls Tryz.prog 25 #[.slice A1 xs.length c1, .slice A2 ys.length c2] w fun e w' => e = .returned (.bool (sameM xs ys)) ∧ Below w.heap.size w w' := by
 unfold maxLen at hx hy
 have H1 := Lib.hid h1
 have H2 := Lib.hid h2
 have WX := Lib.hid hwx
 have WY := Lib.hid hwy
 clear h1 h2 hwx hwy
 by_cases hl : xs.length = ys.length
 ·obtain ⟨n, hn⟩ : ∃ n, n = ys.length := ⟨_, rfl⟩
  have hn1 : xs.length = n := by omega
  obtain ⟨R, hR⟩ : ∃ R, sameM xs ys = R := ⟨_, rfl⟩
  rw [hR]
  have HR := Lib.hid hR
  rw [← hn, hn1]
  rw [hn1] at hx hl
  rw [← hn] at hy hl
  have HN := Lib.hid hn
  have HN1 := Lib.hid hn1
  clear hn hn1 hR hl
  go_enter Tryz.func25, Tryz.ntmps25
  go_wp2_with fail
  go_loopw [5] (fun i wr => ∃ k : Nat, i = .int .i64 (k : Int) ∧ k ≤ n ∧ sameM (xs.drop k) (ys.drop k) = R ∧ Below w.heap.size w wr) (fun i _ => n - (Go.RowKit.intOf i).toNat)
  case atStart => exact ⟨0, rfl, Nat.zero_le _, HR.out, Below.refl _ _⟩
  case round =>
   obtain ⟨k, rfl, hk, heq, hb⟩ := hrel
   have hbs := hb.size
   have HE := Lib.hid heq
   clear heq
   by_cases hlt : k < n
   ·obtain ⟨x, hxk⟩ := some_at (show k < xs.length by rw [HN1.out]; exact hlt)
    obtain ⟨y, hyk⟩ := some_at (show k < ys.length by rw [← HN.out]; exact hlt)
    have hax := H1.out.keep hb
    have hay := H2.out.keep hb
    obtain ⟨b1, o1, rfl, hb1, -⟩ := move_cells hax hxk
    obtain ⟨b2, o2, rfl, hb2, -⟩ := move_cells hay hyk
    have HAX := Lib.hid hax
    have HAY := Lib.hid hay
    have hst := sameM_step hxk hyk
    rw [HE.out] at hst
    have hx64 := (WX.out x (mem_at hxk)).1
    have hy64 := (WY.out y (mem_at hyk)).1
    have HST := Lib.hid hst
    have HX := Lib.hid hxk
    have HY := Lib.hid hyk
    obtain ⟨q, hq⟩ : ∃ q, alikeM x y = q := ⟨_, rfl⟩
    have HQ := Lib.hid hq
    have hki : (0 : Int) ≤ (k : Int) := by omega
    have hkn : (k : Int) < (n : Int) := by omega
    clear hst hxk hyk hq hax hay
    cases q
    ·skip
     go_wp2_with fail
     refine quiet_held (fun w' => Below wr.heap.size wr w') (by kernel_rfl) (by kernel_rfl) (Below.refl _ _).drew ?_
     repeat (first
      | go_big_quiet_skip
      | (go_big_quiet_want; go_big_quiet_op; go_big_quiet_on)
      | (go_big_quiet_want; apply Exists.intro; refine ⟨fun wq hq => ?_, ?_⟩; (focus (obtain ⟨b9, o9, e9, -, d0, d1, d2, d3, d4, d5⟩ := move_cells (HAX.out.keep hq) HX.out; cases e9; obtain ⟨b9, o9, e9, -, g0, g1, g2, g3, g4, g5⟩ := move_cells (HAY.out.keep hq) HY.out; cases e9; unfold Oper.quietAt; go_simp; all_goals (first | rfl | (refine (rmalike_k HQ.out hx64 hy64 _).mono ?_; rintro e w5 ⟨rfl, hbn⟩; exact ⟨rfl, hq.trans (hbn.mono hq.size)⟩)))); simp only [Act.put, List.setIfInBounds_toArray, List.set_cons_zero, List.set_cons_succ]; go_big_quiet_on))
     refine wpQuiet_nil ?_
     intro wq hwq
     have hbe : Below w.heap.size w wq := hb.trans (hwq.mono hb.size)
     go_wp2_with fail
     go_ret
     refine ⟨ret_bool ?_, hbe⟩
     rw [HST.out, HQ.out]; rfl
    ·skip
     go_wp2_with fail
     refine quiet_held (fun w' => Below wr.heap.size wr w') (by kernel_rfl) (by kernel_rfl) (Below.refl _ _).drew ?_
     repeat (first
      | go_big_quiet_skip
      | (go_big_quiet_want; go_big_quiet_op; go_big_quiet_on)
      | (go_big_quiet_want; apply Exists.intro; refine ⟨fun wq hq => ?_, ?_⟩; (focus (obtain ⟨b9, o9, e9, -, d0, d1, d2, d3, d4, d5⟩ := move_cells (HAX.out.keep hq) HX.out; cases e9; obtain ⟨b9, o9, e9, -, g0, g1, g2, g3, g4, g5⟩ := move_cells (HAY.out.keep hq) HY.out; cases e9; unfold Oper.quietAt; go_simp; all_goals (first | rfl | (refine (rmalike_k HQ.out hx64 hy64 _).mono ?_; rintro e w5 ⟨rfl, hbn⟩; exact ⟨rfl, hq.trans (hbn.mono hq.size)⟩)))); simp only [Act.put, List.setIfInBounds_toArray, List.set_cons_zero, List.set_cons_succ]; go_big_quiet_on))
     refine wpQuiet_nil ?_
     intro wq hwq
     have hbe : Below w.heap.size w wq := hb.trans (hwq.mono hb.size)
     go_wp2_with fail
     go_roundw
     case rel => exact ⟨k + 1, by go_num, by omega, by rw [HST.out, HQ.out]; rfl, hbe⟩
     case measure => simp only [Go.RowKit.intOf]; omega
   ·obtain rfl : k = n := by omega
    have h := HE.out
    rw [List.drop_of_length_le (by rw [HN1.out]; exact Nat.le_refl _), List.drop_of_length_le (by rw [← HN.out]; exact Nat.le_refl _)] at h
    have HH := Lib.hid h
    clear h
    go_wp2_with fail
    go_ret
    exact ⟨ret_bool HH.out, hb⟩
 ·have hs := sameM_len hl
  have ht : ((xs.length : Int) != (ys.length : Int)) = true := by simp only [bne_iff_ne, ne_eq]; omega
  have HS := Lib.hid hs
  clear hl hs
  go_enter Tryz.func25, Tryz.ntmps25
  go_wp2_with fail
  go_ret
  exact ⟨ret_bool HS.out.symm, Below.refl _ _⟩
def fewM (l : List Mv) (n : Nat) : Bool := decide (l.length ≤ n) && l.all fun m => decide ((nm (mw m)).length ≤ 100)
theorem fewM_step {l : List Mv} {i : Nat} {c : Mv} (h : l[i]? = some c) : ((l.drop i).all fun m => decide ((nm (mw m)).length ≤ 100)) = (decide ((nm (mw c)).length ≤ 100) && (l.drop (i + 1)).all fun m => decide ((nm (mw m)).length ≤ 100)) := by
 have hk := (List.getElem?_eq_some_iff.1 h).1
 have hc := (List.getElem?_eq_some_iff.1 h).2
 rw [List.drop_eq_getElem_cons hk, hc, List.all_cons]
theorem fewM_in {l : List Mv} {n : Nat} (h : fewM l n = true) : l.length ≤ n ∧ ∀ m ∈ l, (nm (mw m)).length ≤ 100 := by
 simp only [fewM, Bool.and_eq_true, decide_eq_true_eq, List.all_eq_true] at h
 exact h
theorem rmfew_c (A : Option Addr) (cap : Nat) (l : List Mv) (n : Nat) (hl : l.length ≤ maxLen) (hn : n ≤ 1000) (w : World) (hc : At w w.heap.size A (mvs l)) :
  Calls Tryz.prog 9 #[.slice A l.length cap, .int .i64 (n : Int)] w fun e w' => e = .returned (.bool (fewM l n)) ∧ w = w' := by
 unfold maxLen at hl
 obtain ⟨r, hr⟩ : ∃ r, r = fewM l n := ⟨_, rfl⟩
 rw [← hr]
 have hr0 := hr
 unfold fewM at hr0
 have HC := Lib.hid hc
 clear hr hc
 by_cases h20 : n < l.length
 ·rw [decide_eq_false (show ¬ l.length ≤ n by omega), Bool.false_and] at hr0
  subst hr0
  go_enter Tryz.func9, Tryz.ntmps9
  go_wp2_with fail
  go_ret
  exact ⟨rfl, rfl⟩
 ·rw [decide_eq_true (show l.length ≤ n by omega), Bool.true_and] at hr0
  have HR := Lib.hid hr0
  clear hr0
  go_enter Tryz.func9, Tryz.ntmps9
  go_wp2_with fail
  go_loopw [5] (fun i wr => ∃ j : Nat, i = .int .i64 (j : Int) ∧ j ≤ l.length ∧ ((l.drop j).all fun m => decide ((nm (mw m)).length ≤ 100)) = r ∧ wr = w)
   (fun i _ => l.length - (Go.RowKit.intOf i).toNat)
  case atStart => exact ⟨0, rfl, Nat.zero_le _, HR.out.symm, rfl⟩
  case round =>
   obtain ⟨j, rfl, hj, hf, rfl⟩ := hrel
   by_cases hlt : j < l.length
   ·obtain ⟨c, hcj⟩ := some_at hlt
    obtain ⟨b0, o0, rfl, hb0, -, -, -, -, c1, -⟩ := move_cells HC.out hcj
    rw [fewM_step hcj] at hf
    have hsz := ba_size (nm (mw c))
    have HF := Lib.hid hf
    clear hf hcj
    by_cases hk : 100 < (nm (mw c)).length
    ·go_wp2_with fail
     go_ret
     have := HF.out
     rw [decide_eq_false (show ¬ (nm (mw c)).length ≤ 100 by omega), Bool.false_and] at this
     exact ⟨ret_bool this, rfl⟩
    ·go_wp2_with fail
     go_roundw
     case rel => exact ⟨j + 1, by go_num, by omega, by rw [← HF.out, decide_eq_true (show (nm (mw c)).length ≤ 100 by omega), Bool.true_and], by first | rfl | trivial⟩
     case measure => simp only [Go.RowKit.intOf]; omega
   ·obtain rfl : j = l.length := by omega
    rw [List.drop_length] at hf
    have HF := Lib.hid hf
    clear hf
    go_wp2_with fail
    go_ret
    exact ⟨ret_bool HF.out, rfl⟩
end Go.Proofs.YtojhenpaeedimaaGreat
end
