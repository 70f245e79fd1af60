/-
 Whether a move may be, whether moves may be: the program's, and the document's.
 Whether moves may be: the program's, and the document's.
-/
import Derived.Test.YthhckdjagnlgpaaGreatAl
import Derived.Test.YthhckdjagnlgpaaGreatTk
section
namespace Go.Proofs.YthhckdjagnlgpaaGreat
open Go.RowKit Go.IntWalk
open Wd Fl
set_option maxRecDepth 100000
attribute [local go_sem] Oper.semAt_some
theorem mone_c (m : Mv) (hn : (nm (mw m)).length ≤ maxLen) (w : World) :
  Calls Tryz.prog 148 #[mv m] w fun e w' => e = .returned (.bool (oneM m)) ∧ Below w.heap.size w w' := by
 obtain ⟨c, r, k, p, n, f⟩ := m
 have hrow : ∀ W, Calls Tryz.prog 201 #[.agg #[.int .i64 c, .int .i64 r, .int .i64 p, .int .i64 k, .string (ba n), .float .f64 f]] W fun e w' => e = .returned (.agg #[.int .i64 k, .int .i64 p, .string (ba n), .float .f64 f]) ∧ Below W.heap.size W w' := fun W => mrow_c (c, r, k, p, n, f) W
 have hone : ∀ W, Calls Tryz.prog 19 #[.agg #[.int .i64 k, .int .i64 p, .string (ba n), .float .f64 f]] W fun e w' => e = .returned (.bool (oneP (k, p, n, f))) ∧ Below W.heap.size W w' := fun W => one_c (k, p, n, f) hn W
 show Calls Tryz.prog 148 #[.agg #[.int .i64 c, .int .i64 r, .int .i64 p, .int .i64 k, .string (ba n), .float .f64 f]] w fun e w' => e = .returned (.bool (decide (1 ≤ c) && (decide (c ≤ 4611686018427387903) && (decide (1 ≤ r) && (decide (r ≤ 255) && oneP (k, p, n, f)))))) ∧ _
 have hb := (Below.refl w.heap.size w).alloc (Nat.le_refl _) (.cells #[.int .i64 c, .int .i64 r, .int .i64 p, .int .i64 k, .string (ba n), .float .f64 f] 57)
 have HROW := Lib.hid hrow
 have HONE := Lib.hid hone
 clear hrow hone hn
 by_cases h1 : 1 ≤ c
 case neg =>
  have g1b : ¬ 0 < c := by omega
  rw [decide_eq_false h1, Bool.false_and]
  go_enter Tryz.func148, Tryz.ntmps148
  go_wp2_with fail
  go_ret
  exact ⟨rfl, hb⟩
 have q1 : 0 < c := by omega
 by_cases h2 : c ≤ 4611686018427387903
 case neg =>
  rw [decide_eq_true h1, Bool.true_and, decide_eq_false h2, Bool.false_and]
  go_enter Tryz.func148, Tryz.ntmps148
  go_wp2_with fail
  go_ret
  exact ⟨rfl, hb⟩
 by_cases h3 : 1 ≤ r
 case neg =>
  have g1b : ¬ 0 < r := by omega
  rw [decide_eq_true h1, Bool.true_and, decide_eq_true h2, Bool.true_and, decide_eq_false h3, Bool.false_and]
  go_enter Tryz.func148, Tryz.ntmps148
  go_wp2_with fail
  go_ret
  exact ⟨rfl, hb⟩
 have q3 : 0 < r := by omega
 by_cases h4 : r ≤ 255
 case neg =>
  rw [decide_eq_true h1, Bool.true_and, decide_eq_true h2, Bool.true_and, decide_eq_true h3, Bool.true_and, decide_eq_false h4, Bool.false_and]
  go_enter Tryz.func148, Tryz.ntmps148
  go_wp2_with fail
  go_ret
  exact ⟨rfl, hb⟩
 rw [decide_eq_true h1, Bool.true_and, decide_eq_true h2, Bool.true_and, decide_eq_true h3, Bool.true_and, decide_eq_true h4, Bool.true_and]
 go_enter Tryz.func148, Tryz.ntmps148
 go_wp2_with fail
 refine (HROW.out _).mono ?_
 rintro e w1 ⟨rfl, hb1⟩
 go_wp2_with fail
 refine (HONE.out _).mono ?_
 rintro e w2 ⟨rfl, hb2⟩
 go_wp2_with fail
 go_ret
 have hb3 := hb.trans (hb1.mono hb.size)
 exact ⟨rfl, hb3.trans (hb2.mono hb3.size)⟩
theorem rtime_c (c r : Int) (w : World) :
  Calls Tryz.prog 97 #[.agg #[.int .i64 c, .int .i64 r]] w fun e w' => e = .returned (.bool (decide (1 ≤ c) && (decide (c ≤ 4611686018427387903) && (decide (1 ≤ r) && decide (r ≤ 255))))) ∧ Below w.heap.size w w' := by
 have hb := (Below.refl w.heap.size w).alloc (Nat.le_refl _) (.cells #[.int .i64 c, .int .i64 r] 51)
 by_cases h1 : 1 ≤ c
 case neg =>
  rw [decide_eq_false h1, Bool.false_and]
  go_enter Tryz.func97, Tryz.ntmps97
  go_wp2_with fail
  go_ret
  exact ⟨rfl, hb⟩
 by_cases h2 : c ≤ 4611686018427387903
 case neg =>
  rw [decide_eq_true h1, Bool.true_and, decide_eq_false h2, Bool.false_and]
  go_enter Tryz.func97, Tryz.ntmps97
  go_wp2_with fail
  go_ret
  exact ⟨rfl, hb⟩
 by_cases h3 : 1 ≤ r
 case neg =>
  rw [decide_eq_true h1, Bool.true_and, decide_eq_true h2, Bool.true_and, decide_eq_false h3, Bool.false_and]
  go_enter Tryz.func97, Tryz.ntmps97
  go_wp2_with fail
  go_ret
  exact ⟨rfl, hb⟩
 by_cases h4 : r ≤ 255
 case neg =>
  rw [decide_eq_true h1, Bool.true_and, decide_eq_true h2, Bool.true_and, decide_eq_true h3, Bool.true_and, decide_eq_false h4]
  go_enter Tryz.func97, Tryz.ntmps97
  go_wp2_with fail
  go_ret
  exact ⟨rfl, hb⟩
 rw [decide_eq_true h1, Bool.true_and, decide_eq_true h2, Bool.true_and, decide_eq_true h3, Bool.true_and, decide_eq_true h4]
 go_enter Tryz.func97, Tryz.ntmps97
 go_wp2_with fail
 go_ret
 exact ⟨rfl, hb⟩
theorem rmone_c (m : Mv) (hn : (nm (mw m)).length ≤ maxLen) (w : World) :
  Calls Tryz.prog 57 #[mv m] w fun e w' => e = .returned (.bool (oneM m)) ∧ Below w.heap.size w w' := by
 obtain ⟨c, r, k, p, n, f⟩ := m
 have hrow : ∀ W, Calls Tryz.prog 119 #[.agg #[.int .i64 c, .int .i64 r, .int .i64 p, .int .i64 k, .string (ba n), .float .f64 f]] W fun e w' => e = .returned (.agg #[.int .i64 k, .int .i64 p, .string (ba n), .float .f64 f]) ∧ Below W.heap.size W w' := fun W => rmrow_c (c, r, k, p, n, f) W
 have hone : ∀ W, Calls Tryz.prog 20 #[.agg #[.int .i64 k, .int .i64 p, .string (ba n), .float .f64 f]] W fun e w' => e = .returned (.bool (oneP (k, p, n, f))) ∧ Below W.heap.size W w' := fun W => rone_c (k, p, n, f) hn W
 have htime := fun W => rtime_c c r W
 have hval : oneM (c, r, k, p, n, f) = ((decide (1 ≤ c) && (decide (c ≤ 4611686018427387903) && (decide (1 ≤ r) && decide (r ≤ 255)))) && oneP (k, p, n, f)) := by
  unfold oneM
  simp only [Bool.and_assoc]
 rw [hval]
 show Calls Tryz.prog 57 #[.agg #[.int .i64 c, .int .i64 r, .int .i64 p, .int .i64 k, .string (ba n), .float .f64 f]] w _
 have hb := (Below.refl w.heap.size w).alloc (Nat.le_refl _) (.cells #[.int .i64 c, .int .i64 r, .int .i64 p, .int .i64 k, .string (ba n), .float .f64 f] 57)
 obtain ⟨q, hq⟩ : ∃ q, (decide (1 ≤ c) && (decide (c ≤ 4611686018427387903) && (decide (1 ≤ r) && decide (r ≤ 255)))) = q := ⟨_, rfl⟩
 rw [hq] at htime ⊢
 have HROW := Lib.hid hrow
 have HONE := Lib.hid hone
 have HTIME := Lib.hid htime
 clear hrow hone hn htime hval hq
 cases q
 ·rw [Bool.false_and]
  go_enter Tryz.func57, Tryz.ntmps57
  go_wp2_with fail
  refine (HTIME.out _).mono ?_
  rintro e w1 ⟨rfl, hb1⟩
  go_wp2_with fail
  go_ret
  exact ⟨rfl, hb.trans (hb1.mono hb.size)⟩
 ·rw [Bool.true_and]
  have b0 := fun v (h : (w.alloc (.cells #[.int .i64 c, .int .i64 r, .int .i64 p, .int .i64 k, .string (ba n), .float .f64 f] 57)).cell? ⟨w.heap.size, 0, none⟩ = some v) => h
  have hI0 : Is (w.alloc (.cells #[.int .i64 c, .int .i64 r, .int .i64 p, .int .i64 k, .string (ba n), .float .f64 f] 57)) w.heap.size 57 [.int .i64 c, .int .i64 r, .int .i64 p, .int .i64 k, .string (ba n), .float .f64 f] := is_new w 57 [.int .i64 c, .int .i64 r, .int .i64 p, .int .i64 k, .string (ba n), .float .f64 f]
  have HI0 := Lib.hid hI0
  clear b0 hI0
  go_enter Tryz.func57, Tryz.ntmps57
  go_wp2_with fail
  refine (HTIME.out _).mono ?_
  rintro e w1 ⟨rfl, hb1⟩
  have hI := is_below HI0.out hb1 (is_lt HI0.out)
  have i0 := is_cell hI 0
  have i1 := is_cell hI 1
  have i2 := is_cell hI 2
  have i3 := is_cell hI 3
  have i4 := is_cell hI 4
  have i5 := is_cell hI 5
  go_wp2_with fail
  refine (HROW.out _).mono ?_
  rintro e w2 ⟨rfl, hb2⟩
  go_wp2_with fail
  refine (HONE.out _).mono ?_
  rintro e w3 ⟨rfl, hb3⟩
  go_wp2_with fail
  go_ret
  have hb4 := hb.trans (hb1.mono hb.size)
  have hb5 := hb4.trans (hb2.mono hb4.size)
  exact ⟨rfl, hb5.trans (hb3.mono hb5.size)⟩
end Go.Proofs.YthhckdjagnlgpaaGreat
end
section
namespace Go.Proofs.YthhckdjagnlgpaaGreat
open Go.RowKit Go.IntWalk
open Wd Fl
set_option maxRecDepth 100000
attribute [local go_sem] Oper.semAt_some
theorem mone_k {m : Mv} {b : Bool} (h : oneM m = b) (hn : (nm (mw m)).length ≤ maxLen) (w : World) :
  Calls Tryz.prog 148 #[.agg #[.int .i64 (mc m), .int .i64 (mr m), .int .i64 (pa (mw m)), .int .i64 (ch (mw m)), .string (ba (nm (mw m))), .float .f64 (rk (mw m))]] w fun e w' => e = .returned (.bool b) ∧ Below w.heap.size w w' := by
 subst h
 exact mone_c m hn w
theorem rmone_k {m : Mv} {b : Bool} (h : oneM m = b) (hn : (nm (mw m)).length ≤ maxLen) (w : World) :
  Calls Tryz.prog 57 #[.agg #[.int .i64 (mc m), .int .i64 (mr m), .int .i64 (pa (mw m)), .int .i64 (ch (mw m)), .string (ba (nm (mw m))), .float .f64 (rk (mw m))]] w fun e w' => e = .returned (.bool b) ∧ Below w.heap.size w w' := by
 subst h
 exact rmone_c m hn w
theorem bef_k {c1 r1 c2 r2 : Int} {b : Bool} (h : befT c1 r1 c2 r2 = b) (w : World) :
  Calls Tryz.prog 94 #[.agg #[.int .i64 c1, .int .i64 r1], .agg #[.int .i64 c2, .int .i64 r2]] w fun e w' => e = .returned (.bool b) ∧ Below w.heap.size w w' := by
 subst h
 exact bef_c c1 r1 c2 r2 w
theorem rbef_k {c1 r1 c2 r2 : Int} {b : Bool} (h : befT c1 r1 c2 r2 = b) (w : World) :
  Calls Tryz.prog 58 #[.agg #[.int .i64 c1, .int .i64 r1], .agg #[.int .i64 c2, .int .i64 r2]] w fun e w' => e = .returned (.bool b) ∧ Below w.heap.size w w' := by
 subst h
 exact rbef_c c1 r1 c2 r2 w
theorem moves_keep {A : Option Addr} {l : List Mv} {w w1 w2 : World} (h : At w1 w1.heap.size A (mvs l) ∧ Below w.heap.size w w1) (hb : Below w1.heap.size w1 w2) : At w2 w2.heap.size A (mvs l) ∧ Below w.heap.size w w2 :=
 ⟨h.1.keep hb, h.2.trans (hb.mono h.2.size)⟩
/-- moves, and one of them in a box, are kept -/
theorem mbox_keep {A : Option Addr} {l : List Mv} {w w1 w2 : World} {G : Nat} {vs : List Value} (h : At w1 w1.heap.size A (mvs l) ∧ Is w1 G 57 vs ∧ Below w.heap.size w w1) (hb : Below w1.heap.size w1 w2) : At w2 w2.heap.size A (mvs l) ∧ Is w2 G 57 vs ∧ Below w.heap.size w w2 :=
 ⟨h.1.keep hb, is_below h.2.1 hb (is_lt h.2.1), h.2.2.trans (hb.mono h.2.2.size)⟩
theorem mbox_start {A : Option Addr} {l : List Mv} {w wr : World} (m : Mv) (h : At wr wr.heap.size A (mvs l)) (hb : Below w.heap.size w wr) :
  At (wr.alloc (.cells #[.int .i64 (mc m), .int .i64 (mr m), .int .i64 (pa (mw m)), .int .i64 (ch (mw m)), .string (ba (nm (mw m))), .float .f64 (rk (mw m))] 57)).drew (wr.alloc (.cells #[.int .i64 (mc m), .int .i64 (mr m), .int .i64 (pa (mw m)), .int .i64 (ch (mw m)), .string (ba (nm (mw m))), .float .f64 (rk (mw m))] 57)).drew.heap.size A (mvs l) ∧ Is (wr.alloc (.cells #[.int .i64 (mc m), .int .i64 (mr m), .int .i64 (pa (mw m)), .int .i64 (ch (mw m)), .string (ba (nm (mw m))), .float .f64 (rk (mw m))] 57)).drew wr.heap.size 57 [.int .i64 (mc m), .int .i64 (mr m), .int .i64 (pa (mw m)), .int .i64 (ch (mw m)), .string (ba (nm (mw m))), .float .f64 (rk (mw m))] ∧ Below w.heap.size w (wr.alloc (.cells #[.int .i64 (mc m), .int .i64 (mr m), .int .i64 (pa (mw m)), .int .i64 (ch (mw m)), .string (ba (nm (mw m))), .float .f64 (rk (mw m))] 57)).drew :=
 ⟨h.keep ((Below.refl _ _).alloc (Nat.le_refl _) _).drew, is_new wr 57 [.int .i64 (mc m), .int .i64 (mr m), .int .i64 (pa (mw m)), .int .i64 (ch (mw m)), .string (ba (nm (mw m))), .float .f64 (rk (mw m))], (hb.alloc hb.size _).drew⟩
set_option maxHeartbeats 8000000 in
theorem rmmay_c (A : Option Addr) (cap : Nat) (l : List Mv) (hl : l.length ≤ maxLen) (hn : ∀ m ∈ l, (nm (mw m)).length ≤ maxLen) (w : World) (hc : At w w.heap.size A (mvs l)) :
  Calls Tryz.prog 112 #[.slice A l.length cap] w fun e w' => e = .returned (.bool (mayM l)) ∧ Below w.heap.size w w' := by
 obtain ⟨R, hR⟩ : ∃ R, mayM l = R := ⟨_, rfl⟩
 rw [hR]
 have HC := Lib.hid hc
 have HN := Lib.hid hn
 unfold maxLen at hl
 clear hc hn
 by_cases hlong : 2000 < l.length
 ·have hli : (2000 : Int) < (l.length : Int) := by omega
  rw [mayM_long hlong] at hR
  subst hR
  go_enter Tryz.func112, Tryz.ntmps112
  go_wp2_with fail
  go_ret
  exact ⟨rfl, Below.refl _ _⟩
 ·rw [mayM_short (by omega)] at hR
  have HR := Lib.hid hR
  clear hR
  go_enter Tryz.func112, Tryz.ntmps112
  go_wp2_with fail
  go_loopw [3] (fun i wr => ∃ k : Nat, i = .int .i64 (k : Int) ∧ k ≤ l.length ∧ resM (prvM l k) (l.drop k) = R ∧ Below w.heap.size w wr) (fun i _ => l.length - (intOf i).toNat)
  case atStart => exact ⟨0, rfl, Nat.zero_le _, HR.out, Below.refl _ _⟩
  case round =>
   obtain ⟨k, rfl, hk, hres, hbw⟩ := hrel
   by_cases hlt : k < l.length
   ·obtain ⟨m, hm⟩ := some_at hlt
    have hcw := HC.out.keep hbw
    obtain ⟨b0, o0, rfl, hb0, c0, c1, c2, c3, c4, c5⟩ := move_cells hcw hm
    have hnm := HN.out m (mem_at hm)
    have hki : (0 : Int) ≤ (k : Int) := by omega
    have hkl : (k : Int) < (l.length : Int) := by omega
    rw [resM_step hm] at hres
    have HX := Lib.hid hm
    have HRS := Lib.hid hres
    cases ho : oneM m with
    | false =>
     have HO := Lib.hid ho
     clear ho hm hres
     go_wp2_with fail
     refine quiet_held (fun w' => At w' w'.heap.size (some ⟨b0, o0, none⟩) (mvs l) ∧ Below w.heap.size w w') (by kernel_rfl) (by kernel_rfl) (⟨at_drewE hcw ⟨1, rfl⟩, hbw.drew⟩) ?_
     repeat (first
      | go_big_quiet_skip
      | (go_big_quiet_want; go_big_quiet_op; go_big_quiet_on)
      | (go_big_quiet_want; apply Exists.intro; refine ⟨fun wq hq => ?_, ?_⟩; (focus (obtain ⟨b9, o9, e9, -, d0, d1, d2, d3, d4, d5⟩ := move_cells hq.1 HX.out; cases e9; unfold Oper.quietAt; go_simp; all_goals (first | rfl | (refine (rmone_k HO.out hnm _).mono ?_; rintro e w5 ⟨rfl, hbn⟩; exact ⟨rfl, moves_keep hq hbn⟩)))); simp only [Act.put, List.setIfInBounds_toArray, List.set_cons_zero, List.set_cons_succ]; go_big_quiet_on))
     refine wpQuiet_nil ?_
     intro wq hq
     obtain ⟨-, hwq⟩ := hq
     have hf : R = false := by rw [← HRS.out, HO.out, Bool.false_and]
     subst hf
     go_wp2_with fail
     go_ret
     exact ⟨rfl, hwq⟩
    | true =>
     have HO := Lib.hid ho
     clear ho hm hres
     by_cases hk0 : k = 0
     ·have hd : decide (0 < k) = false := decide_eq_false (by omega)
      have hrn : resM (prvM l (k + 1)) (l.drop (k + 1)) = R := by
       have h := HRS.out
       subst hk0
       rw [HO.out, Bool.true_and] at h
       exact h
      have HRN := Lib.hid hrn
      clear hk0 hrn HRS
      go_wp2_with fail
      refine quiet_held (fun w' => At w' w'.heap.size (some ⟨b0, o0, none⟩) (mvs l) ∧ Below w.heap.size w w') (by kernel_rfl) (by kernel_rfl) (⟨at_drewE hcw ⟨1, rfl⟩, hbw.drew⟩) ?_
      repeat (first
       | go_big_quiet_skip
       | (simp only [hd])
       | (go_big_quiet_want; go_big_quiet_op; go_big_quiet_on)
       | (go_big_quiet_want; apply Exists.intro; refine ⟨fun wq hq => ?_, ?_⟩; (focus (obtain ⟨b9, o9, e9, -, d0, d1, d2, d3, d4, d5⟩ := move_cells hq.1 HX.out; cases e9; unfold Oper.quietAt; go_simp; all_goals (first | rfl | (refine (rmone_k HO.out hnm _).mono ?_; rintro e w5 ⟨rfl, hbn⟩; exact ⟨rfl, moves_keep hq hbn⟩)))); simp only [Act.put, List.setIfInBounds_toArray, List.set_cons_zero, List.set_cons_succ]; go_big_quiet_on))
      refine wpQuiet_nil ?_
      intro wq hq
      obtain ⟨-, hwq⟩ := hq
      go_wp2_with fail
      go_roundw
      case rel => exact ⟨k + 1, by go_num, by omega, HRN.out, hwq⟩
      case measure => simp only [intOf]; omega
     ·obtain ⟨i, hi⟩ : ∃ i, k = i + 1 := ⟨k - 1, by omega⟩
      obtain ⟨s, hs⟩ := some_at (show i < l.length by omega)
      have hrs2 : (bm s m && resM (prvM l (k + 1)) (l.drop (k + 1))) = R := by
       have h := HRS.out
       rw [HO.out, Bool.true_and] at h
       rw [← h, hi]
       show _ = ((match l[i]? with | none => true | some q => bm q m) && _)
       rw [hs]
      have hd : decide (0 < k) = true := decide_eq_true (by omega)
      have hwr : IntKind.i64.wrap ((k : Int) - 1) = (i : Int) := by rw [show (k : Int) - 1 = (i : Int) by omega]; exact IntWalk.i64_in _ (by omega)
      have hi0 : (0 : Int) ≤ (i : Int) := by omega
      have hil : (i : Int) < (l.length : Int) := by omega
      have HS := Lib.hid hs
      have HRN := Lib.hid hrs2
      clear hi hk0 hs hrs2 HRS
      cases hbm : bm s m with
      | false =>
       have HB := Lib.hid hbm
       clear hbm
       go_wp2_with fail
       refine quiet_held (fun w' => At w' w'.heap.size (some ⟨b0, o0, none⟩) (mvs l) ∧ Below w.heap.size w w') (by kernel_rfl) (by kernel_rfl) (⟨at_drewE hcw ⟨1, rfl⟩, hbw.drew⟩) ?_
       repeat (first
        | go_big_quiet_skip
        | (simp only [hd])
        | (simp only [hwr])
        | (go_big_quiet_want; go_big_quiet_op; go_big_quiet_on)
        | (go_big_quiet_want; apply Exists.intro; refine ⟨fun wq hq => ?_, ?_⟩; (focus (obtain ⟨b9, o9, e9, -, d0, d1, d2, d3, d4, d5⟩ := move_cells hq.1 HX.out; cases e9; obtain ⟨b9, o9, e9, -, g0, g1, -⟩ := move_cells hq.1 HS.out; cases e9; unfold Oper.quietAt; go_simp; all_goals (first | rfl | (refine (rmone_k HO.out hnm _).mono ?_; rintro e w5 ⟨rfl, hbn⟩; exact ⟨rfl, moves_keep hq hbn⟩) | (refine (rbef_k (b := false) HB.out _).mono ?_; rintro e w5 ⟨rfl, hbn⟩; exact ⟨rfl, moves_keep hq hbn⟩)))); simp only [Act.put, List.setIfInBounds_toArray, List.set_cons_zero, List.set_cons_succ]; go_big_quiet_on))
       refine wpQuiet_nil ?_
       intro wq hq
       obtain ⟨-, hwq⟩ := hq
       have hf : R = false := by rw [← HRN.out, HB.out, Bool.false_and]
       subst hf
       go_wp2_with fail
       go_ret
       exact ⟨rfl, hwq⟩
      | true =>
       have HB := Lib.hid hbm
       clear hbm
       go_wp2_with fail
       refine quiet_held (fun w' => At w' w'.heap.size (some ⟨b0, o0, none⟩) (mvs l) ∧ Below w.heap.size w w') (by kernel_rfl) (by kernel_rfl) (⟨at_drewE hcw ⟨1, rfl⟩, hbw.drew⟩) ?_
       repeat (first
        | go_big_quiet_skip
        | (simp only [hd])
        | (simp only [hwr])
        | (go_big_quiet_want; go_big_quiet_op; go_big_quiet_on)
        | (go_big_quiet_want; apply Exists.intro; refine ⟨fun wq hq => ?_, ?_⟩; (focus (obtain ⟨b9, o9, e9, -, d0, d1, d2, d3, d4, d5⟩ := move_cells hq.1 HX.out; cases e9; obtain ⟨b9, o9, e9, -, g0, g1, -⟩ := move_cells hq.1 HS.out; cases e9; unfold Oper.quietAt; go_simp; all_goals (first | rfl | (refine (rmone_k HO.out hnm _).mono ?_; rintro e w5 ⟨rfl, hbn⟩; exact ⟨rfl, moves_keep hq hbn⟩) | (refine (rbef_k (b := true) HB.out _).mono ?_; rintro e w5 ⟨rfl, hbn⟩; exact ⟨rfl, moves_keep hq hbn⟩)))); simp only [Act.put, List.setIfInBounds_toArray, List.set_cons_zero, List.set_cons_succ]; go_big_quiet_on))
       refine wpQuiet_nil ?_
       intro wq hq
       obtain ⟨-, hwq⟩ := hq
       go_wp2_with fail
       go_roundw
       case rel => exact ⟨k + 1, by go_num, by omega, by rw [← HRN.out, HB.out, Bool.true_and], hwq⟩
       case measure => simp only [intOf]; omega
   ·obtain rfl : k = l.length := by omega
    rw [List.drop_length] at hres
    have hf : R = true := by rw [← hres]; cases prvM l l.length <;> rfl
    subst hf
    clear hres
    go_wp2_with fail
    go_ret
    exact ⟨rfl, hbw⟩
end Go.Proofs.YthhckdjagnlgpaaGreat
end
