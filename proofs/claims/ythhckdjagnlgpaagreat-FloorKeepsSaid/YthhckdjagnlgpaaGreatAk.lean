/-
 Marks held against each other; whether they may be.
 The next time: the program's, and the document's.
-/
import Derived.Test.YthhckdjagnlgpaaGreatAi
import Derived.Laws.StructEq
import Derived.BigQuiet
import Derived.Deep.RegionHeldLaw
section
namespace Go.Proofs.YthhckdjagnlgpaaGreat
open Go.RowKit Go.IntWalk
set_option maxRecDepth 100000
attribute [local go_sem] Oper.semAt_some
theorem mark_under : Tryz.prog.underlying 105 = some (.struct (Tryz.prog.fieldsOf 105)) := by kernel_rfl
theorem mark_stood : Tryz.prog.stoodInHeld 105 = false := by kernel_rfl
theorem mark_guard : Tryz.prog.eqGuardType Tryz.prog.depth 105 = false := by kernel_rfl
def markNe (a b c d : Int) : Bool := !(a == c && b == d)
theorem neq_marks (a b c d : Int) (w : World) : (binOp .neq 105 (.agg #[.int .i64 a, .int .i64 b]) (.agg #[.int .i64 c, .int .i64 d])).run Tryz.prog w = .ok (.bool (markNe a b c d)) w := by
 unfold markNe
 rw [run_neq_struct, show (10000 : Nat) = 9999 + 1 from rfl, run_equalIn_agg w 9999 _ _ _ mark_under mark_stood]
 simp only [Program.fieldsOf, Tryz.underlying105]
 simp [Op.eqFields, go_sem, run_equalIn_int _ 9998 _ _ _ _ _ Tryz.underlying3]
 by_cases h1 : a = c <;> by_cases h2 : b = d <;> simp [h1, h2]
theorem markNe_same (x : Mk) : markNe (kr x) (kc x) (kr x) (kc x) = false := by simp [markNe]
theorem markNe_not {x y : Mk} (h : x ≠ y) : markNe (kr x) (kc x) (kr y) (kc y) = true := by
 simp only [markNe, Bool.not_eq_true', Bool.and_eq_false_iff, beq_eq_false_iff_ne]
 rcases Decidable.em (x.1 = y.1) with h1 | h1
 ·exact .inr fun e => h (Prod.ext h1 e)
 ·exact .inl h1
attribute [-go_sem] run_neq_struct
attribute [local go_sem] mark_guard neq_marks
theorem same17_q (A1 A2 : Option Addr) (c1 c2 : Nat) (xs ys : List Mk) (hx : xs.length ≤ maxLen) (hy : ys.length ≤ maxLen) (w : World) (h1 : At w w.heap.size A1 (kvs xs)) (h2 : At w w.heap.size A2 (kvs ys)) :
  Calls Tryz.prog 61 #[.slice A1 xs.length c1, .slice A2 ys.length c2] w fun e w' => e = .returned (.bool (decide (xs = ys))) ∧ ∃ q, w' = w.drewN q := by
 unfold maxLen at hx hy
 have H1 := Lib.hid h1
 have H2 := Lib.hid h2
 clear h1 h2
 by_cases hl : xs.length = ys.length
 ·obtain ⟨n, hn⟩ : ∃ n, n = ys.length := ⟨_, rfl⟩
  have hn1 : xs.length = n := by omega
  rw [← hn, hn1]
  rw [hn1] at hx hl
  rw [← hn] at hy hl
  have HN := Lib.hid hn
  have HN1 := Lib.hid hn1
  clear hn hn1
  go_enter Tryz.func61, Tryz.ntmps61
  go_wp2_with fail
  go_loopw [5] (fun i wr => ∃ k : Nat, i = .int .i64 (k : Int) ∧ k ≤ n ∧ xs.take k = ys.take k ∧ ∃ q, wr = w.drewN q) (fun i _ => n - (intOf i).toNat)
  case atStart => exact ⟨0, rfl, Nat.zero_le _, rfl, 0, rfl⟩
  case round =>
   obtain ⟨k, rfl, hk, heq, hq⟩ := hrel
   have HQ := Lib.hid hq
   clear hq
   have HEQ := Lib.hid heq
   clear heq
   by_cases hlt : k < n
   ·obtain ⟨x, hxk⟩ := some_at (show k < xs.length by rw [HN1.out]; exact hlt)
    obtain ⟨y, hyk⟩ := some_at (show k < ys.length by rw [← HN.out]; exact hlt)
    obtain ⟨b1, o1, rfl, _, hc1, hd1⟩ := mark_cells (at_drewE H1.out HQ.out) hxk
    obtain ⟨b2, o2, rfl, _, hc2, hd2⟩ := mark_cells (at_drewE H2.out HQ.out) hyk
    have HE := Lib.hid (ext_take HEQ.out hxk hyk)
    have HX := Lib.hid hxk
    have HY := Lib.hid hyk
    clear hxk hyk
    by_cases hxy : x = y
    ·have ht := markNe_same y
     rw [hxy] at hc1 hd1
     have HT := Lib.hid hxy
     clear hxy
     go_wp2_with fail
     go_quiet (fail)
     go_wp2
     go_roundw
     case rel => exact ⟨k + 1, by go_num, by omega, HE.out.2 HT.out, drewE HQ.out _⟩
     case measure => simp only [intOf]; omega
    ·have ht := markNe_not hxy
     have HT := Lib.hid hxy
     clear hxy
     go_wp2_with fail
     go_quiet (fail)
     go_wp2
     go_ret
     refine ⟨ret_bool ?_, drewE HQ.out _⟩
     have : ¬ xs = ys := fun e => HT.out (HE.out.1 (by rw [e]))
     simp [this]
   ·obtain rfl : k = n := by omega
    go_wp2_with fail
    go_ret
    refine ⟨ret_bool ?_, HQ.out⟩
    have h := HEQ.out
    rw [List.take_of_length_le (by rw [HN1.out]; exact Nat.le_refl _), List.take_of_length_le (by rw [← HN.out]; exact Nat.le_refl _)] at h
    simp [h]
 ·have HL := Lib.hid hl
  have ht : ((xs.length : Int) != (ys.length : Int)) = true := by simp only [bne_iff_ne, ne_eq]; omega
  clear hl
  go_enter Tryz.func61, Tryz.ntmps61
  go_wp2_with fail
  go_ret
  refine ⟨ret_bool ?_, 0, rfl⟩
  have : ¬ xs = ys := fun e => HL.out (by rw [e])
  simp [this]
theorem same17_c (A1 A2 : Option Addr) (c1 c2 : Nat) (xs ys : List Mk) (hx : xs.length ≤ maxLen) (hy : ys.length ≤ maxLen) (w : World) (h1 : At w w.heap.size A1 (kvs xs)) (h2 : At w w.heap.size A2 (kvs ys)) :
  Calls Tryz.prog 61 #[.slice A1 xs.length c1, .slice A2 ys.length c2] w fun e w' => e = .returned (.bool (decide (xs = ys))) ∧ Below w.heap.size w w' := by
 refine (same17_q A1 A2 c1 c2 xs ys hx hy w h1 h2).mono ?_
 rintro e w' ⟨rfl, q, rfl⟩
 exact ⟨rfl, below_drewN (Below.refl _ _) q⟩
def stepK (l : List Mk) (j : Nat) : Bool := match l[j]? with
 | none => true
 | some m => oneK m && (match j with
  | 0 => true
  | i + 1 => match l[i]? with
   | some p => decide (kr p < kr m)
   | none => true)
theorem mayK_steps {l : List Mk} : mayK l = true ↔ ∀ j, j < l.length → stepK l j = true := by
 rw [mayK_iff, asc_next]
 constructor
 ·rintro ⟨h1, h2⟩ j hj
  have hx : l[j]? = some l[j] := List.getElem?_eq_getElem hj
  unfold stepK
  rw [hx]
  simp only [Bool.and_eq_true]
  refine ⟨h1 _ (List.getElem_mem hj), ?_⟩
  cases j with
  | zero => rfl
  | succ i =>
   have hy : l[i]? = some l[i] := List.getElem?_eq_getElem (by omega)
   show (match l[i]? with
    | some p => decide (kr p < kr l[i + 1])
    | none => true) = true
   rw [hy]
   exact decide_eq_true (h2 i _ _ hy hx)
 ·intro h
  refine ⟨fun m hm => ?_, fun i a b ha hb => ?_⟩
  ·obtain ⟨j, hj, e⟩ := List.mem_iff_getElem.1 hm
   have hs := h j hj
   unfold stepK at hs
   rw [List.getElem?_eq_getElem hj, e] at hs
   simp only [Bool.and_eq_true] at hs
   exact hs.1
  ·have hj := (List.getElem?_eq_some_iff.1 hb).1
   have hs := h (i + 1) hj
   unfold stepK at hs
   rw [hb] at hs
   simp only [Bool.and_eq_true] at hs
   have h2 := hs.2
   rw [ha] at h2
   simpa using h2
theorem mayK_bad {l : List Mk} {k : Nat} (hk : k < l.length) (h : stepK l k = false) : mayK l = false := by
 cases hm : mayK l with
 | false => rfl
 | true => rw [mayK_steps.1 hm k hk] at h; cases h
theorem stepK_one {l : List Mk} {k : Nat} {x : Mk} (hx : l[k]? = some x) (h : oneK x = false) : stepK l k = false := by simp [stepK, hx, h]
theorem stepK_zero {l : List Mk} {x : Mk} (hx : l[0]? = some x) (h : oneK x = true) : stepK l 0 = true := by simp [stepK, hx, h]
theorem stepK_next {l : List Mk} {k : Nat} {x p : Mk} (hx : l[k + 1]? = some x) (hp : l[k]? = some p) (h : oneK x = true) : stepK l (k + 1) = decide (kr p < kr x) := by
 simp [stepK, hx, hp, h]
theorem steps_all {l : List Mk} {k : Nat} (h : ∀ j, j < k → stepK l j = true) (hk : stepK l k = true) : ∀ j, j < k + 1 → stepK l j = true := fun j hj => by
 by_cases e : j = k
 ·subst e; exact hk
 ·exact h j (by omega)
set_option maxHeartbeats 8000000 in
theorem kmay_c (A : Option Addr) (cap : Nat) (l : List Mk) (hl : l.length ≤ maxLen) (w : World) (hc : At w w.heap.size A (kvs l)) :
  Calls Tryz.prog 106 #[.slice A l.length cap] w fun e w' => e = .returned (.bool (mayK l)) ∧ Below w.heap.size w w' := by
 unfold maxLen at hl
 have HC := Lib.hid hc
 obtain ⟨R, hR⟩ : ∃ R, mayK l = R := ⟨_, rfl⟩
 rw [hR]
 have HR := Lib.hid hR
 clear hc hR
 go_enter Tryz.func106, Tryz.ntmps106
 go_wp2_with fail
 go_loopw [7] (fun i wr => ∃ k : Nat, i = .int .i64 (k : Int) ∧ k ≤ l.length ∧ (∀ j, j < k → stepK l j = true) ∧ Below w.heap.size w wr) (fun i _ => l.length - (intOf i).toNat)
 case atStart => exact ⟨0, rfl, Nat.zero_le _, fun j hj => absurd hj (Nat.not_lt_zero _), Below.refl _ _⟩
 case round =>
  obtain ⟨k, rfl, hk, hst, hbw⟩ := hrel
  have HST := Lib.hid hst
  have HBW := Lib.hid hbw
  clear hst hbw
  by_cases hlt : k < l.length
  ·obtain ⟨x, hx⟩ := some_at hlt
   obtain ⟨b0, o0, rfl, -, x0, x1⟩ := mark_cells (HC.out.keep HBW.out) hx
   have hk0 : (0 : Int) ≤ (k : Int) := by omega
   have hkl : (k : Int) < (l.length : Int) := by omega
   have HBX := Lib.hid (HBW.out.trans (((Below.refl wr.heap.size wr).alloc (Nat.le_refl _) (.cells #[.int .i64 (kr x), .int .i64 (kc x)] 105)).mono HBW.out.size))
   by_cases g0 : kr x < 1
   ·have hd0 : decide (kr x < 1) = true := decide_eq_true g0
    have HBAD := Lib.hid (mayK_bad hlt (stepK_one hx (by rw [← Bool.not_eq_true, oneK_iff]; omega)))
    clear hx
    go_wp2_with fail
    go_ret
    exact ⟨by rw [← HR.out, HBAD.out]; rfl, HBX.out⟩
   have hd0 : decide (kr x < 1) = false := decide_eq_false g0
   by_cases g1 : 255 < kr x
   ·have hd1 : decide (255 < kr x) = true := decide_eq_true g1
    have HBAD := Lib.hid (mayK_bad hlt (stepK_one hx (by rw [← Bool.not_eq_true, oneK_iff]; omega)))
    clear hx
    go_wp2_with fail
    go_ret
    exact ⟨by rw [← HR.out, HBAD.out]; rfl, HBX.out⟩
   have hd1 : decide (255 < kr x) = false := decide_eq_false g1
   by_cases g2 : kc x < 1
   ·have hd2 : decide (kc x < 1) = true := decide_eq_true g2
    have HBAD := Lib.hid (mayK_bad hlt (stepK_one hx (by rw [← Bool.not_eq_true, oneK_iff]; omega)))
    clear hx
    go_wp2_with fail
    go_ret
    exact ⟨by rw [← HR.out, HBAD.out]; rfl, HBX.out⟩
   have hd2 : decide (kc x < 1) = false := decide_eq_false g2
   by_cases g3 : 4611686018427387903 < kc x
   ·have hd3 : decide (4611686018427387903 < kc x) = true := decide_eq_true g3
    have HBAD := Lib.hid (mayK_bad hlt (stepK_one hx (by rw [← Bool.not_eq_true, oneK_iff]; omega)))
    clear hx
    go_wp2_with fail
    go_ret
    exact ⟨by rw [← HR.out, HBAD.out]; rfl, HBX.out⟩
   have hd3 : decide (4611686018427387903 < kc x) = false := decide_eq_false g3
   have hone : oneK x = true := by rw [oneK_iff]; omega
   cases k with
   | zero =>
    have x0z : wr.cell? ⟨b0, o0, none⟩ = some (.int .i64 (kr x)) := by rw [Nat.zero_mul, Nat.add_zero] at x0; exact x0
    have x1z : wr.cell? ⟨b0, o0 + 1, none⟩ = some (.int .i64 (kc x)) := by rw [Nat.zero_mul, Nat.add_zero] at x1; exact x1
    have HS := Lib.hid (steps_all HST.out (stepK_zero hx hone))
    clear hx hone
    go_wp2_with fail
    go_quiet (fail)
    go_wp2_with fail
    go_roundw
    case rel => exact ⟨0 + 1, by go_num, by omega, HS.out, below_drewN HBX.out _⟩
    case measure => simp only [intOf]; omega
   | succ i =>
    obtain ⟨p, hp⟩ := some_at (show i < l.length by omega)
    obtain ⟨_, _, e9, -, y0, -⟩ := mark_cells (HC.out.keep HBW.out) hp
    cases e9
    have hsn := stepK_next hx hp hone
    have y0x : (wr.alloc (.cells #[.int .i64 (kr x), .int .i64 (kc x)] 105)).cell? ⟨b0, o0 + i * 2, none⟩ = some (.int .i64 (kr p)) := keep_cell ((Below.refl _ _).alloc (Nat.le_refl _) _) y0
    have hi0 : (0 : Int) < ((i + 1 : Nat) : Int) := by omega
    have hi1 : ((i + 1 : Nat) : Int) - 1 = (i : Int) := by omega
    have hi2 : (0 : Int) ≤ (i : Int) := by omega
    have hi3 : (i : Int) < (l.length : Int) := by omega
    by_cases g5 : kr p < kr x
    ·have hd5 : decide (kr x ≤ kr p) = false := decide_eq_false (by omega)
     have HS := Lib.hid (steps_all HST.out (hsn.trans (decide_eq_true g5)))
     clear hx hone hp hsn
     go_wp2_with fail
     go_quiet (fail)
     go_wp2_with fail
     go_roundw
     case rel => exact ⟨i + 1 + 1, by go_num, by omega, HS.out, below_drewN HBX.out _⟩
     case measure => simp only [intOf]; omega
    ·have hd5 : decide (kr x ≤ kr p) = true := decide_eq_true (by omega)
     have HBAD := Lib.hid (mayK_bad hlt (hsn.trans (decide_eq_false g5)))
     clear hx hone hp hsn
     go_wp2_with fail
     go_quiet (fail)
     go_wp2_with fail
     go_ret
     exact ⟨by rw [← HR.out, HBAD.out]; rfl, below_drewN HBX.out _⟩
  ·obtain rfl : k = l.length := by omega
   have HOK := Lib.hid (mayK_steps.2 HST.out)
   go_wp2_with fail
   go_ret
   exact ⟨by rw [← HR.out, HOK.out]; rfl, HBW.out⟩
set_option maxHeartbeats 8000000 in
theorem rkmay_c (A : Option Addr) (cap : Nat) (l : List Mk) (hl : l.length ≤ maxLen) (w : World) (hc : At w w.heap.size A (kvs l)) :
  Calls Tryz.prog 113 #[.slice A l.length cap] w fun e w' => e = .returned (.bool (mayK l)) ∧ Below w.heap.size w w' := by
 unfold maxLen at hl
 have HC := Lib.hid hc
 obtain ⟨R, hR⟩ : ∃ R, mayK l = R := ⟨_, rfl⟩
 rw [hR]
 have HR := Lib.hid hR
 clear hc hR
 go_enter Tryz.func113, Tryz.ntmps113
 go_wp2_with fail
 go_loopw [3] (fun i wr => ∃ k : Nat, i = .int .i64 (k : Int) ∧ k ≤ l.length ∧ (∀ j, j < k → stepK l j = true) ∧ Below w.heap.size w wr) (fun i _ => l.length - (intOf i).toNat)
 case atStart => exact ⟨0, rfl, Nat.zero_le _, fun j hj => absurd hj (Nat.not_lt_zero _), Below.refl _ _⟩
 case round =>
  obtain ⟨k, rfl, hk, hst, hbw⟩ := hrel
  have HST := Lib.hid hst
  have HBW := Lib.hid hbw
  clear hst hbw
  by_cases hlt : k < l.length
  ·obtain ⟨x, hx⟩ := some_at hlt
   obtain ⟨b0, o0, rfl, -, x0, x1⟩ := mark_cells (HC.out.keep HBW.out) hx
   have hk0 : (0 : Int) ≤ (k : Int) := by omega
   have hkl : (k : Int) < (l.length : Int) := by omega
   by_cases g0 : kr x < 1
   ·have hd0 : decide (kr x < 1) = true := decide_eq_true g0
    have HBAD := Lib.hid (mayK_bad hlt (stepK_one hx (by rw [← Bool.not_eq_true, oneK_iff]; omega)))
    clear hx
    go_wp2_with fail
    go_quiet (fail)
    go_wp2_with fail
    go_ret
    exact ⟨by rw [← HR.out, HBAD.out]; rfl, below_drewN HBW.out _⟩
   have hd0 : decide (kr x < 1) = false := decide_eq_false g0
   by_cases g1 : 255 < kr x
   ·have hd1 : decide (255 < kr x) = true := decide_eq_true g1
    have HBAD := Lib.hid (mayK_bad hlt (stepK_one hx (by rw [← Bool.not_eq_true, oneK_iff]; omega)))
    clear hx
    go_wp2_with fail
    go_quiet (fail)
    go_wp2_with fail
    go_ret
    exact ⟨by rw [← HR.out, HBAD.out]; rfl, below_drewN HBW.out _⟩
   have hd1 : decide (255 < kr x) = false := decide_eq_false g1
   by_cases g2 : kc x < 1
   ·have hd2 : decide (kc x < 1) = true := decide_eq_true g2
    have HBAD := Lib.hid (mayK_bad hlt (stepK_one hx (by rw [← Bool.not_eq_true, oneK_iff]; omega)))
    clear hx
    go_wp2_with fail
    go_quiet (fail)
    go_wp2_with fail
    go_ret
    exact ⟨by rw [← HR.out, HBAD.out]; rfl, below_drewN HBW.out _⟩
   have hd2 : decide (kc x < 1) = false := decide_eq_false g2
   by_cases g3 : 4611686018427387903 < kc x
   ·have hd3 : decide (4611686018427387903 < kc x) = true := decide_eq_true g3
    have HBAD := Lib.hid (mayK_bad hlt (stepK_one hx (by rw [← Bool.not_eq_true, oneK_iff]; omega)))
    clear hx
    go_wp2_with fail
    go_quiet (fail)
    go_wp2_with fail
    go_ret
    exact ⟨by rw [← HR.out, HBAD.out]; rfl, below_drewN HBW.out _⟩
   have hd3 : decide (4611686018427387903 < kc x) = false := decide_eq_false g3
   have hone : oneK x = true := by rw [oneK_iff]; omega
   cases k with
   | zero =>
    have x0z : wr.cell? ⟨b0, o0, none⟩ = some (.int .i64 (kr x)) := by rw [Nat.zero_mul, Nat.add_zero] at x0; exact x0
    have x1z : wr.cell? ⟨b0, o0 + 1, none⟩ = some (.int .i64 (kc x)) := by rw [Nat.zero_mul, Nat.add_zero] at x1; exact x1
    have HS := Lib.hid (steps_all HST.out (stepK_zero hx hone))
    clear hx hone
    go_wp2_with fail
    go_quiet (fail)
    go_wp2_with fail
    go_roundw
    case rel => exact ⟨0 + 1, by go_num, by omega, HS.out, below_drewN HBW.out _⟩
    case measure => simp only [intOf]; omega
   | succ i =>
    obtain ⟨p, hp⟩ := some_at (show i < l.length by omega)
    obtain ⟨_, _, e9, -, y0, -⟩ := mark_cells (HC.out.keep HBW.out) hp
    cases e9
    have hsn := stepK_next hx hp hone
    have hi0 : (0 : Int) < ((i + 1 : Nat) : Int) := by omega
    have hi1 : ((i + 1 : Nat) : Int) - 1 = (i : Int) := by omega
    have hi2 : (0 : Int) ≤ (i : Int) := by omega
    have hi3 : (i : Int) < (l.length : Int) := by omega
    by_cases g5 : kr p < kr x
    ·have hd5 : decide (kr x ≤ kr p) = false := decide_eq_false (by omega)
     have HS := Lib.hid (steps_all HST.out (hsn.trans (decide_eq_true g5)))
     clear hx hone hp hsn
     go_wp2_with fail
     go_quiet (fail)
     go_wp2_with fail
     go_roundw
     case rel => exact ⟨i + 1 + 1, by go_num, by omega, HS.out, below_drewN HBW.out _⟩
     case measure => simp only [intOf]; omega
    ·have hd5 : decide (kr x ≤ kr p) = true := decide_eq_true (by omega)
     have HBAD := Lib.hid (mayK_bad hlt (hsn.trans (decide_eq_false g5)))
     clear hx hone hp hsn
     go_wp2_with fail
     go_quiet (fail)
     go_wp2_with fail
     go_ret
     exact ⟨by rw [← HR.out, HBAD.out]; rfl, below_drewN HBW.out _⟩
  ·obtain rfl : k = l.length := by omega
   have HOK := Lib.hid (mayK_steps.2 HST.out)
   go_wp2_with fail
   go_ret
   exact ⟨by rw [← HR.out, HOK.out]; rfl, HBW.out⟩
end Go.Proofs.YthhckdjagnlgpaaGreat
end
section
namespace Go.Proofs.YthhckdjagnlgpaaGreat
open Go.RowKit Go.IntWalk
set_option maxRecDepth 100000
attribute [local go_sem] Oper.semAt_some
end Go.Proofs.YthhckdjagnlgpaaGreat
end
