/-
 Plain mathematics of layer 21: the moves of any bytes. No Go.
 A name that is read: the program's.
-/
import Derived.Test.YtojhenpaeedimaaZc
import Derived.Test.YtojhenpaeedimaaEe
import Derived.Test.YtojhenpaeedimaaCue
import Derived.Test.YtojhenpaeedimaaBi
import Derived.Test.YtojhenpaeedimaaUg
section
namespace Go.Proofs.Ytojhenpaeedimaa.Rf
open Pk Ck Fl
set_option maxRecDepth 100000
def zM : Mv := (0, 0, 0, 0, [], 0)
/-- a move is read: f is the file -/
def rdM (f : List UInt8) (s : St) : Mv × Int × St :=
 let s1 := numS s
 let s2 := numS s1
 let s3 := numS s2
 let s4 := numS s3
 if s4.e ≠ 0 then (zM, s4.e, s4) else
 let t := tk f ((f.length : Int) - (s4.l.length : Int)) 64
 if t.2.2 ≠ 0 then (zM, t.2.2, s4) else
 let s5 := takeS (t.2.1 - ((f.length : Int) - (s4.l.length : Int))) s4
 let s6 := fixS s5
 if s6.e ≠ 0 then (zM, s6.e, s6) else
 let m : Mv := (i64 (numV s), i64 (numV s1), i64 (numV s3), i64 (numV s2), t.1, fl (fixV s5))
 if cn (fixV s5) && oneM m then (m, 0, s6) else (zM, 5, s6)
/-- n moves are read, each behind the one ahead (c, r) -/
def rdL (f : List UInt8) : Nat → Int → Int → St → List Mv × Int × St
 | 0, _, _, s => ([], 0, s)
 | n + 1, c, r, s =>
  if (rdM f s).2.1 ≠ 0 then ([], (rdM f s).2.1, s)
  else if c < mc (rdM f s).1 ∨ c = mc (rdM f s).1 ∧ r < mr (rdM f s).1 then
   if (rdL f n (mc (rdM f s).1) (mr (rdM f s).1) (rdM f s).2.2).2.1 ≠ 0 then ([], (rdL f n (mc (rdM f s).1) (mr (rdM f s).1) (rdM f s).2.2).2.1, s)
   else ((rdM f s).1 :: (rdL f n (mc (rdM f s).1) (mr (rdM f s).1) (rdM f s).2.2).1, 0, (rdL f n (mc (rdM f s).1) (mr (rdM f s).1) (rdM f s).2.2).2.2)
  else ([], 12, s)
/-- the moves of a file's bytes, and its error -/
def decR (f : List UInt8) : List Mv × Int :=
 if verE f ≠ 0 then ([], verE f)
 else if verV f ≠ 1 then ([], 8)
 else
  let s : St := ⟨f.drop 5, 0⟩
  if (numS s).e ≠ 0 then ([], (numS s).e)
  else if 2000 < numV s then ([], 10)
  else
   let r := rdL f (numV s) 0 0 (numS s)
   if r.2.1 ≠ 0 then ([], r.2.1)
   else if doneV r.2.2 ≠ 0 then ([], doneV r.2.2)
   else (r.1, 0)
end Go.Proofs.Ytojhenpaeedimaa.Rf
end
section
namespace Go.Proofs.Ytojhenpaeedimaa
open Go.RowKit Go.IntWalk
open Pk Rf Fl Wd
set_option maxRecDepth 100000
attribute [local go_sem] Oper.semAt_some
theorem grownB (A : World) (row : Option Nat) : A.grownBy A row := ⟨rfl, rfl, rfl, Nat.le_refl _, fun _ _ _ => rfl⟩
theorem below_thenG {A B C : World} {g : Nat} (h : Below A.heap.size A B) (k : B.grownBy C (some g)) : A.grownBy C (some g) :=
 ⟨k.os.trans h.os, k.tape.trans h.tape, k.output.trans h.output, Nat.le_trans h.size k.size, fun i hi hne => (k.block i (Nat.lt_of_lt_of_le hi h.size) hne).trans (h.block i hi)⟩
theorem grown_thenG {A B C : World} {g : Nat} (h : A.grownBy B (some g)) (k : B.grownBy C (some g)) : A.grownBy C (some g) :=
 ⟨k.os.trans h.os, k.tape.trans h.tape, k.output.trans h.output, Nat.le_trans h.size k.size, fun i hi hne => (k.block i (Nat.lt_of_lt_of_le hi h.size) hne).trans (h.block i hi hne)⟩
theorem grown_thenB {A B C : World} {g : Nat} (h : A.grownBy B (some g)) (k : Below B.heap.size B C) : A.grownBy C (some g) :=
 ⟨k.os.trans h.os, k.tape.trans h.tape, k.output.trans h.output, Nat.le_trans h.size k.size, fun i hi hne => (k.block i (Nat.lt_of_lt_of_le hi h.size)).trans (h.block i hi hne)⟩
theorem rdr_keep {w w' : World} {g : Nat} {s : St} (h : Rdr w g s) (hb : Below w.heap.size w w') : Rdr w' g s := is_below h hb (is_lt h)
theorem numS_le (s : St) : (numS s).l.length ≤ s.l.length := by
 unfold numS
 split
 ·split <;> simp
 ·exact Nat.le_refl _
theorem takeS_le (n : Int) (s : St) : (takeS n s).l.length ≤ s.l.length := by
 unfold takeS
 split
 ·split <;> simp
 ·exact Nat.le_refl _
theorem fixS_le (s : St) : (fixS s).l.length ≤ s.l.length := by
 unfold fixS
 split
 ·split <;> simp
 ·exact Nat.le_refl _
theorem tk_le (l : List UInt8) (a m : Int) : 0 ≤ (tk l a m).2.1 ∧ (tk l a m).2.1 ≤ l.length := by
 have h := numS_le ⟨l.drop a.toNat, 0⟩
 simp only [List.length_drop] at h
 unfold tk
 repeat' split
 all_goals simp
 omega
/-- a name is read -/
def namR (f : List UInt8) (s : St) : List UInt8 × Int × St :=
 if (tk f ((f.length : Int) - (s.l.length : Int)) 64).2.2 ≠ 0 then ([], (tk f ((f.length : Int) - (s.l.length : Int)) 64).2.2, s)
 else ((tk f ((f.length : Int) - (s.l.length : Int)) 64).1, 0, takeS ((tk f ((f.length : Int) - (s.l.length : Int)) 64).2.1 - ((f.length : Int) - (s.l.length : Int))) s)
set_option maxHeartbeats 4000000 in
theorem name_c (g : Nat) (f : List UInt8) (s : St) (hf : f.length ≤ 100000000) (hs : s.l.length ≤ f.length) (w : World) (h : Rdr w g s) :
  Calls Try.prog 84 #[.agg #[.pointer (some ⟨g, 0, none⟩), .string (ba f)]] w fun e w' =>
   e = .returned (.tuple #[.string (ba (namR f s).1), .int .i64 (namR f s).2.1]) ∧ Rdr w' g (namR f s).2.2 ∧ w.grownBy w' (some g) := by
 obtain ⟨at_, hat⟩ : ∃ a : Int, a = (f.length : Int) - (s.l.length : Int) := ⟨_, rfl⟩
 obtain ⟨tn, to, te, ht⟩ : ∃ tn to te, tk f at_ 64 = (tn, to, te) := ⟨_, _, _, rfl⟩
 have hle := tk_le f at_ 64
 rw [ht] at hle
 simp only at hle
 have hnam : namR f s = if te ≠ 0 then ([], te, s) else (tn, 0, takeS (to - at_) s) := by unfold namR; rw [← hat, ht]
 have hwa : IntKind.i64.wrap ((f.length : Int) - (s.l.length : Int)) = at_ := by rw [← hat]; exact IntWalk.i64_in _ (by omega)
 have hwt : IntKind.i64.wrap (to - at_) = to - at_ := IntWalk.i64_in _ (by omega)
 have hbs := ba_size f
 obtain ⟨W1, hW1⟩ : ∃ W1, W1 = w.alloc (.cells #[.pointer (some ⟨g, 0, none⟩), .string (ba f)] 59) := ⟨_, rfl⟩
 have b1 : Below w.heap.size w W1 := by rw [hW1]; exact (Below.refl _ _).alloc (Nat.le_refl _) _
 have hi : Is W1 w.heap.size 59 [.pointer (some ⟨g, 0, none⟩), .string (ba f)] := by rw [hW1]; exact is_new w 59 _
 have HI := Lib.hid hi
 have HB1 := Lib.hid b1
 have HR1 := Lib.hid (rdr_keep h b1)
 have HW := Lib.hid hW1
 have HT := Lib.hid ht
 have HN := Lib.hid hnam
 clear hi b1 h hW1 ht hnam hat
 go_enter Try.func84, Try.ntmps84
 go_wp2_with fail
 rw [← HW.out]
 refine quiet_held (fun W' => Below W1.heap.size W1 W') (by kernel_rfl) (by kernel_rfl) (Below.refl _ _).drew ?_
 repeat (first
  | go_big_quiet_skip
  | (simp only [hwa])
  | (go_big_quiet_want; go_big_quiet_op; go_big_quiet_on)
  | (go_big_quiet_want; apply Exists.intro; refine ⟨fun wq hq => ?_, ?_⟩; (focus (have hx := is_below HI.out hq (is_lt HI.out); have z0 : wq.cell? ⟨w.heap.size, 0, none⟩ = some (.pointer (some ⟨g, 0, none⟩)) := is_cell hx 0; have z1 : wq.cell? ⟨w.heap.size, 1, none⟩ = some (.string (ba f)) := is_cell hx 1; unfold Oper.quietAt; go_simp; all_goals (first | rfl | exact ⟨rfl, rfl⟩ | (with_reducible refine (left_c g s _ (rdr_keep HR1.out hq)).mono ?_; rintro e w9 ⟨rfl, rfl⟩; exact ⟨rfl, hq⟩)))); simp only [Act.put, List.setIfInBounds_toArray, List.set_cons_zero, List.set_cons_succ]; go_big_quiet_on))
 refine wpQuiet_nil ?_
 intro W2 hb2
 have hx2 := is_below HI.out hb2 (is_lt HI.out)
 have z0 : W2.cell? ⟨w.heap.size, 0, none⟩ = some (.pointer (some ⟨g, 0, none⟩)) := is_cell hx2 0
 have z1 : W2.cell? ⟨w.heap.size, 1, none⟩ = some (.string (ba f)) := is_cell hx2 1
 have HX2 := Lib.hid hx2
 have HB2 := Lib.hid (HB1.out.trans (hb2.mono HB1.out.size))
 have HR2 := Lib.hid (rdr_keep HR1.out hb2)
 clear hx2 hb2
 go_wp2_with fail
 refine (take_w f (by omega) at_ 64 (by omega) _).mono ?_
 rintro e W3 ⟨htk, hb3⟩
 unfold Tk at htk
 rw [HT.out] at htk
 simp only at htk
 subst htk
 have hx3 := is_below HX2.out hb3 (is_lt HX2.out)
 have y0 : W3.cell? ⟨w.heap.size, 0, none⟩ = some (.pointer (some ⟨g, 0, none⟩)) := is_cell hx3 0
 have HB3 := Lib.hid (HB2.out.trans (hb3.mono HB2.out.size))
 have HR3 := Lib.hid (rdr_keep HR2.out hb3)
 clear hx3 hb3 z0 z1
 by_cases he : te = 0
 ·subst he
  have hn2 : namR f s = (tn, 0, takeS (to - at_) s) := by rw [HN.out]; rfl
  have HN2 := Lib.hid hn2
  clear hn2
  go_wp2_with fail
  refine (take_m g (to - at_) s _ HR3.out).mono ?_
  rintro e W4 ⟨rfl, hr4, hg4⟩
  have HR4 := Lib.hid hr4
  have HG4 := Lib.hid hg4
  clear hr4 hg4
  go_wp2_with fail
  go_ret2
  rw [HN2.out]
  exact ⟨rfl, HR4.out, below_thenG HB3.out HG4.out⟩
 ·have hq1 : (te != 0) = true := by simpa using he
  have hq2 : (te == 0) = false := by simpa using he
  have hn2 : namR f s = ([], te, s) := by rw [HN.out, if_pos he]
  have HN2 := Lib.hid hn2
  clear hn2 he
  go_wp2_with fail
  go_ret2
  rw [HN2.out]
  exact ⟨rfl, HR3.out, below_thenG HB3.out (grownB _ _)⟩
end Go.Proofs.Ytojhenpaeedimaa
end
