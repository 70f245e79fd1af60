/-
 Plain facts of layer 21's live. No Go.
 What the document gives for answers: live of layer 21.
 Contracts of layer 21 at letters.
 Plain facts for the walks of layer 21. No Go.
 Plain mathematics of layer 19: moves as columns. No Go.
-/
import Derived.Test.YtojhenpaeedimaaGreatOa
import Derived.Test.YtojhenpaeedimaaGreatZs
import Derived.Test.YtojhenpaeedimaaGreatZe
import Derived.Test.YtojhenpaeedimaaGreatUl
section
namespace Go.Proofs.YtojhenpaeedimaaGreat.Rf
open Pk Ck Fl Wd
set_option maxRecDepth 100000
namespace live21
def m0 : Mv := (5, 2, 300, 0, [97], 4607182418800017408)
def F : List UInt8 := [66, 78, 83, 73, 1, 1, 5, 2, 0, 172, 2, 1, 97, 0, 0, 0, 0, 0, 0, 240, 63]
def O : List UInt8 := [5, 2, 0, 172, 2, 1, 97, 0, 0, 0, 0, 0, 0, 240, 63]
theorem enc : encB [m0] = F := by kernel_rfl
theorem may : mayM [m0] = true := by kernel_rfl
theorem one : oneB m0 = O := by kernel_rfl
theorem dec : decR F = ([m0], 0) := by rw [← enc, decR_enc _ may (by intro m hm; rw [List.mem_singleton.1 hm]; decide)]; kernel_rfl
theorem d2 : decR [66, 78, 83, 73, 2, 0] = ([], 8) := by kernel_rfl
theorem d7 : decR [66, 78, 83, 88] = ([], 7) := by kernel_rfl
theorem d0 : decR [66, 78, 83, 73, 1, 0] = ([], 0) := by kernel_rfl
theorem dx : decR (F ++ [120]) = ([], 5) := by kernel_rfl
theorem dd : decR ([66, 78, 83, 73, 1, 2] ++ O ++ O) = ([], 12) := by kernel_rfl
theorem sm : sameM [m0] [m0] = true := by kernel_rfl
end live21
end Go.Proofs.YtojhenpaeedimaaGreat.Rf
end
section
namespace Go.Proofs.YtojhenpaeedimaaGreat
open Go.RowKit Go.IntWalk
open Pk Ck Rf Fl Wd
set_option maxRecDepth 100000
attribute [local go_sem] Oper.semAt_some
theorem is_atM {w : World} {b : Nat} {t : TypeId} {xs : List Value} {B : Nat} (h : Is w b t xs) (hb : b < B) : At w B (some ⟨b, 0, none⟩) xs := fun i v hv => ⟨b, 0, rfl, hb, by rw [Nat.zero_add]; exact (is_cell h i).trans hv⟩
theorem pencode_v {l : List Mv} {S : ByteArray} {x : Int} {A : Option Addr} {n cap : Nat} {w : World} (hn : l.length = n) (hS : ba (encT l) = S) (hx : encE l = x) (hl : l.length ≤ 10000) (ho : Mok l) (hc : At w w.heap.size A (mvs l)) :
  Calls Tryz.prog 29 #[.slice A n cap] w fun e w' => e = .returned (.tuple #[.string S, .int .i64 x]) ∧ Below w.heap.size w w' := by
 subst hS hx hn; exact pencode_c A cap l hl ho w hc
/-- the program's Decode of bytes that are none -/
theorem pdecode_n {f : List UInt8} {S : ByteArray} {x : Int} (hS : ba f = S) (hf : f.length ≤ 100000000) (h : decR f = ([], x)) (hx : x ≠ 0) (w : World) :
  Calls Tryz.prog 30 #[.string S] w fun e w' => e = .returned (.tuple #[.slice none 0 0, .int .i64 x]) ∧ Below w.heap.size w w' := by
 subst hS
 refine (pdecode_c f hf w).mono ?_
 rintro e w' ⟨hb, he⟩
 rw [h, if_pos hx] at he
 exact ⟨he, hb⟩
theorem pdecode_y {f : List UInt8} {S : ByteArray} {l : List Mv} (hS : ba f = S) (hf : f.length ≤ 100000000) (h : decR f = (l, 0)) (w : World) :
  Calls Tryz.prog 30 #[.string S] w fun e w' => ∃ L, e = .returned (.tuple #[.slice (some ⟨L, 0, none⟩) l.length l.length, .int .i64 0]) ∧ w.heap.size ≤ L ∧ At w' w'.heap.size (some ⟨L, 0, none⟩) (mvs l) ∧ Below w.heap.size w w' := by
 subst hS
 refine (pdecode_c f hf w).mono ?_
 rintro e w' ⟨hb, he⟩
 rw [h, if_neg (by simp)] at he
 obtain ⟨L, h1, h2, h3⟩ := he
 exact ⟨L, h1, h2, is_atM h3 (is_lt h3), hb⟩
theorem pone_v {m : Mv} {S : ByteArray} (hS : ba (oneB m) = S) (hr : rk (mw m) < 18446744073709551616) (hn : (nm (mw m)).length ≤ 100000) (w : World) :
  Calls Tryz.prog 85 #[mv m] w fun e w' => e = .returned (.string S) ∧ Below w.heap.size w w' := by
 subst hS; exact pone_c m hr hn w
theorem rmsame_v {xs ys : List Mv} {q : Bool} {A1 A2 : Option Addr} {n1 n2 c1 c2 : Nat} {w : World} (h : sameM xs ys = q) (e1 : xs.length = n1) (e2 : ys.length = n2) (hx : xs.length ≤ maxLen) (hy : ys.length ≤ maxLen) (hwx : Moves_ xs) (hwy : Moves_ ys) (h1 : At w w.heap.size A1 (mvs xs)) (h2 : At w w.heap.size A2 (mvs ys)) :
  Calls Tryz.prog 25 #[.slice A1 n1 c1, .slice A2 n2 c2] w fun e w' => e = .returned (.bool q) ∧ Below w.heap.size w w' := by
 subst h e1 e2; exact rmsame_c A1 A2 c1 c2 xs ys hx hy hwx hwy w h1 h2
theorem three_keepZ {A1 A2 : Option Addr} {xs ys : List Value} {w w1 w2 : World} (h : At w1 w1.heap.size A1 xs ∧ At w1 w1.heap.size A2 ys ∧ Below w.heap.size w w1) (hb : Below w1.heap.size w1 w2) : At w2 w2.heap.size A1 xs ∧ At w2 w2.heap.size A2 ys ∧ Below w.heap.size w w2 :=
 ⟨h.1.keep hb, h.2.1.keep hb, h.2.2.trans (hb.mono h.2.2.size)⟩
theorem live21.cells {w : World} {B b : Nat} (h : At w B (some ⟨b, 0, none⟩) (mvs [live21.m0])) : w.cell? ⟨b, 0, none⟩ = some (.int .i64 5) ∧ w.cell? ⟨b, 1, none⟩ = some (.int .i64 2) ∧ w.cell? ⟨b, 2, none⟩ = some (.int .i64 0) ∧ w.cell? ⟨b, 3, none⟩ = some (.int .i64 300) ∧ w.cell? ⟨b, 4, none⟩ = some (.string ⟨#[97]⟩) ∧ w.cell? ⟨b, 5, none⟩ = some (.float .f64 4607182418800017408) := by
 obtain ⟨b9, o9, e9, -, d0, d1, d2, d3, d4, d5⟩ := move_cells h (k := 0) (x := live21.m0) rfl
 cases e9
 exact ⟨d0, d1, d2, d3, d4, d5⟩
theorem live21.mk : Mok [live21.m0] := fun m hm => by rw [List.mem_singleton.1 hm]; exact ⟨by decide, by decide⟩
theorem live21.mz : Mok [zM] := fun m hm => by rw [List.mem_singleton.1 hm]; exact ⟨by decide, by decide⟩
theorem live21.mw : Moves_ [live21.m0] := fun m hm => by rw [List.mem_singleton.1 hm]; exact ⟨by decide, by decide⟩
theorem live21.c1 {A : Option Addr} {cap : Nat} {S : ByteArray} (hS : ba live21.F = S) {w : World} (h : At w w.heap.size A (mvs [live21.m0])) :
  Calls Tryz.prog 29 #[.slice A 1 cap] w fun e w' => e = .returned (.tuple #[.string S, .int .i64 0]) ∧ Below w.heap.size w w' := by
 have h1 : encT [live21.m0] = live21.F := by kernel_rfl
 have h2 : encE [live21.m0] = 0 := by kernel_rfl
 exact pencode_v rfl (by rw [h1]; exact hS) h2 (by decide) live21.mk h
theorem live21.c2 {A : Option Addr} {cap : Nat} {w : World} (h : At w w.heap.size A (mvs [zM])) :
  Calls Tryz.prog 29 #[.slice A 1 cap] w fun e w' => e = .returned (.tuple #[.string ⟨#[]⟩, .int .i64 1]) ∧ Below w.heap.size w w' := by
 have h1 : encT [zM] = [] := by kernel_rfl
 have h2 : encE [zM] = 1 := by kernel_rfl
 exact pencode_v rfl (by rw [h1]; rfl) h2 (by decide) live21.mz h
set_option maxHeartbeats 8000000 in
theorem live21_c (w : World) :
  Calls Tryz.prog 28 #[] w fun e w' => e = .returned (.bool true) ∧ Below w.heap.size w w' := by
 obtain ⟨S, hS⟩ : ∃ S, ba live21.F = S := ⟨_, rfl⟩
 obtain ⟨O, hO⟩ : ∃ S, ba live21.O = S := ⟨_, rfl⟩
 obtain ⟨S1, hS1⟩ : ∃ S, ba (live21.F ++ [120]) = S := ⟨_, rfl⟩
 obtain ⟨S2, hS2⟩ : ∃ S, ba ([66, 78, 83, 73, 1, 2] ++ live21.O) = S := ⟨_, rfl⟩
 obtain ⟨S3, hS3⟩ : ∃ S, ba ([66, 78, 83, 73, 1, 2] ++ live21.O ++ live21.O) = S := ⟨_, rfl⟩
 have a1 : ∀ w : World, (Op.stringOp .add S ⟨#[120]⟩).run Tryz.prog w = .ok (.string S1) w := fun w => by rw [← hS, ← hS1]; exact hadd_v live21.F [120] (by decide) w
 have a2 : ∀ w : World, (Op.stringOp .add ⟨#[66, 78, 83, 73, 1, 2]⟩ O).run Tryz.prog w = .ok (.string S2) w := fun w => by rw [← hO, ← hS2]; exact hadd_v [66, 78, 83, 73, 1, 2] live21.O (by decide) w
 have a3 : ∀ w : World, (Op.stringOp .add S2 O).run Tryz.prog w = .ok (.string S3) w := fun w => by rw [← hO, ← hS2, ← hS3]; exact hadd_v ([66, 78, 83, 73, 1, 2] ++ live21.O) live21.O (by decide) w
 have HS := Lib.hid hS
 have HO := Lib.hid hO
 have HS1 := Lib.hid hS1
 have HS3 := Lib.hid hS3
 clear hS hO hS1 hS2 hS3
 go_enter Tryz.func28, Tryz.ntmps28
 obtain ⟨w1, hw1⟩ : ∃ w1, w1 = w.alloc (.cells #[.int .i64 5, .int .i64 2, .int .i64 0, .int .i64 300, .string ⟨#[97]⟩, .float .f64 4607182418800017408] 51) := ⟨_, rfl⟩
 have b1 : Below w.heap.size w w1 := by rw [hw1]; exact (Below.refl _ _).alloc (Nat.le_refl _) _
 have l1 : At w1 w1.heap.size (some ⟨w.heap.size, 0, none⟩) (mvs [live21.m0]) := by
  have hi : Is w1 w.heap.size 51 (mvs [live21.m0]) := by rw [hw1]; exact is_new w 51 (mvs [live21.m0])
  exact is_atM hi (is_lt hi)
 obtain ⟨g, hg⟩ : ∃ g, w.heap.size = g := ⟨_, rfl⟩
 rw [hg] at l1
 have B1 := Lib.hid b1
 have L1 := Lib.hid l1
 have H1 := Lib.hid hw1
 clear b1 l1 hw1
 go_wp2_with fail
 rw [← H1.out]
 clear hg
 with_reducible refine (live21.c1 HS.out L1.out).mono ?_
 rintro e w2 ⟨rfl, hb⟩
 have B2 := Lib.hid (B1.out.trans (hb.mono B1.out.size))
 have L2 := Lib.hid (L1.out.keep hb)
 clear hb
 go_wp2_with fail
 refine (pdecode_y (f := live21.F) HS.out (by decide) live21.dec _).mono ?_
 rintro e w3 ⟨L, rfl, -, hl, hb⟩
 have B3 := Lib.hid (B2.out.trans (hb.mono B2.out.size))
 have L3 := Lib.hid (L2.out.keep hb)
 have M3 := Lib.hid hl
 clear hb hl
 go_wp2_with fail
 refine (pdecode_n (f := [66, 78, 83, 73, 2, 0]) rfl (by decide) live21.d2 (by decide) _).mono ?_
 rintro e w4 ⟨rfl, hb⟩
 have B4 := Lib.hid (B3.out.trans (hb.mono B3.out.size))
 have L4 := Lib.hid (L3.out.keep hb)
 have M4 := Lib.hid (M3.out.keep hb)
 clear hb
 go_wp2_with fail
 refine (pdecode_n (f := live21.F ++ [120]) HS1.out (by decide) live21.dx (by decide) _).mono ?_
 rintro e w5 ⟨rfl, hb⟩
 have B5 := Lib.hid (B4.out.trans (hb.mono B4.out.size))
 have L5 := Lib.hid (L4.out.keep hb)
 have M5 := Lib.hid (M4.out.keep hb)
 clear hb
 obtain ⟨w6, hw6⟩ : ∃ w6, w6 = w5.alloc (.cells #[.int .i64 0, .int .i64 0, .int .i64 0, .int .i64 0, .string ⟨#[]⟩, .float .f64 0] 51) := ⟨_, rfl⟩
 have hb : Below w5.heap.size w5 w6 := by rw [hw6]; exact (Below.refl _ _).alloc (Nat.le_refl _) _
 have B6 := Lib.hid (B5.out.trans (hb.mono B5.out.size))
 have L6 := Lib.hid (L5.out.keep hb)
 have M6 := Lib.hid (M5.out.keep hb)
 have Z6 : Hid (At w6 w6.heap.size (some ⟨w5.heap.size, 0, none⟩) (mvs [zM])) := by
  have hi : Is w6 w5.heap.size 51 (mvs [zM]) := by rw [hw6]; exact is_new w5 51 (mvs [zM])
  exact is_atM hi (is_lt hi)
 have H6 := Lib.hid hw6
 clear hb hw6
 go_wp2_with fail
 rw [← H6.out]
 with_reducible refine (live21.c2 Z6.out).mono ?_
 rintro e w7 ⟨rfl, hb⟩
 have B7 := Lib.hid (B6.out.trans (hb.mono B6.out.size))
 have L7 := Lib.hid (L6.out.keep hb)
 have M7 := Lib.hid (M6.out.keep hb)
 clear hb
 go_wp2_with fail
 have hone := fun W => pone_v (m := live21.m0) (S := O) (show _ = O by rw [live21.one]; exact HO.out) (by decide) (by decide) W
 have hdec := fun W => pdecode_n (f := [66, 78, 83, 73, 1, 2] ++ live21.O ++ live21.O) HS3.out (by decide) live21.dd (by decide) W
 have hone2 : ∀ W : World, Calls Tryz.prog 85 #[.agg #[.int .i64 5, .int .i64 2, .int .i64 0, .int .i64 300, .string ⟨#[97]⟩, .float .f64 4607182418800017408]] W fun e w' => e = .returned (.string O) ∧ Below W.heap.size W w' := hone
 have HONE := Lib.hid hone2
 have HDEC := Lib.hid hdec
 clear hone hone2 hdec
 refine quiet_held (fun w' => At w' w'.heap.size (some ⟨g, 0, none⟩) (mvs [live21.m0]) ∧ At w' w'.heap.size (some ⟨L, 0, none⟩) (mvs [live21.m0]) ∧ Below w.heap.size w w') (by kernel_rfl) (by kernel_rfl) ⟨L7.out, M7.out, B7.out.drew⟩ ?_
 repeat (first
  | go_big_quiet_skip
  | (simp only [a2])
  | (simp only [a3])
  | (go_big_quiet_want; go_big_quiet_op; go_big_quiet_on)
  | (go_big_quiet_want; apply Exists.intro; refine ⟨fun wq hq => ?_, ?_⟩; (focus (obtain ⟨d0, d1, d2, d3, d4, d5⟩ := live21.cells hq.1; unfold Oper.quietAt; go_simp; all_goals (first | rfl | exact ⟨rfl, rfl⟩ | (with_reducible refine (HONE.out _).mono ?_; rintro e w9 ⟨rfl, hbn⟩; exact ⟨rfl, three_keepZ hq hbn⟩) | (with_reducible refine (HDEC.out _).mono ?_; rintro e w9 ⟨rfl, hbn⟩; exact ⟨rfl, three_keepZ hq hbn⟩)))); simp only [Act.put, List.setIfInBounds_toArray, List.set_cons_zero, List.set_cons_succ]; go_big_quiet_on))
 refine wpQuiet_nil ?_
 intro w8 hq
 have B8 := Lib.hid hq.2.2
 have L8 := Lib.hid hq.1
 have M8 := Lib.hid hq.2.1
 clear hq
 go_wp2_with fail
 refine (pdecode_y (f := [66, 78, 83, 73, 1, 0]) rfl (by decide) live21.d0 _).mono ?_
 rintro e w9 ⟨L9, rfl, -, -, hb⟩
 have B9 := Lib.hid (B8.out.trans (hb.mono B8.out.size))
 have L9 := Lib.hid (L8.out.keep hb)
 have M9 := Lib.hid (M8.out.keep hb)
 clear hb
 go_wp2_with fail
 refine (pdecode_n (f := [66, 78, 83, 88]) rfl (by decide) live21.d7 (by decide) _).mono ?_
 rintro e w10 ⟨rfl, hb⟩
 have B10 := Lib.hid (B9.out.trans (hb.mono B9.out.size))
 have L10 := Lib.hid (L9.out.keep hb)
 have M10 := Lib.hid (M9.out.keep hb)
 clear hb
 have hSl : S = ⟨#[66, 78, 83, 73, 1, 1, 5, 2, 0, 172, 2, 1, 97, 0, 0, 0, 0, 0, 0, 240, 63]⟩ := by rw [← HS.out]; rfl
 subst hSl
 have hsame := rmsame_v (A1 := some ⟨L, 0, none⟩) (A2 := some ⟨g, 0, none⟩) (c1 := 1) (c2 := 1) (n1 := 1) (n2 := 1) live21.sm rfl rfl (by decide) (by decide) live21.mw live21.mw M10.out L10.out
 have HSAME := Lib.hid hsame
 clear hsame
 go_wp2_with fail
 with_reducible refine HSAME.out.mono ?_
 rintro e w11 ⟨rfl, hb⟩
 have B11 := Lib.hid (B10.out.trans (hb.mono B10.out.size))
 clear hb
 go_wp2_with fail
 go_ret
 exact ⟨rfl, B11.out⟩
end Go.Proofs.YtojhenpaeedimaaGreat
end
section
namespace Go.Proofs.YtojhenpaeedimaaGreat
open Go.RowKit Go.IntWalk
open Pk Ck Rf Fl Wd
set_option maxRecDepth 100000
theorem mayM_all {l : List Mv} (h : mayM l = true) : ∀ m ∈ l, oneM m = true := by
 have h2 := (mayM_facts h).2
 cases l with
 | nil => intro m hm; simp at hm
 | cons x t =>
  unfold resM at h2
  simp only [Bool.and_eq_true] at h2
  have h3 := (resM_iff.1 h2.2.2).1
  intro m hm
  rcases List.mem_cons.1 hm with rfl | hm
  ·exact h2.1
  ·exact h3 m hm
theorem dec_names {f : List UInt8} {l : List Mv} {x : Int} (h : decR f = (l, x)) : (∀ m ∈ l, rk (mw m) < 18446744073709551616 ∧ (nm (mw m)).length ≤ 64) ∧ l.length ≤ 2000 := by
 by_cases hx : x = 0
 ·subst hx
  have hm := (decR_back h).2
  have hr := decR_rk f
  rw [h] at hr
  obtain ⟨h1, h2⟩ := mayM_facts hm
  refine ⟨fun m hmm => ⟨hr m hmm, ?_⟩, h1⟩
  have h3 := (mayM_all hm) m hmm
  exact (oneM_facts h3).2.2.2.2.1
 ·have h1 := decR_none (f := f) (by rw [h]; exact hx)
  rw [h] at h1
  simp only at h1
  subst h1
  exact ⟨fun m hm => (by simp at hm), by simp⟩
theorem dec_moves {f : List UInt8} {l : List Mv} {x : Int} (h : decR f = (l, x)) : Moves_ l := fun m hm => by
 have := (dec_names h).1 m hm
 exact ⟨this.1, by unfold maxLen; omega⟩
theorem dec_mok {f : List UInt8} {l : List Mv} {x : Int} (h : decR f = (l, x)) : Mok l := fun m hm => by
 have := (dec_names h).1 m hm
 exact ⟨this.1, by omega⟩
theorem pdec_v {f : List UInt8} {S : ByteArray} {l : List Mv} {x : Int} (hS : ba f = S) (hf : f.length ≤ 100000000) (h : decR f = (l, x)) (w : World) :
  Calls Tryz.prog 30 #[.string S] w fun e w' => ∃ (A : Option Addr) (cap : Nat), e = .returned (.tuple #[.slice A l.length cap, .int .i64 x]) ∧ At w' w'.heap.size A (mvs l) ∧ Below w.heap.size w w' := by
 by_cases hx : x = 0
 ·subst hx
  refine (pdecode_y hS hf h w).mono ?_
  rintro e w' ⟨L, rfl, -, h2, h3⟩
  exact ⟨_, _, rfl, h2, h3⟩
 ·have h1 := decR_none (f := f) (by rw [h]; exact hx)
  rw [h] at h1
  simp only at h1
  subst h1
  refine (pdecode_n hS hf h hx w).mono ?_
  rintro e w' ⟨rfl, h3⟩
  exact ⟨none, 0, rfl, At.nil _ _ _, h3⟩
theorem few_q {l : List Mv} {n : Nat} {q : Bool} (h : fewM l n = q) (hn : n ≤ 1000) {A : Option Addr} {cap : Nat} (hl : l.length ≤ maxLen) {w : World} (hc : At w w.heap.size A (mvs l)) :
  Calls Tryz.prog 9 #[.slice A l.length cap, .int .i64 (n : Int)] w fun e w' => e = .returned (.bool q) ∧ w = w' := by
 subst h; exact rmfew_c A cap l n hl hn w hc
theorem few_mok {l : List Mv} {n : Nat} (h : fewM l n = true) (hm : Moves_ l) : Mok l := fun m hmm => ⟨(hm m hmm).1, by have := (fewM_in h).2 m hmm; omega⟩
end Go.Proofs.YtojhenpaeedimaaGreat
end
section
namespace Go.Proofs.YtojhenpaeedimaaGreat.Rf
open Pk Ck Fl Wd
set_option maxRecDepth 100000
theorem one_len4 {m : Mv} (h : (nm (mw m)).length ≤ 100) : (oneB m).length ≤ 158 := by
 have h1 := put10 (mc m)
 have h2 := put10 (mr m)
 have h3 := put10 (pa (mw m))
 have h4 := put10 (ch (mw m))
 have h5 : (put (nm (mw m)).length).length = 1 := by rw [put_lo (by omega)]; rfl
 have h6 := fixed_len8 (cb (rk (mw m)))
 unfold oneB
 simp only [List.length_append]
 omega
theorem flat_few {l : List Mv} (h : ∀ m ∈ l, (nm (mw m)).length ≤ 100) : (l.flatMap oneB).length ≤ l.length * 158 := by
 induction l with
 | nil => simp
 | cons m t ih =>
  rw [List.flatMap_cons, List.length_append, List.length_cons]
  have h1 := one_len4 (h m (List.mem_cons_self ..))
  have h2 := ih fun x hx => h x (List.mem_cons_of_mem _ hx)
  omega
theorem encB_few {l : List Mv} (h : ∀ m ∈ l, (nm (mw m)).length ≤ 100) (hl : l.length ≤ 60) : (encB l).length ≤ 10000 := by
 have h1 := flat_few h
 have h2 : (put l.length).length = 1 := by rw [put_lo (by omega)]; rfl
 unfold encB
 simp only [List.length_append]
 have : startB.length = 5 := rfl
 omega
theorem alike_bk {m : Mv} (h : rk (mw m) < 18446744073709551616) : alikeM (bkM m) m = true := by
 have hc : cb (fl (cb (rk (mw m)))) = cb (rk (mw m)) := cb_fl_cn (cb_lt _ h) (cn_cb h)
 unfold alikeM timeEq alikeP bkM
 simp [hc]
theorem same_bk : ∀ {l : List Mv}, (∀ m ∈ l, rk (mw m) < 18446744073709551616) → sameM (l.map bkM) l = true
 | [], _ => rfl
 | m :: l, h => by
  rw [List.map_cons]
  unfold sameM
  rw [alike_bk (h m (List.mem_cons_self ..)), same_bk fun x hx => h x (List.mem_cons_of_mem _ hx)]
  rfl
end Go.Proofs.YtojhenpaeedimaaGreat.Rf
end
section
namespace Go.Proofs.YtojhenpaeedimaaGreat.Ol
open Pk Wd Fl Rf Ck
set_option maxRecDepth 100000
def mcL (l : List Mv) : List Int := l.map fun m => mc m
def mrL (l : List Mv) : List Nat := l.map fun m => u64 (mr m)
def paL (l : List Mv) : List Int := l.map fun m => pa (mw m)
def chL (l : List Mv) : List Int := l.map fun m => ch (mw m)
def nmL (l : List Mv) : List (List UInt8) := l.map fun m => nm (mw m)
def rkL (l : List Mv) : List Nat := l.map fun m => cb (rk (mw m))
/-- P19.3 -/
def bdT (l : List Mv) : List UInt8 := prt (encL (mcL l)) ++ encU (mrL l)
def bdE (l : List Mv) : List UInt8 := prt (encL (paL l)) ++ encL (chL l)
def encO (l : List Mv) : List Chk := [(4, put l.length), (5, bdT l), (6, bdE l), (7, Dt.encD (nmL l)), (8, rkU (rkL l))]
def zipO : List Int → List Nat → List Int → List Int → List (List UInt8) → List Nat → List Mv
 | c :: cs, r :: rs, p :: ps, k :: ks, n :: ns, u :: us => (c, i64 r, k, p, n, fl u) :: zipO cs rs ps ks ns us
 | _, _, _, _, _, _ => []
def endO (l : List Mv) : List Mv × Int := if l.all oneM = false then ([], 5) else if mayM l = false then ([], 12) else (l, 0)
def decN (n : Nat) (b1 b2 b3 b4 : List UInt8) : List Mv × Int :=
 if (cutP b1).2.2 ≠ 0 then ([], (cutP b1).2.2)
 else if (decV (cutP b1).1 n).2 ≠ 0 then ([], (decV (cutP b1).1 n).2)
 else if (decU (cutP b1).2.1 n).2 ≠ 0 then ([], (decU (cutP b1).2.1 n).2)
 else if (cutP b2).2.2 ≠ 0 then ([], (cutP b2).2.2)
 else if (decV (cutP b2).1 n).2 ≠ 0 then ([], (decV (cutP b2).1 n).2)
 else if (decV (cutP b2).2.1 n).2 ≠ 0 then ([], (decV (cutP b2).2.1 n).2)
 else if (Dt.decD b3 n 64).2 ≠ 0 then ([], (Dt.decD b3 n 64).2)
 else if (takeU b4 n).2 ≠ 0 then ([], (takeU b4 n).2)
 else endO (zipO (decV (cutP b1).1 n).1 (decU (cutP b1).2.1 n).1 (decV (cutP b2).1 n).1 (decV (cutP b2).2.1 n).1 (Dt.decD b3 n 64).1 (takeU b4 n).1)
def decB (b0 b1 b2 b3 b4 : List UInt8) : List Mv × Int :=
 if doneV (numS ⟨b0, 0⟩) ≠ 0 then ([], doneV (numS ⟨b0, 0⟩))
 else if 2000 < numV ⟨b0, 0⟩ then ([], 10)
 else decN (numV ⟨b0, 0⟩) b1 b2 b3 b4
/-- P19.4 -/
def decO : List Chk → List Mv × Int
 | [(k0, b0), (k1, b1), (k2, b2), (k3, b3), (k4, b4)] => if k0 = 4 ∧ k1 = 5 ∧ k2 = 6 ∧ k3 = 7 ∧ k4 = 8 then decB b0 b1 b2 b3 b4 else ([], 5)
 | _ => ([], 5)
theorem zip_back : ∀ l : List Mv, (∀ m ∈ l, i64 (u64 (mr m)) = mr m) → zipO (mcL l) (mrL l) (paL l) (chL l) (nmL l) (rkL l) = l.map bkM
 | [], _ => rfl
 | m :: l, h => by
  have ih := zip_back l fun x hx => h x (List.mem_cons_of_mem _ hx)
  have h0 := h m (List.mem_cons_self ..)
  unfold mcL mrL paL chL nmL rkL at ih ⊢
  simp only [List.map_cons]
  unfold zipO
  rw [ih, h0]
  rfl
theorem zip_fwd : ∀ (cs : List Int) (rs : List Nat) (ps ks : List Int) (ns : List (List UInt8)) (us : List Nat) (n : Nat), cs.length = n → rs.length = n → ps.length = n → ks.length = n → ns.length = n → us.length = n →
  (∀ r ∈ rs, r < 18446744073709551616) → (∀ u ∈ us, u < 18446744073709551616 ∧ cn u = true) →
  mcL (zipO cs rs ps ks ns us) = cs ∧ mrL (zipO cs rs ps ks ns us) = rs ∧ paL (zipO cs rs ps ks ns us) = ps ∧ chL (zipO cs rs ps ks ns us) = ks ∧ nmL (zipO cs rs ps ks ns us) = ns ∧ rkL (zipO cs rs ps ks ns us) = us ∧ (zipO cs rs ps ks ns us).length = n
 | [], rs, ps, ks, ns, us, n, h1, h2, h3, h4, h5, h6, _, _ => by
  have hn : n = 0 := h1.symm
  subst hn
  have a2 := List.eq_nil_of_length_eq_zero h2
  have a3 := List.eq_nil_of_length_eq_zero h3
  have a4 := List.eq_nil_of_length_eq_zero h4
  have a5 := List.eq_nil_of_length_eq_zero h5
  have a6 := List.eq_nil_of_length_eq_zero h6
  subst a2 a3 a4 a5 a6
  exact ⟨rfl, rfl, rfl, rfl, rfl, rfl, rfl⟩
 | c :: cs, [], _, _, _, _, n, h1, h2, _, _, _, _, _, _ => by simp at h1 h2; omega
 | c :: cs, r :: rs, [], _, _, _, n, h1, _, h3, _, _, _, _, _ => by simp at h1 h3; omega
 | c :: cs, r :: rs, p :: ps, [], _, _, n, h1, _, _, h4, _, _, _, _ => by simp at h1 h4; omega
 | c :: cs, r :: rs, p :: ps, k :: ks, [], _, n, h1, _, _, _, h5, _, _, _ => by simp at h1 h5; omega
 | c :: cs, r :: rs, p :: ps, k :: ks, x :: ns, [], n, h1, _, _, _, _, h6, _, _ => by simp at h1 h6; omega
 | c :: cs, r :: rs, p :: ps, k :: ks, x :: ns, u :: us, n, h1, h2, h3, h4, h5, h6, hr, hu => by
  obtain ⟨n', rfl⟩ : ∃ n', n = n' + 1 := ⟨n - 1, by simp at h1; omega⟩
  have ih := zip_fwd cs rs ps ks ns us n' (by simpa using h1) (by simpa using h2) (by simpa using h3) (by simpa using h4) (by simpa using h5) (by simpa using h6)
   (fun x hx => hr x (List.mem_cons_of_mem _ hx)) (fun x hx => hu x (List.mem_cons_of_mem _ hx))
  obtain ⟨i1, i2, i3, i4, i5, i6, i7⟩ := ih
  have hr0 := hr r (List.mem_cons_self ..)
  have hu0 := hu u (List.mem_cons_self ..)
  have e1 : u64 (i64 r) = r := u64_i64 hr0
  have e2 : cb (fl u) = u := cb_fl_cn hu0.1 hu0.2
  unfold zipO
  simp only [mcL, mrL, paL, chL, nmL, rkL] at i1 i2 i3 i4 i5 i6 ⊢
  simp only [List.map_cons, List.length_cons]
  refine ⟨?_, ?_, ?_, ?_, ?_, ?_, by rw [i7]⟩
  ·rw [i1]
  ·show u64 (i64 r) :: _ = _
   rw [e1, i2]
  ·rw [i3]
  ·rw [i4]
  ·rw [i5]
  ·show cb (fl u) :: _ = _
   rw [e2, i6]
theorem encL_lt {l : List Int} (hl : l.length ≤ 100000) : (encL l).length < 18446744073709551616 := by
 have := (encL_len l).2
 omega
theorem nums_u64 (l : List Mv) : Nums (mrL l) := fun u hu => by
 obtain ⟨m, _, rfl⟩ := List.mem_map.1 hu
 exact u64_lt _
theorem bk_all {l : List Mv} (h : mayM l = true) : mayM (l.map bkM) = true := by
 obtain ⟨h1, h2⟩ := mayM_facts h
 have hr : ∀ (l : List Mv) (p q : Option Mv), (∀ a, p = some a → ∃ b, q = some b ∧ mc b = mc a ∧ mr b = mr a) → (p = none → q = none) → resM p l = true → resM q (l.map bkM) = true := by
  intro l
  induction l with
  | nil => intro p q _ _ _; simp [resM]
  | cons x t ih =>
   intro p q hs hn h
   rw [List.map_cons]
   unfold resM at h ⊢
   simp only [Bool.and_eq_true] at h ⊢
   refine ⟨h.1, ?_, ih (some x) (some (bkM x)) (fun a ha => by injection ha with ha; subst ha; exact ⟨bkM x, rfl, rfl, rfl⟩) (fun e => by cases e) h.2.2⟩
   cases p with
   | none => rw [hn rfl]
   | some a =>
    obtain ⟨b, hb, b1, b2⟩ := hs a rfl
    subst hb
    have h3 := h.2.1
    simp only at h3 ⊢
    rw [bm_iff] at h3 ⊢
    unfold MLt at h3 ⊢
    rw [b1, b2]
    exact h3
 unfold mayM mayL
 rw [hr l none none (fun a ha => by cases ha) (fun _ => rfl) h2, decide_eq_true (show (l.map bkM).length ≤ 2000 by rw [List.length_map]; exact h1)]
 rfl
theorem all_one {l : List Mv} (h : mayM l = true) : l.all oneM = true := List.all_eq_true.2 (mayM_all h)
theorem decO_enc {l : List Mv} (h : mayM l = true) (hr : ∀ m ∈ l, rk (mw m) < 18446744073709551616) : decO (encO l) = (l.map bkM, 0) := by
 have hm := mayM_all h
 have hl := (mayM_facts h).1
 have f := fun m hmm => oneM_facts (hm m hmm)
 have hc : Ints (mcL l) := fun x hx => by obtain ⟨m, hmm, rfl⟩ := List.mem_map.1 hx; have := (f m hmm).1; unfold In64; omega
 have hp : Ints (paL l) := fun x hx => by obtain ⟨m, hmm, rfl⟩ := List.mem_map.1 hx; have := (f m hmm).2.2.2.1; unfold In64; omega
 have hk : Ints (chL l) := fun x hx => by obtain ⟨m, hmm, rfl⟩ := List.mem_map.1 hx; have := (f m hmm).2.2.1; unfold In64; omega
 have e1 : (mcL l).length = l.length := List.length_map ..
 have e2 : (mrL l).length = l.length := List.length_map ..
 have e3 : (paL l).length = l.length := List.length_map ..
 have e4 : (chL l).length = l.length := List.length_map ..
 have e5 : (nmL l).length = l.length := List.length_map ..
 have e6 : (rkL l).length = l.length := List.length_map ..
 have p0 := num_put (n := l.length) (by omega) []
 rw [List.append_nil] at p0
 have c1 := cutP_part (a := encL (mcL l)) (encU (mrL l)) (encL_lt (by omega))
 have c2 := cutP_part (a := encL (paL l)) (encL (chL l)) (encL_lt (by omega))
 have v1 := dec_enc _ hc
 have v2 := decU_enc (nums_u64 l) (by omega)
 have v3 := dec_enc _ hp
 have v4 := dec_enc _ hk
 have v5 := Dt.decD_enc (l := nmL l) (most := 64) (by omega) (fun t ht => by obtain ⟨m, hmm, rfl⟩ := List.mem_map.1 ht; have := (f m hmm).2.2.2.2.1; omega)
  (fun t ht => by obtain ⟨m, hmm, rfl⟩ := List.mem_map.1 ht; exact ⟨(f m hmm).2.2.2.2.2, by have := (f m hmm).2.2.2.2.1; omega⟩)
 have hg : Re.Good (rkL l) := fun u hu => by obtain ⟨m, hmm, rfl⟩ := List.mem_map.1 hu; exact ⟨cb_lt _ (hr m hmm), cn_cb (hr m hmm)⟩
 have v6 := takeU_rkU hg (by omega)
 rw [e1] at v1; rw [e2] at v2; rw [e3] at v3; rw [e4] at v4; rw [e5] at v5; rw [e6] at v6
 have hz := zip_back l (fun m hmm => i64_u64 (by have := (f m hmm).2.1; omega) (by have := (f m hmm).2.1; omega))
 unfold encO decO
 simp only [and_self, if_true]
 unfold decB bdT bdE
 rw [p0.1, p0.2, if_neg (by simp [doneV]), if_neg (by omega)]
 unfold decN
 rw [c1, c2]
 simp only
 rw [v1, v2, v3, v4, v5, v6]
 simp only
 rw [if_neg (by simp), if_neg (by simp), if_neg (by simp), if_neg (by simp), if_neg (by simp), if_neg (by simp), if_neg (by simp), if_neg (by simp), hz]
 unfold endO
 rw [all_one (bk_all h), bk_all h]
 simp
theorem decU_lt {s : List UInt8} {n : Int} (h : (decU s n).2 = 0) : Nums (decU s n).1 := by
 obtain ⟨⟨ys, x⟩, hq⟩ : ∃ q, decU s n = q := ⟨_, rfl⟩
 rw [hq] at h ⊢
 simp only at h
 subst h
 unfold decU at hq
 split at hq
 ·injection hq with _ h; simp at h
 ·split at hq
  ·injection hq with _ h; simp at h
  ·rename_i h1 h2
   obtain ⟨r, hf, _, _, hy, _⟩ := dcR_dec _ _ _ _ _ (by simpa using (by omega : (0 : Int) ≤ n)) hq
   rw [hy]
   intro u hu
   rw [List.nil_append] at hu
   have : ∀ r : List Run, Fits r → ∀ u ∈ spr r, u < 18446744073709551616 := by
    intro r
    induction r with
    | nil => intro _ u hu; simp [spr_nil] at hu
    | cons x t ih =>
     intro hf u hu
     obtain ⟨v, c⟩ := x
     rw [spr_cons] at hu
     rcases List.mem_append.1 hu with h | h
     ·rw [(List.mem_replicate.1 h).2]; exact (hf (v, c) (List.mem_cons_self ..)).1
     ·exact ih (fun y hy => hf y (List.mem_cons_of_mem _ hy)) u h
   exact this r hf u hu
theorem endO_none {l : List Mv} (h : (endO l).2 ≠ 0) : (endO l).1 = [] := by
 unfold endO at h ⊢
 split
 ·rfl
 ·rename_i h1; rw [if_neg h1] at h
  split
  ·rfl
  ·rename_i h2; rw [if_neg h2] at h; exact absurd rfl h
theorem decN_none {n : Nat} {b1 b2 b3 b4 : List UInt8} (h : (decN n b1 b2 b3 b4).2 ≠ 0) : (decN n b1 b2 b3 b4).1 = [] := by
 unfold decN at h ⊢
 repeat' split
 all_goals first | rfl | skip
 rename_i h1 h2 h3 h4 h5 h6 h7 h8
 rw [if_neg h1, if_neg h2, if_neg h3, if_neg h4, if_neg h5, if_neg h6, if_neg h7, if_neg h8] at h
 exact endO_none h
theorem decO_none {c : List Chk} (h : (decO c).2 ≠ 0) : (decO c).1 = [] := by
 unfold decO at h ⊢
 split
 ·split
  ·rename_i h1
   simp only [h1, and_self, if_true] at h
   unfold decB at h ⊢
   split
   ·rfl
   ·rename_i h2; rw [if_neg h2] at h
    split
    ·rfl
    ·rename_i h3; rw [if_neg h3] at h; exact decN_none h
  ·rfl
 ·rfl
end Go.Proofs.YtojhenpaeedimaaGreat.Ol
end
