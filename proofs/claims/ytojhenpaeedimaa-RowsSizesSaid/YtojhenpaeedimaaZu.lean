/-
 What the document gives for answers: live of layer 21.
-/
import Derived.Test.YtojhenpaeedimaaZt
import Derived.Test.YtojhenpaeedimaaZs
import Derived.Test.YtojhenpaeedimaaZe
import Derived.Test.YtojhenpaeedimaaUl
namespace Go.Proofs.Ytojhenpaeedimaa
open Go.RowKit Go.IntWalk
open Pk Ck Rf Fl Wd
set_option maxRecDepth 100000
attribute [local go_sem] Oper.semAt_some
theorem is_atM {w : World} {b : Nat} {t : TypeId} {xs : List Value} {B : Nat} (h : Is w b t xs) (hb : b < B) : At w B (some ⟨b, 0, none⟩) xs := fun i v hv => ⟨b, 0, rfl, hb, by rw [Nat.zero_add]; exact (is_cell h i).trans hv⟩
theorem pencode_v {l : List Mv} {S : ByteArray} {x : Int} {A : Option Addr} {n cap : Nat} {w : World} (hn : l.length = n) (hS : ba (encT l) = S) (hx : encE l = x) (hl : l.length ≤ 10000) (ho : Mok l) (hc : At w w.heap.size A (mvs l)) :
  Calls Try.prog 11 #[.slice A n cap] w fun e w' => e = .returned (.tuple #[.string S, .int .i64 x]) ∧ Below w.heap.size w w' := by
 subst hS hx hn; exact pencode_c A cap l hl ho w hc
/-- the program's Decode of bytes that are none -/
theorem pdecode_n {f : List UInt8} {S : ByteArray} {x : Int} (hS : ba f = S) (hf : f.length ≤ 100000000) (h : decR f = ([], x)) (hx : x ≠ 0) (w : World) :
  Calls Try.prog 13 #[.string S] w fun e w' => e = .returned (.tuple #[.slice none 0 0, .int .i64 x]) ∧ Below w.heap.size w w' := by
 subst hS
 refine (pdecode_c f hf w).mono ?_
 rintro e w' ⟨hb, he⟩
 rw [h, if_pos hx] at he
 exact ⟨he, hb⟩
theorem pdecode_y {f : List UInt8} {S : ByteArray} {l : List Mv} (hS : ba f = S) (hf : f.length ≤ 100000000) (h : decR f = (l, 0)) (w : World) :
  Calls Try.prog 13 #[.string S] w fun e w' => ∃ L, e = .returned (.tuple #[.slice (some ⟨L, 0, none⟩) l.length l.length, .int .i64 0]) ∧ w.heap.size ≤ L ∧ At w' w'.heap.size (some ⟨L, 0, none⟩) (mvs l) ∧ Below w.heap.size w w' := by
 subst hS
 refine (pdecode_c f hf w).mono ?_
 rintro e w' ⟨hb, he⟩
 rw [h, if_neg (by simp)] at he
 obtain ⟨L, h1, h2, h3⟩ := he
 exact ⟨L, h1, h2, is_atM h3 (is_lt h3), hb⟩
theorem pone_v {m : Mv} {S : ByteArray} (hS : ba (oneB m) = S) (hr : rk (mw m) < 18446744073709551616) (hn : (nm (mw m)).length ≤ 100000) (w : World) :
  Calls Try.prog 9 #[mv m] w fun e w' => e = .returned (.string S) ∧ Below w.heap.size w w' := by
 subst hS; exact pone_c m hr hn w
theorem rmsame_v {xs ys : List Mv} {q : Bool} {A1 A2 : Option Addr} {n1 n2 c1 c2 : Nat} {w : World} (h : sameM xs ys = q) (e1 : xs.length = n1) (e2 : ys.length = n2) (hx : xs.length ≤ maxLen) (hy : ys.length ≤ maxLen) (hwx : Moves_ xs) (hwy : Moves_ ys) (h1 : At w w.heap.size A1 (mvs xs)) (h2 : At w w.heap.size A2 (mvs ys)) :
  Calls Try.prog 15 #[.slice A1 n1 c1, .slice A2 n2 c2] w fun e w' => e = .returned (.bool q) ∧ Below w.heap.size w w' := by
 subst h e1 e2; exact rmsame_c A1 A2 c1 c2 xs ys hx hy hwx hwy w h1 h2
theorem three_keepZ {A1 A2 : Option Addr} {xs ys : List Value} {w w1 w2 : World} (h : At w1 w1.heap.size A1 xs ∧ At w1 w1.heap.size A2 ys ∧ Below w.heap.size w w1) (hb : Below w1.heap.size w1 w2) : At w2 w2.heap.size A1 xs ∧ At w2 w2.heap.size A2 ys ∧ Below w.heap.size w w2 :=
 ⟨h.1.keep hb, h.2.1.keep hb, h.2.2.trans (hb.mono h.2.2.size)⟩
theorem live21.cells {w : World} {B b : Nat} (h : At w B (some ⟨b, 0, none⟩) (mvs [live21.m0])) : w.cell? ⟨b, 0, none⟩ = some (.int .i64 5) ∧ w.cell? ⟨b, 1, none⟩ = some (.int .i64 2) ∧ w.cell? ⟨b, 2, none⟩ = some (.int .i64 0) ∧ w.cell? ⟨b, 3, none⟩ = some (.int .i64 300) ∧ w.cell? ⟨b, 4, none⟩ = some (.string ⟨#[97]⟩) ∧ w.cell? ⟨b, 5, none⟩ = some (.float .f64 4607182418800017408) := by
 obtain ⟨b9, o9, e9, -, d0, d1, d2, d3, d4, d5⟩ := move_cells h (k := 0) (x := live21.m0) rfl
 cases e9
 exact ⟨d0, d1, d2, d3, d4, d5⟩
theorem live21.mk : Mok [live21.m0] := fun m hm => by rw [List.mem_singleton.1 hm]; exact ⟨by decide, by decide⟩
theorem live21.mz : Mok [zM] := fun m hm => by rw [List.mem_singleton.1 hm]; exact ⟨by decide, by decide⟩
theorem live21.mw : Moves_ [live21.m0] := fun m hm => by rw [List.mem_singleton.1 hm]; exact ⟨by decide, by decide⟩
theorem live21.c1 {A : Option Addr} {cap : Nat} {S : ByteArray} (hS : ba live21.F = S) {w : World} (h : At w w.heap.size A (mvs [live21.m0])) :
  Calls Try.prog 11 #[.slice A 1 cap] w fun e w' => e = .returned (.tuple #[.string S, .int .i64 0]) ∧ Below w.heap.size w w' := by
 have h1 : encT [live21.m0] = live21.F := by kernel_rfl
 have h2 : encE [live21.m0] = 0 := by kernel_rfl
 exact pencode_v rfl (by rw [h1]; exact hS) h2 (by decide) live21.mk h
theorem live21.c2 {A : Option Addr} {cap : Nat} {w : World} (h : At w w.heap.size A (mvs [zM])) :
  Calls Try.prog 11 #[.slice A 1 cap] w fun e w' => e = .returned (.tuple #[.string ⟨#[]⟩, .int .i64 1]) ∧ Below w.heap.size w w' := by
 have h1 : encT [zM] = [] := by kernel_rfl
 have h2 : encE [zM] = 1 := by kernel_rfl
 exact pencode_v rfl (by rw [h1]; rfl) h2 (by decide) live21.mz h
set_option maxHeartbeats 8000000 in
theorem live21_c (w : World) :
  Calls Try.prog 8 #[] w fun e w' => e = .returned (.bool true) ∧ Below w.heap.size w w' := by
 obtain ⟨S, hS⟩ : ∃ S, ba live21.F = S := ⟨_, rfl⟩
 obtain ⟨O, hO⟩ : ∃ S, ba live21.O = S := ⟨_, rfl⟩
 obtain ⟨S1, hS1⟩ : ∃ S, ba (live21.F ++ [120]) = S := ⟨_, rfl⟩
 obtain ⟨S2, hS2⟩ : ∃ S, ba ([66, 78, 83, 73, 1, 2] ++ live21.O) = S := ⟨_, rfl⟩
 obtain ⟨S3, hS3⟩ : ∃ S, ba ([66, 78, 83, 73, 1, 2] ++ live21.O ++ live21.O) = S := ⟨_, rfl⟩
 have a1 : ∀ w : World, (Op.stringOp .add S ⟨#[120]⟩).run Try.prog w = .ok (.string S1) w := fun w => by rw [← hS, ← hS1]; exact hadd_v live21.F [120] (by decide) w
 have a2 : ∀ w : World, (Op.stringOp .add ⟨#[66, 78, 83, 73, 1, 2]⟩ O).run Try.prog w = .ok (.string S2) w := fun w => by rw [← hO, ← hS2]; exact hadd_v [66, 78, 83, 73, 1, 2] live21.O (by decide) w
 have a3 : ∀ w : World, (Op.stringOp .add S2 O).run Try.prog w = .ok (.string S3) w := fun w => by rw [← hO, ← hS2, ← hS3]; exact hadd_v ([66, 78, 83, 73, 1, 2] ++ live21.O) live21.O (by decide) w
 have HS := Lib.hid hS
 have HO := Lib.hid hO
 have HS1 := Lib.hid hS1
 have HS3 := Lib.hid hS3
 clear hS hO hS1 hS2 hS3
 go_enter Try.func8, Try.ntmps8
 obtain ⟨w1, hw1⟩ : ∃ w1, w1 = w.alloc (.cells #[.int .i64 5, .int .i64 2, .int .i64 0, .int .i64 300, .string ⟨#[97]⟩, .float .f64 4607182418800017408] 30) := ⟨_, rfl⟩
 have b1 : Below w.heap.size w w1 := by rw [hw1]; exact (Below.refl _ _).alloc (Nat.le_refl _) _
 have l1 : At w1 w1.heap.size (some ⟨w.heap.size, 0, none⟩) (mvs [live21.m0]) := by
  have hi : Is w1 w.heap.size 30 (mvs [live21.m0]) := by rw [hw1]; exact is_new w 30 (mvs [live21.m0])
  exact is_atM hi (is_lt hi)
 obtain ⟨g, hg⟩ : ∃ g, w.heap.size = g := ⟨_, rfl⟩
 rw [hg] at l1
 have B1 := Lib.hid b1
 have L1 := Lib.hid l1
 have H1 := Lib.hid hw1
 clear b1 l1 hw1
 go_wp2_with fail
 rw [← H1.out]
 clear hg
 with_reducible refine (live21.c1 HS.out L1.out).mono ?_
 rintro e w2 ⟨rfl, hb⟩
 have B2 := Lib.hid (B1.out.trans (hb.mono B1.out.size))
 have L2 := Lib.hid (L1.out.keep hb)
 clear hb
 go_wp2_with fail
 refine (pdecode_y (f := live21.F) HS.out (by decide) live21.dec _).mono ?_
 rintro e w3 ⟨L, rfl, -, hl, hb⟩
 have B3 := Lib.hid (B2.out.trans (hb.mono B2.out.size))
 have L3 := Lib.hid (L2.out.keep hb)
 have M3 := Lib.hid hl
 clear hb hl
 go_wp2_with fail
 refine (pdecode_n (f := [66, 78, 83, 73, 2, 0]) rfl (by decide) live21.d2 (by decide) _).mono ?_
 rintro e w4 ⟨rfl, hb⟩
 have B4 := Lib.hid (B3.out.trans (hb.mono B3.out.size))
 have L4 := Lib.hid (L3.out.keep hb)
 have M4 := Lib.hid (M3.out.keep hb)
 clear hb
 go_wp2_with fail
 refine (pdecode_n (f := live21.F ++ [120]) HS1.out (by decide) live21.dx (by decide) _).mono ?_
 rintro e w5 ⟨rfl, hb⟩
 have B5 := Lib.hid (B4.out.trans (hb.mono B4.out.size))
 have L5 := Lib.hid (L4.out.keep hb)
 have M5 := Lib.hid (M4.out.keep hb)
 clear hb
 obtain ⟨w6, hw6⟩ : ∃ w6, w6 = w5.alloc (.cells #[.int .i64 0, .int .i64 0, .int .i64 0, .int .i64 0, .string ⟨#[]⟩, .float .f64 0] 30) := ⟨_, rfl⟩
 have hb : Below w5.heap.size w5 w6 := by rw [hw6]; exact (Below.refl _ _).alloc (Nat.le_refl _) _
 have B6 := Lib.hid (B5.out.trans (hb.mono B5.out.size))
 have L6 := Lib.hid (L5.out.keep hb)
 have M6 := Lib.hid (M5.out.keep hb)
 have Z6 : Hid (At w6 w6.heap.size (some ⟨w5.heap.size, 0, none⟩) (mvs [zM])) := by
  have hi : Is w6 w5.heap.size 30 (mvs [zM]) := by rw [hw6]; exact is_new w5 30 (mvs [zM])
  exact is_atM hi (is_lt hi)
 have H6 := Lib.hid hw6
 clear hb hw6
 go_wp2_with fail
 rw [← H6.out]
 with_reducible refine (live21.c2 Z6.out).mono ?_
 rintro e w7 ⟨rfl, hb⟩
 have B7 := Lib.hid (B6.out.trans (hb.mono B6.out.size))
 have L7 := Lib.hid (L6.out.keep hb)
 have M7 := Lib.hid (M6.out.keep hb)
 clear hb
 go_wp2_with fail
 have hone := fun W => pone_v (m := live21.m0) (S := O) (show _ = O by rw [live21.one]; exact HO.out) (by decide) (by decide) W
 have hdec := fun W => pdecode_n (f := [66, 78, 83, 73, 1, 2] ++ live21.O ++ live21.O) HS3.out (by decide) live21.dd (by decide) W
 have hone2 : ∀ W : World, Calls Try.prog 9 #[.agg #[.int .i64 5, .int .i64 2, .int .i64 0, .int .i64 300, .string ⟨#[97]⟩, .float .f64 4607182418800017408]] W fun e w' => e = .returned (.string O) ∧ Below W.heap.size W w' := hone
 have HONE := Lib.hid hone2
 have HDEC := Lib.hid hdec
 clear hone hone2 hdec
 refine quiet_held (fun w' => At w' w'.heap.size (some ⟨g, 0, none⟩) (mvs [live21.m0]) ∧ At w' w'.heap.size (some ⟨L, 0, none⟩) (mvs [live21.m0]) ∧ Below w.heap.size w w') (by kernel_rfl) (by kernel_rfl) ⟨L7.out, M7.out, B7.out.drew⟩ ?_
 repeat (first
  | go_big_quiet_skip
  | (simp only [a2])
  | (simp only [a3])
  | (go_big_quiet_want; go_big_quiet_op; go_big_quiet_on)
  | (go_big_quiet_want; apply Exists.intro; refine ⟨fun wq hq => ?_, ?_⟩; (focus (obtain ⟨d0, d1, d2, d3, d4, d5⟩ := live21.cells hq.1; unfold Oper.quietAt; go_simp; all_goals (first | rfl | exact ⟨rfl, rfl⟩ | (with_reducible refine (HONE.out _).mono ?_; rintro e w9 ⟨rfl, hbn⟩; exact ⟨rfl, three_keepZ hq hbn⟩) | (with_reducible refine (HDEC.out _).mono ?_; rintro e w9 ⟨rfl, hbn⟩; exact ⟨rfl, three_keepZ hq hbn⟩)))); simp only [Act.put, List.setIfInBounds_toArray, List.set_cons_zero, List.set_cons_succ]; go_big_quiet_on))
 refine wpQuiet_nil ?_
 intro w8 hq
 have B8 := Lib.hid hq.2.2
 have L8 := Lib.hid hq.1
 have M8 := Lib.hid hq.2.1
 clear hq
 go_wp2_with fail
 refine (pdecode_y (f := [66, 78, 83, 73, 1, 0]) rfl (by decide) live21.d0 _).mono ?_
 rintro e w9 ⟨L9, rfl, -, -, hb⟩
 have B9 := Lib.hid (B8.out.trans (hb.mono B8.out.size))
 have L9 := Lib.hid (L8.out.keep hb)
 have M9 := Lib.hid (M8.out.keep hb)
 clear hb
 go_wp2_with fail
 refine (pdecode_n (f := [66, 78, 83, 88]) rfl (by decide) live21.d7 (by decide) _).mono ?_
 rintro e w10 ⟨rfl, hb⟩
 have B10 := Lib.hid (B9.out.trans (hb.mono B9.out.size))
 have L10 := Lib.hid (L9.out.keep hb)
 have M10 := Lib.hid (M9.out.keep hb)
 clear hb
 have hSl : S = ⟨#[66, 78, 83, 73, 1, 1, 5, 2, 0, 172, 2, 1, 97, 0, 0, 0, 0, 0, 0, 240, 63]⟩ := by rw [← HS.out]; rfl
 subst hSl
 have hsame := rmsame_v (A1 := some ⟨L, 0, none⟩) (A2 := some ⟨g, 0, none⟩) (c1 := 1) (c2 := 1) (n1 := 1) (n2 := 1) live21.sm rfl rfl (by decide) (by decide) live21.mw live21.mw M10.out L10.out
 have HSAME := Lib.hid hsame
 clear hsame
 go_wp2_with fail
 with_reducible refine HSAME.out.mono ?_
 rintro e w11 ⟨rfl, hb⟩
 have B11 := Lib.hid (B10.out.trans (hb.mono B10.out.size))
 clear hb
 go_wp2_with fail
 go_ret
 exact ⟨rfl, B11.out⟩
end Go.Proofs.Ytojhenpaeedimaa
