/-
 Contracts of layer 19 at letters; lists alike but for what no number is.
 What the document gives for answers: live of layer 19.
-/
import Derived.Test.YtojhenpaeedimaaGreatOx
import Derived.Test.YtojhenpaeedimaaGreatOc
import Derived.Test.YtojhenpaeedimaaGreatMg
import Derived.Test.YtojhenpaeedimaaGreatHh
import Derived.Deep.RegionWith
import Derived.Deep.DeepCutAuto
section
namespace Go.Proofs.YtojhenpaeedimaaGreat
open Go.RowKit Go.IntWalk
open Pk Rf Fl Wd Ol Dl Ru Fg Dt Rl
set_option maxRecDepth 100000
theorem sim_cols : ∀ {l m : List Mv}, SimL l m → mcL l = mcL m ∧ mrL l = mrL m ∧ paL l = paL m ∧ chL l = chL m ∧ nmL l = nmL m ∧ rkL l = rkL m
 | [], [], _ => ⟨rfl, rfl, rfl, rfl, rfl, rfl⟩
 | a :: l, b :: m, h => by
  obtain ⟨i1, i2, i3, i4, i5, i6⟩ := sim_cols (l := l) (m := m) h.2
  obtain ⟨h1, h2, h3, h4, h5, -, h7⟩ := h.1
  simp only [mcL, mrL, paL, chL, nmL, rkL] at i1 i2 i3 i4 i5 i6 ⊢
  simp only [List.map_cons]
  exact ⟨by rw [i1, h1], by rw [i2, h2], by rw [i3, h4], by rw [i4, h3], by rw [i5, h5], by rw [i6, h7]⟩
 | [], _ :: _, h => by cases h
 | _ :: _, [], h => by cases h
theorem sim_encO {l m : List Mv} (h : SimL l m) : encO l = encO m := by
 obtain ⟨i1, i2, i3, i4, i5, i6⟩ := sim_cols h
 unfold encO bdT bdE
 rw [i1, i2, i3, i4, i5, i6, SimL.len h]
theorem sim_encC {l m : List Mv} (h : SimL l m) : encC l = encC m := by unfold encC; rw [sim_may h, sim_encO h]
theorem sim_encE {l m : List Mv} (h : SimL l m) : encE l = encE m := by unfold encE; rw [sim_may h]
theorem sim_movesO {c : List Ck.Chk} {l l' : List Mv} {x : Int} (h : decO c = (l, x)) (hs : SimL l' l) : Moves_ l' := fun m hm => by
 obtain ⟨b, hb, hb2⟩ := hs.mem hm
 have := (decO_names h).1 b hb
 exact ⟨hb2.2.2.2.2.2.1, by rw [hb2.2.2.2.2.1]; unfold maxLen; omega⟩
theorem sim_mokO {c : List Ck.Chk} {l l' : List Mv} {x : Int} (h : decO c = (l, x)) (hs : SimL l' l) : Mok4 l' := fun m hm => by
 obtain ⟨b, hb, hb2⟩ := hs.mem hm
 have := (decO_names h).1 b hb
 exact ⟨hb2.2.2.2.2.2.1, by rw [hb2.2.2.2.2.1]; omega⟩
theorem oenc_v {l : List Mv} {c : List Ck.Chk} {x : Int} {A : Option Addr} {n cap : Nat} {w : World} (hn : l.length = n) (h1 : encC l = c) (h2 : encE l = x) (hl : l.length ≤ 4000) (ho : Mok4 l) (hc : At w w.heap.size A (mvs l)) :
  Calls Tryz.prog 11 #[.slice A n cap] w fun e w' => ∃ A' cap', e = .returned (.tuple #[.slice A' c.length cap', .int .i64 x]) ∧ At w' w'.heap.size A' (Ck.cvs c) ∧ c.length ≤ cap' ∧ Below w.heap.size w w' := by
 subst h1 h2 hn; exact pencO_c A cap l hl ho w hc
theorem orenc_v {l : List Mv} {c : List Ck.Chk} {x : Int} {A : Option Addr} {n cap : Nat} {w : World} (hn : l.length = n) (h1 : encC l = c) (h2 : encE l = x) (hl : l.length ≤ 4000) (ho : Mok4 l) (hc : At w w.heap.size A (mvs l)) :
  Calls Tryz.prog 12 #[.slice A n cap] w fun e w' => ∃ A' cap', e = .returned (.tuple #[.slice A' c.length cap', .int .i64 x]) ∧ At w' w'.heap.size A' (Ck.cvs c) ∧ c.length ≤ cap' ∧ Below w.heap.size w w' := by
 subst h1 h2 hn; exact rencO_c A cap l hl ho w hc
theorem odec_v {c : List Ck.Chk} {l : List Mv} {x : Int} {A : Option Addr} {n N cap : Nat} {w : World} (hn : c.length = n) (h : decO c = (l, x)) (hN : l.length = N) (hl : c.length ≤ 100000) (hs : ∀ q ∈ c, q.2.length ≤ 90000) (hc : At w w.heap.size A (Ck.cvs c)) :
  Calls Tryz.prog 21 #[.slice A n cap] w fun e w' => ∃ (A' : Option Addr) (cap' : Nat) (l' : List Mv), e = .returned (.tuple #[.slice A' N cap', .int .i64 x]) ∧ l'.length = N ∧ SimL l' l ∧ At w' w'.heap.size A' (mvs l') ∧ Below w.heap.size w w' := by
 subst hn
 refine (pdecO_c A cap c hl hs w hc).mono ?_
 rintro e w' ⟨hb, A', cap', l', he, h1, h2⟩
 rw [h] at h1 he
 have hl' : l'.length = N := by rw [← hN]; exact SimL.len h1
 exact ⟨A', cap', l', by rw [← hl']; exact he, hl', h1, h2, hb⟩
theorem ordec_v {c : List Ck.Chk} {l : List Mv} {x : Int} {A : Option Addr} {n N cap : Nat} {w : World} (hn : c.length = n) (h : decO c = (l, x)) (hN : l.length = N) (hl : c.length ≤ 100000) (hs : ∀ q ∈ c, q.2.length ≤ 90000) (hc : At w w.heap.size A (Ck.cvs c)) :
  Calls Tryz.prog 22 #[.slice A n cap] w fun e w' => ∃ (A' : Option Addr) (cap' : Nat) (l' : List Mv), e = .returned (.tuple #[.slice A' N cap', .int .i64 x]) ∧ l'.length = N ∧ SimL l' l ∧ At w' w'.heap.size A' (mvs l') ∧ Below w.heap.size w w' := by
 subst hn
 refine (rdecO_c A cap c hl hs w hc).mono ?_
 rintro e w' ⟨hb, A', cap', l', he, h1, h2⟩
 rw [h] at h1 he
 have hl' : l'.length = N := by rw [← hN]; exact SimL.len h1
 exact ⟨A', cap', l', by rw [← hl']; exact he, hl', h1, h2, hb⟩
theorem otake_v {s : List UInt8} {S : ByteArray} {n : Int} {us : List Nat} {x : Int} {N : Nat} (hS : ba s = S) (h : takeU s n = (us, x)) (hN : us.length = N) (hs : s.length ≤ 90000) (hn1 : -9223372036854775808 ≤ n) (hn2 : n ≤ 9223372036854775807) (w : World) :
  Calls Tryz.prog 23 #[.string S, .int .i64 n] w fun e w' => ∃ (A : Option Addr) (cap : Nat) (ys : List Nat), e = .returned (.tuple #[.slice A N cap, .int .i64 x]) ∧ ys.length = N ∧ cbs ys = us ∧ Re.Words ys ∧ At w' w'.heap.size A (fvs ys) ∧ Below w.heap.size w w' := by
 subst hS
 refine (takeRanks_c s n hs hn1 hn2 w).mono ?_
 rintro e w' ⟨hb, A, cap, ys, he, h1, h2, h3, -⟩
 rw [h] at h1 he
 have hl : ys.length = N := by rw [← hN, show us = cbs ys from h1.symm, cbs_len]
 exact ⟨A, cap, ys, by rw [← hl]; exact he, hl, h1, h2, h3, hb⟩
theorem otake_w {s : List UInt8} {S : ByteArray} {n : Int} {us : List Nat} {x : Int} {N : Nat} (hS : ba s = S) (h : takeU s n = (us, x)) (hN : us.length = N) (hs : s.length ≤ 90000) (hn1 : -9223372036854775808 ≤ n) (hn2 : n ≤ 9223372036854775807) (w : World) :
  Calls Tryz.prog 23 #[.string S, .int .i64 n] w fun e w' => ∃ (A : Option Addr) (cap : Nat) (ys : List Nat), e = .returned (.tuple #[.slice A N cap, .int .i64 x]) ∧ ys.length = N ∧ cbs ys = us ∧ Re.Words ys ∧ At w' w'.heap.size A (fvs ys) ∧ (A = none → cap = 0) ∧ Below w.heap.size w w' := by
 subst hS
 refine (takeRanks_c s n hs hn1 hn2 w).mono ?_
 rintro e w' ⟨hb, A, cap, ys, he, h1, h2, h3, h4⟩
 rw [h] at h1 he
 have hl : ys.length = N := by rw [← hN, show us = cbs ys from h1.symm, cbs_len]
 exact ⟨A, cap, ys, by rw [← hl]; exact he, hl, h1, h2, h3, h4, hb⟩
theorem ortake_v {s : List UInt8} {S : ByteArray} {n : Int} {us : List Nat} {x : Int} {N : Nat} (hS : ba s = S) (h : takeU s n = (us, x)) (hN : us.length = N) (hs : s.length ≤ 90000) (hn1 : -9223372036854775808 ≤ n) (hn2 : n ≤ 9223372036854775807) (w : World) :
  Calls Tryz.prog 24 #[.string S, .int .i64 n] w fun e w' => ∃ (A : Option Addr) (cap : Nat) (ys : List Nat), e = .returned (.tuple #[.slice A N cap, .int .i64 x]) ∧ ys.length = N ∧ cbs ys = us ∧ Re.Words ys ∧ At w' w'.heap.size A (fvs ys) ∧ Below w.heap.size w w' := by
 subst hS
 refine (rtranks_c s n hs hn1 hn2 w).mono ?_
 rintro e w' ⟨hb, A, cap, ys, he, h1, h2, h3, -⟩
 rw [h] at h1 he
 have hl : ys.length = N := by rw [← hN, show us = cbs ys from h1.symm, cbs_len]
 exact ⟨A, cap, ys, by rw [← hl]; exact he, hl, h1, h2, h3, hb⟩
theorem ocut_v {s a b : List UInt8} {x : Int} {S P Q : ByteArray} (hS : ba s = S) (h : cutP s = (a, b, x)) (hP : ba a = P) (hQ : ba b = Q) (hs : s.length ≤ 1000000000) (w : World) :
  Calls Tryz.prog 13 #[.string S] w fun e w' => e = .returned (.tuple #[.string P, .string Q, .int .i64 x]) ∧ Below w.heap.size w w' := by
 subst hS hP hQ; exact cut_v hs h w
theorem orcut_v {s a b : List UInt8} {x : Int} {S P Q : ByteArray} (hS : ba s = S) (h : cutP s = (a, b, x)) (hP : ba a = P) (hQ : ba b = Q) (hs : s.length ≤ 1000000000) (w : World) :
  Calls Tryz.prog 14 #[.string S] w fun e w' => e = .returned (.tuple #[.string P, .string Q, .int .i64 x]) ∧ Below w.heap.size w w' := by
 subst hS hP hQ; exact rcut_v hs h w
theorem rsame9_v {xs ys : List Nat} {q : Bool} {A1 A2 : Option Addr} {n1 n2 c1 c2 : Nat} {w : World} (h : decide (cbs xs = cbs ys) = q) (e1 : xs.length = n1) (e2 : ys.length = n2) (hx : xs.length ≤ maxLen) (hy : ys.length ≤ maxLen) (hwx : Re.Words xs) (hwy : Re.Words ys) (h1 : At w w.heap.size A1 (fvs xs)) (h2 : At w w.heap.size A2 (fvs ys)) :
  Calls Tryz.prog 26 #[.slice A1 n1 c1, .slice A2 n2 c2] w fun e w' => e = .returned (.bool q) ∧ ∃ k, w' = w.drewN k := by
 subst h e1 e2; exact rsame9_c A1 A2 c1 c2 xs ys hx hy hwx hwy w h1 h2
theorem same11_v {xs ys : List Ck.Chk} {q : Bool} {A1 A2 : Option Addr} {n1 n2 c1 c2 : Nat} {w : World} (h : decide (xs = ys) = q) (e1 : xs.length = n1) (e2 : ys.length = n2) (hx : xs.length ≤ maxLen) (hy : ys.length ≤ maxLen) (h1 : At w w.heap.size A1 (Ck.cvs xs)) (h2 : At w w.heap.size A2 (Ck.cvs ys)) :
  Calls Tryz.prog 15 #[.slice A1 n1 c1, .slice A2 n2 c2] w fun e w' => e = .returned (.bool q) ∧ ∃ k, w' = w.drewN k := by
 subst h e1 e2; exact Ck.same11_q A1 A2 c1 c2 xs ys hx hy w h1 h2
theorem sameM_selfC : ∀ {l : List Mv}, sameM l l = true
 | [] => rfl
 | m :: l => by
  unfold sameM
  rw [sameM_selfC (l := l)]
  simp [alikeM, alikeP, timeEq]
theorem sim_sameM {a b l : List Mv} (ha : SimL a l) (hb : SimL b l) : sameM a b = true := by
 have h1 : sameM l a = true := by rw [SimL.same ha]; exact sameM_selfC
 have h2 : sameM l b = true := by rw [SimL.same hb]; exact sameM_selfC
 exact sameM_trans (sameM_symm h1) h2
theorem takeU_fit {s : List UInt8} {n : Int} {us : List Nat} (h : takeU s n = (us, 0)) : us.length ≤ 4096 := by
 unfold takeU at h
 split at h
 ·rename_i he; injection h with _ h; exact absurd h he
 ·split at h
  ·rename_i he; injection h with _ h; exact absurd h he
  ·rename_i hf
   have hf0 : (decF (cutP s).1 n).2 = 0 := by simpa using hf
   have hd := (decF_dec hf0).2
   have h4 : (decF (cutP s).1 n).1.length ≤ 4096 := by
    by_cases hn4 : 4096 < n
    ·have hb := decF_big (l := (cutP s).1) hn4
     rw [hb] at hf0
     simp at hf0
    ·omega
   split at h
   ·rename_i he; injection h with _ h; exact absurd h he
   ·split at h
    ·injection h with _ h; simp at h
    ·injection h with h _
     rw [← h, mrg_len]
     exact h4
theorem few11_v {l : List Ck.Chk} {q : Bool} {A : Option Addr} {cap : Nat} {w : World} (h : Ck.few l = q) (hl : l.length ≤ maxLen) (hc : At w w.heap.size A (Ck.cvs l)) :
  Calls Tryz.prog 20 #[.slice A l.length cap] w fun e w' => e = .returned (.bool q) ∧ w = w' := by
 subst h; exact Ck.few_c A cap l hl w hc
theorem takeU_max {s : List UInt8} {n : Int} {us : List Nat} {x : Int} {M : Nat} (h : takeU s n = (us, x)) (hM : us.length = M) (_hs : s.length ≤ 90000) : M ≤ maxLen := by
 subst hM
 by_cases hx : x = 0
 ·subst hx
  have h1 := takeU_fit h
  unfold maxLen; omega
 ·have h1 := takeU_none (s := s) (n := n) (by rw [h]; exact hx)
  rw [h] at h1
  simp only at h1
  rw [h1]; simp
end Go.Proofs.YtojhenpaeedimaaGreat
end
section
namespace Go.Proofs.YtojhenpaeedimaaGreat
open Go.RowKit Go.IntWalk
open Pk Rf Fl Wd Ol Dl Ru Fg Dt Rl
set_option maxRecDepth 100000
attribute [local go_sem] Oper.semAt_some
namespace live19
def m0 : Mv := (5, 2, 3, 0, [97], 0)
def m1 (y : Nat) : Mv := (7, 2, 4, 3, [97], y)
abbrev cN : Nat := 9221120237041090560
abbrev on : Nat := 4607182418800017408
def C : List Ck.Chk := [(4, [2]), (5, [2, 10, 4, 2, 2]), (6, [2, 0, 6, 6, 2]), (7, [1, 1, 97, 0, 2]), (8, [2, 1, 1, 255, 240, 3])]
def C4 : List Ck.Chk := [(4, [2]), (5, [2, 10, 4, 2, 2]), (6, [2, 0, 6, 6, 2]), (7, [1, 1, 97, 0, 2])]
def R : List UInt8 := rkU [0, on, cN]
theorem enc : encO [m0, m1 cN] = C := by kernel_rfl
theorem may : mayM [m0, m1 cN] = true := by kernel_rfl
def D : List Mv := [m0, m1 cN].map bkM
theorem dec : decO C = (D, 0) := by
 rw [← enc, decO_enc may (by intro m hm; simp only [List.mem_cons, List.not_mem_nil, or_false] at hm; rcases hm with rfl | rfl <;> decide)]; rfl
theorem fb0 : (0 : Nat) = cb (fl (cb 0)) := by kernel_rfl
theorem fbN : cN = cb (fl (cb cN)) := by kernel_rfl
theorem simD {y : Nat} (hn : nn y = true) (hl : y < 18446744073709551616) : SimL [m0, m1 y] D :=
 ⟨⟨rfl, rfl, rfl, rfl, rfl, by decide, fb0⟩, ⟨rfl, rfl, rfl, rfl, rfl, hl, (cb_nan hn).trans fbN⟩, trivial⟩
theorem d4 : decO C4 = ([], 5) := rfl
theorem mayx : mayM [m1 cN, m0] = false := by kernel_rfl
theorem cu1 : cutP [2, 97, 98, 99] = ([97, 98], [99], 0) := by kernel_rfl
theorem cu2 : cutP [5, 97, 98, 99] = ([], [], 2) := by kernel_rfl
theorem ta : takeU R 3 = ([0, on, cN], 0) := takeU_rkU (us := [0, on, cN]) (by intro u hu; simp only [List.mem_cons, List.not_mem_nil, or_false] at hu; rcases hu with rfl | rfl | rfl <;> exact ⟨by decide, by decide⟩) (by decide)
theorem tb : takeU [2, 0, 1, 0] 1 = ([], 5) := by kernel_rfl
theorem rl : R.length ≤ 90000 := Nat.le_of_ble_eq_true (by kernel_rfl)
theorem pt : prt [97, 98] = [2, 97, 98] := by kernel_rfl
theorem sim {y : Nat} (hn : nn y = true) (hl : y < 18446744073709551616) : SimL [m0, m1 y] [m0, m1 cN] :=
 ⟨⟨rfl, rfl, rfl, rfl, rfl, by decide, rfl⟩, ⟨rfl, rfl, rfl, rfl, rfl, hl, (cb_nan hn).trans (by decide)⟩, trivial⟩
theorem simx {y : Nat} (hn : nn y = true) (hl : y < 18446744073709551616) : SimL [m1 y, m0] [m1 cN, m0] :=
 ⟨⟨rfl, rfl, rfl, rfl, rfl, hl, (cb_nan hn).trans (by decide)⟩, ⟨rfl, rfl, rfl, rfl, rfl, by decide, rfl⟩, trivial⟩
theorem ec {y : Nat} (hn : nn y = true) (hl : y < 18446744073709551616) : encC [m0, m1 y] = C := by rw [sim_encC (sim hn hl)]; unfold encC; rw [may, enc]; rfl
theorem ee {y : Nat} (hn : nn y = true) (hl : y < 18446744073709551616) : encE [m0, m1 y] = 0 := by rw [sim_encE (sim hn hl)]; unfold encE; rw [may]; rfl
theorem xc {y : Nat} (hn : nn y = true) (hl : y < 18446744073709551616) : encC [m1 y, m0] = [] := by rw [sim_encC (simx hn hl)]; unfold encC; rw [mayx]; rfl
theorem xe {y : Nat} (hn : nn y = true) (hl : y < 18446744073709551616) : encE [m1 y, m0] = 1 := by rw [sim_encE (simx hn hl)]; unfold encE; rw [mayx]; rfl
theorem ok {y : Nat} (hl : y < 18446744073709551616) : Mok4 [m0, m1 y] := fun m hm => by
 simp only [List.mem_cons, List.not_mem_nil, or_false] at hm
 rcases hm with rfl | rfl
 ·exact ⟨by decide, by decide⟩
 ·exact ⟨hl, by show [97].length ≤ 1000; decide⟩
theorem okx {y : Nat} (hl : y < 18446744073709551616) : Mok4 [m1 y, m0] := fun m hm => ok hl m (by simp only [List.mem_cons, List.not_mem_nil, or_false] at hm ⊢; exact hm.symm)
theorem mv {y : Nat} (hl : y < 18446744073709551616) : Moves_ [m0, m1 y] := fun m hm => ⟨(ok hl m hm).1, by have := (ok hl m hm).2; unfold maxLen; omega⟩
theorem cb3 {y : Nat} (hn : nn y = true) : cbs [0, on, y] = [0, on, cN] := by
 show [cb 0, cb on, cb y] = _
 rw [cb_nan hn]
 decide
theorem rk3 {y : Nat} (hn : nn y = true) : rkF [0, on, y] = R := by unfold rkF; rw [cb3 hn]; rfl
theorem w3 {y : Nat} (hl : y < 18446744073709551616) : Re.Words [0, on, y] := fun u hu => by
 simp only [List.mem_cons, List.not_mem_nil, or_false] at hu
 rcases hu with rfl | rfl | rfl
 ·decide
 ·decide
 ·exact hl
theorem at_pre {w : World} {B : Nat} {A : Option Addr} {xs ys : List Value} (h : At w B A (xs ++ ys)) : At w B A xs := fun i v hv => h i v (by rw [List.getElem?_append_left ((List.getElem?_eq_some_iff.1 hv).1)]; exact hv)
theorem cut4 {w : World} {B : Nat} {A : Option Addr} (h : At w B A (Ck.cvs C)) : At w B A (Ck.cvs C4) := at_pre (ys := Ck.cvs [(8, [2, 1, 1, 255, 240, 3])]) h
theorem small4 : ∀ q ∈ C4, q.2.length ≤ 90000 := by decide
theorem small : ∀ q ∈ C, q.2.length ≤ 90000 := by decide
end live19
set_option maxHeartbeats 16000000 in
theorem live19_c (w : World) :
  Calls Tryz.prog 10 #[] w fun e w' => e = .returned (.bool true) ∧ Below w.heap.size w w' := by
 have hd0 := run_float_none Tryz.prog w .quo 49 0 0 (.inl rfl) (by decide)
 obtain ⟨hyn, hyl⟩ := nanW_nn 0 0 w
 obtain ⟨y, hy⟩ : ∃ y, y = nanW 0 0 w := ⟨_, rfl⟩
 rw [← hy] at hd0 hyn hyl
 have HYN := Lib.hid hyn
 have HYL := Lib.hid hyl
 clear hy hyn hyl
 obtain ⟨w1, hw1⟩ : ∃ w1, w1 = (w.alloc (.cells #[.int .i64 5, .int .i64 2, .int .i64 0, .int .i64 3, .string ⟨#[97]⟩, .float .f64 0, .int .i64 7, .int .i64 2, .int .i64 3, .int .i64 4, .string ⟨#[97]⟩, .float .f64 y] 51)).drew := ⟨_, rfl⟩
 have b1 : Below w.heap.size w w1 := by rw [hw1]; exact ((Below.refl _ _).alloc (Nat.le_refl _) _).drew
 have i1 : Is w1 w.heap.size 51 (mvs [live19.m0, live19.m1 y]) := by rw [hw1]; exact is_new w 51 (mvs [live19.m0, live19.m1 y])
 obtain ⟨g, hg⟩ : ∃ g, w.heap.size = g := ⟨_, rfl⟩
 rw [hg] at i1
 have B1 := Lib.hid b1
 have HM1 := Lib.hid (is_atM i1 (is_lt i1))
 have W1 := Lib.hid hw1
 have HG := Lib.hid hg
 clear b1 i1 hw1 hg
 go_enter Tryz.func10, Tryz.ntmps10
 go_wp2_with fail
 rw [HG.out]
 rw [← W1.out]
 refine (oenc_v (n := 2) (cap := 2) rfl (live19.ec HYN.out HYL.out) (live19.ee HYN.out HYL.out) (by simp) (live19.ok HYL.out) HM1.out).mono ?_
 rintro e w2 ⟨A1, c1, rfl, hc, hcap, hb⟩
 have B2 := Lib.hid (B1.out.trans (hb.mono B1.out.size))
 have HM2 := Lib.hid (HM1.out.keep hb)
 have HC2 := Lib.hid hc
 clear hb B1 HM1
 clear hc hd0
 have hcl : live19.C.length = 5 := rfl
 rw [hcl] at hcap
 rw [hcl]
 clear hcl
 go_wp2_with fail
 refine (odec_v (n := 5) (N := 2) rfl live19.dec rfl (by decide) live19.small HC2.out).mono ?_
 rintro e w3 ⟨A2, c2, l2, rfl, hl2, hs2, ho, hb⟩
 have B3 := Lib.hid (B2.out.trans (hb.mono B2.out.size))
 have HM3 := Lib.hid (HM2.out.keep hb)
 have HC3 := Lib.hid (HC2.out.keep hb)
 have HO3 := Lib.hid ho
 clear hb B2 HM2 HC2
 clear ho
 have HL2 := Lib.hid hl2
 have HS2 := Lib.hid hs2
 clear hl2 hs2
 have hc4 : (4 : Int) ≤ (c1 : Int) := by omega
 have hc5 : (5 : Int) ≤ (c1 : Int) := by omega
 go_wp2_with fail
 refine (odec_v (n := 4) (N := 0) rfl live19.d4 rfl (by decide) live19.small4 (live19.cut4 HC3.out)).mono ?_
 rintro e w4 ⟨A3, c3, l3, rfl, -, -, -, hb⟩
 have B4 := Lib.hid (B3.out.trans (hb.mono B3.out.size))
 have HM4 := Lib.hid (HM3.out.keep hb)
 have HC4 := Lib.hid (HC3.out.keep hb)
 have HO4 := Lib.hid (HO3.out.keep hb)
 clear hb B3 HM3 HC3 HO3
 obtain ⟨bm, om, em, hbm, d0, d1, d2, d3, d4, d5⟩ := move_cells HM4.out (k := 0) (x := live19.m0) rfl
 cases em
 obtain ⟨bm, om, em, -, e0, e1, e2, e3, e4, e5⟩ := move_cells HM4.out (k := 1) (x := live19.m1 y) rfl
 cases em
 simp only [Nat.zero_mul, Nat.add_zero, Nat.zero_add, Nat.one_mul] at d0 d1 d2 d3 d4 d5 e0 e1 e2 e3 e4 e5
 change w4.cell? ⟨g, 0, none⟩ = some (.int .i64 5) at d0
 change w4.cell? ⟨g, 1, none⟩ = some (.int .i64 2) at d1
 change w4.cell? ⟨g, 2, none⟩ = some (.int .i64 0) at d2
 change w4.cell? ⟨g, 3, none⟩ = some (.int .i64 3) at d3
 change w4.cell? ⟨g, 4, none⟩ = some (.string ⟨#[97]⟩) at d4
 change w4.cell? ⟨g, 5, none⟩ = some (.float .f64 0) at d5
 change w4.cell? ⟨g, 6, none⟩ = some (.int .i64 7) at e0
 change w4.cell? ⟨g, 7, none⟩ = some (.int .i64 2) at e1
 change w4.cell? ⟨g, 8, none⟩ = some (.int .i64 3) at e2
 change w4.cell? ⟨g, 9, none⟩ = some (.int .i64 4) at e3
 change w4.cell? ⟨g, 10, none⟩ = some (.string ⟨#[97]⟩) at e4
 change w4.cell? ⟨g, 11, none⟩ = some (.float .f64 y) at e5
 obtain ⟨wq, hw5⟩ : ∃ wq, wq = w4.drew.alloc (.cells #[.int .i64 7, .int .i64 2, .int .i64 3, .int .i64 4, .string ⟨#[97]⟩, .float .f64 y, .int .i64 5, .int .i64 2, .int .i64 0, .int .i64 3, .string ⟨#[97]⟩, .float .f64 0] 51) := ⟨_, rfl⟩
 have hb : Below w4.heap.size w4 wq := by rw [hw5]; exact (Below.refl _ _).drew.alloc (Nat.le_refl _) _
 have i5 : Is wq w4.heap.size 51 (mvs [live19.m1 y, live19.m0]) := by rw [hw5]; exact is_new w4.drew 51 (mvs [live19.m1 y, live19.m0])
 have hcall := oenc_v (n := 2) (cap := 2) rfl (live19.xc HYN.out HYL.out) (live19.xe HYN.out HYL.out) (by simp) (live19.okx HYL.out) (is_atM i5 (is_lt i5))
 rw [hw5] at hcall
 have HCA := Lib.hid hcall
 have HW5 := Lib.hid hw5
 clear hcall i5 hw5 hbm
 go_upto_region 9 with fail
 go_cut [9, 10] (fun s9 s10 wx => (∃ A c, s9 = .slice A 0 c) ∧ s10 = .int .i64 1 ∧ Below w4.heap.size w4 wx)
 case first =>
  go_region_with (go_at_call 11; refine HCA.out.mono ?_; rintro e w6 ⟨A6, c6, rfl, -, -, hb6⟩)
  all_goals (
   go_wp2_with fail
   go_meet
   rw [← HW5.out] at hb6
   first | exact hb.trans (hb6.mono hb.size) | exact ⟨⟨_, _, rfl⟩, rfl, hb.trans (hb6.mono hb.size)⟩)
 case rest =>
 obtain ⟨⟨A6, c6, rfl⟩, rfl, hb6⟩ := hcut
 rename World => w5
 clear hb
 have B5 := Lib.hid (B4.out.trans (hb6.mono B4.out.size))
 have HM5 := Lib.hid (HM4.out.keep hb6)
 have HC5 := Lib.hid (HC4.out.keep hb6)
 have HO5 := Lib.hid (HO4.out.keep hb6)
 clear hb6 B4 HM4 HC4 HO4
 clear d0 d1 d2 d3 d4 d5 e0 e1 e2 e3 e4 e5 HCA HW5
 go_wp2_with fail
 refine (ocut_v (s := [2, 97, 98, 99]) (P := ⟨#[97, 98]⟩) (Q := ⟨#[99]⟩) rfl live19.cu1 rfl rfl (by decide) _).mono ?_
 rintro e w6 ⟨rfl, hb⟩
 have B6 := Lib.hid (B5.out.trans (hb.mono B5.out.size))
 have HM6 := Lib.hid (HM5.out.keep hb)
 have HC6 := Lib.hid (HC5.out.keep hb)
 have HO6 := Lib.hid (HO5.out.keep hb)
 clear hb B5 HM5 HC5 HO5
 go_wp2_with fail
 refine (ocut_v (s := [5, 97, 98, 99]) (P := ⟨#[]⟩) (Q := ⟨#[]⟩) rfl live19.cu2 rfl rfl (by decide) _).mono ?_
 rintro e w7 ⟨rfl, hb⟩
 have B7 := Lib.hid (B6.out.trans (hb.mono B6.out.size))
 have HM7 := Lib.hid (HM6.out.keep hb)
 have HC7 := Lib.hid (HC6.out.keep hb)
 have HO7 := Lib.hid (HO6.out.keep hb)
 clear hb B6 HM6 HC6 HO6
 obtain ⟨w8, hw8⟩ : ∃ w8, w8 = w7.alloc (.cells #[.float .f64 0, .float .f64 4607182418800017408, .float .f64 y] 49) := ⟨_, rfl⟩
 have hb : Below w7.heap.size w7 w8 := by rw [hw8]; exact (Below.refl _ _).alloc (Nat.le_refl _) _
 have hpr := pranks_k (w := w8) (A := some ⟨w7.heap.size, 0, none⟩) (n := 3) (cap := 3) (l := [0, live19.on, y]) rfl (by rw [live19.rk3 HYN.out]) (by decide) (fun e => by cases e) (live19.w3 HYL.out) (by rw [hw8]; exact at_newO w7 49 (fvs [0, live19.on, y]))
 have HPR := Lib.hid hpr
 have HW8 := Lib.hid hw8
 clear hpr hw8
 have B8 := Lib.hid (B7.out.trans (hb.mono B7.out.size))
 have HM8 := Lib.hid (HM7.out.keep hb)
 have HC8 := Lib.hid (HC7.out.keep hb)
 have HO8 := Lib.hid (HO7.out.keep hb)
 clear hb B7 HM7 HC7 HO7
 go_wp2_with fail
 rw [← HW8.out]
 refine HPR.out.mono ?_
 rintro e w9 ⟨rfl, hb⟩
 have B9 := Lib.hid (B8.out.trans (hb.mono B8.out.size))
 have HM9 := Lib.hid (HM8.out.keep hb)
 have HC9 := Lib.hid (HC8.out.keep hb)
 have HO9 := Lib.hid (HO8.out.keep hb)
 clear hb B8 HM8 HC8 HO8
 go_wp2_with fail
 refine (otake_v (N := 3) rfl live19.ta rfl live19.rl (by decide) (by decide) _).mono ?_
 rintro e w10 ⟨A10, c10, y10, rfl, hl10, hc10, hw10, ho, hb⟩
 have B10 := Lib.hid (B9.out.trans (hb.mono B9.out.size))
 have HM10 := Lib.hid (HM9.out.keep hb)
 have HC10 := Lib.hid (HC9.out.keep hb)
 have HO10 := Lib.hid (HO9.out.keep hb)
 have HR10 := Lib.hid ho
 clear hb B9 HM9 HC9 HO9
 clear ho
 have HL10 := Lib.hid hl10
 have HCBX := Lib.hid hc10
 have HWR := Lib.hid hw10
 clear hl10 hc10 hw10
 go_wp2_with fail
 refine (otake_v (s := [2, 0, 1, 0]) (N := 0) rfl live19.tb rfl (by decide) (by decide) (by decide) _).mono ?_
 rintro e w11 ⟨A11, c11, y11, rfl, -, -, -, -, hb⟩
 have B11 := Lib.hid (B10.out.trans (hb.mono B10.out.size))
 have HM11 := Lib.hid (HM10.out.keep hb)
 have HC11 := Lib.hid (HC10.out.keep hb)
 have HO11 := Lib.hid (HO10.out.keep hb)
 have HR11 := Lib.hid (HR10.out.keep hb)
 clear hb B10 HM10 HC10 HO10 HR10
 obtain ⟨bc, oc, rfl, hbc, f0, f1⟩ := Ck.chunk_cells (k := 0) HC11.out (x := (4, [2])) rfl
 obtain ⟨_, _, ec, _, -, f3⟩ := Ck.chunk_cells (k := 1) HC11.out (x := (5, [2, 10, 4, 2, 2])) rfl
 cases ec
 obtain ⟨_, _, ec, _, -, f5⟩ := Ck.chunk_cells (k := 2) HC11.out (x := (6, [2, 0, 6, 6, 2])) rfl
 cases ec
 obtain ⟨_, _, ec, _, -, f7⟩ := Ck.chunk_cells (k := 3) HC11.out (x := (7, [1, 1, 97, 0, 2])) rfl
 cases ec
 obtain ⟨_, _, ec, _, -, f9⟩ := Ck.chunk_cells (k := 4) HC11.out (x := (8, [2, 1, 1, 255, 240, 3])) rfl
 cases ec
 change w11.cell? ⟨bc, oc, none⟩ = some (.int .i64 4) at f0
 change w11.cell? ⟨bc, oc + 1, none⟩ = some (.string ⟨#[2]⟩) at f1
 change w11.cell? ⟨bc, oc + 3, none⟩ = some (.string ⟨#[2, 10, 4, 2, 2]⟩) at f3
 change w11.cell? ⟨bc, oc + 5, none⟩ = some (.string ⟨#[2, 0, 6, 6, 2]⟩) at f5
 change w11.cell? ⟨bc, oc + 7, none⟩ = some (.string ⟨#[1, 1, 97, 0, 2]⟩) at f7
 change w11.cell? ⟨bc, oc + 9, none⟩ = some (.string ⟨#[2, 1, 1, 255, 240, 3]⟩) at f9
 have hsm := rmsame_v (n1 := 2) (n2 := 2) (c1 := c2) (c2 := 2) (sim_sameM HS2.out (live19.simD HYN.out HYL.out)) HL2.out rfl (by rw [HL2.out]; decide) (by unfold maxLen; simp) (sim_movesO live19.dec HS2.out) (live19.mv HYL.out) HO11.out HM11.out
 have HSM := Lib.hid hsm
 clear hsm hbc
 go_wp2_with fail
 with_reducible refine HSM.out.mono ?_
 rintro e w12 ⟨rfl, hb⟩
 have B12 := Lib.hid (B11.out.trans (hb.mono B11.out.size))
 have HM12 := Lib.hid (HM11.out.keep hb)
 have HC12 := Lib.hid (HC11.out.keep hb)
 have HO12 := Lib.hid (HO11.out.keep hb)
 have HR12 := Lib.hid (HR11.out.keep hb)
 clear hb B11 HM11 HC11 HO11 HR11
 clear f0 f1 f3 f5 f7 f9 HSM
 go_wp2_with fail
 refine (prt_v (s := [97, 98]) (S := ⟨#[97, 98]⟩) (T := ⟨#[2, 97, 98]⟩) rfl (by rw [live19.pt]; rfl) (by decide) _).mono ?_
 rintro e w13 ⟨rfl, hb⟩
 have B13 := Lib.hid (B12.out.trans (hb.mono B12.out.size))
 have HM13 := Lib.hid (HM12.out.keep hb)
 have HC13 := Lib.hid (HC12.out.keep hb)
 have HO13 := Lib.hid (HO12.out.keep hb)
 have HR13 := Lib.hid (HR12.out.keep hb)
 clear hb B12 HM12 HC12 HO12 HR12
 obtain ⟨w14, hw14⟩ : ∃ w14, w14 = w13.alloc (.cells #[.float .f64 0, .float .f64 4607182418800017408, .float .f64 y] 49) := ⟨_, rfl⟩
 have hb : Below w13.heap.size w13 w14 := by rw [hw14]; exact (Below.refl _ _).alloc (Nat.le_refl _) _
 have hat : At w14 w14.heap.size (some ⟨w13.heap.size, 0, none⟩) (fvs [0, live19.on, y]) := by rw [hw14]; exact at_newO w13 49 (fvs [0, live19.on, y])
 have HAT := Lib.hid hat
 have HW14 := Lib.hid hw14
 clear hat hw14
 have B14 := Lib.hid (B13.out.trans (hb.mono B13.out.size))
 have HM14 := Lib.hid (HM13.out.keep hb)
 have HC14 := Lib.hid (HC13.out.keep hb)
 have HO14 := Lib.hid (HO13.out.keep hb)
 have HR14 := Lib.hid (HR13.out.keep hb)
 clear hb B13 HM13 HC13 HO13 HR13
 have hsm := rsame9_v (q := true) (n1 := 3) (n2 := 3) (c1 := c10) (c2 := 3) (decide_eq_true (HCBX.out.trans (live19.cb3 HYN.out).symm)) HL10.out rfl (by rw [HL10.out]; unfold maxLen; decide) (by unfold maxLen; simp) HWR.out (live19.w3 HYL.out) HR14.out HAT.out
 have HSM := Lib.hid hsm
 clear hsm
 go_wp2_with fail
 rw [← HW14.out]
 refine HSM.out.mono ?_
 rintro e w15 ⟨rfl, q, rfl⟩
 go_wp2_with fail
 go_ret
 exact ⟨rfl, below_drewN B14.out q⟩
end Go.Proofs.YtojhenpaeedimaaGreat
end
