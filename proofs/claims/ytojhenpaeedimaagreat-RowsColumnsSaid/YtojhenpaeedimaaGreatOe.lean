/-
 Plain mathematics of layer 19: columns that are read are what their moves make. No Go.
 Part and Cut; must, that panics; takeCut.
 Columns of a list of moves: the program's.
-/
import Derived.Test.YtojhenpaeedimaaGreatOb
import Derived.Test.YtojhenpaeedimaaGreatBl
import Derived.Deep.QuietTactic
import Derived.BigQuiet
import Derived.Test.YtojhenpaeedimaaGreatZe
import Derived.Recover
import Derived.Test.YtojhenpaeedimaaGreatUg
import Derived.Test.YtojhenpaeedimaaGreatZs
import Derived.Test.YtojhenpaeedimaaGreatHh
import Derived.Test.YtojhenpaeedimaaGreatJf
import Derived.Shelf.Abstract
import Derived.Laws.MakeOwn
section
namespace Go.Proofs.YtojhenpaeedimaaGreat.Ol
open Pk Wd Fl Rf Ck
set_option maxRecDepth 100000
theorem if_zero {α : Type} {x : Int} {y : List α × Int} {l : List α} (h : (if x ≠ 0 then ([], x) else y) = (l, 0)) : x = 0 ∧ y = (l, 0) := by
 by_cases hx : x ≠ 0
 ·rw [if_pos hx] at h; injection h with _ h; exact absurd h hx
 ·rw [if_neg hx] at h; exact ⟨by simpa using hx, h⟩
theorem endO_ok {z l : List Mv} (h : endO z = (l, 0)) : z = l ∧ mayM l = true := by
 unfold endO at h
 split at h
 ·injection h with _ h; simp at h
 ·split at h
  ·injection h with _ h; simp at h
  ·rename_i h1 h2
   injection h with h _
   subst h
   exact ⟨rfl, by simpa using h2⟩
theorem cut_ok {s : List UInt8} (h : (cutP s).2.2 = 0) : s = prt (cutP s).1 ++ (cutP s).2.1 :=
 (cutP_back (a := (cutP s).1) (b := (cutP s).2.1) (Prod.ext rfl (Prod.ext rfl h))).1
theorem decN_back {n : Nat} {b1 b2 b3 b4 : List UInt8} {l : List Mv} (h : decN n b1 b2 b3 b4 = (l, 0)) :
  bdT l = b1 ∧ bdE l = b2 ∧ Dt.encD (nmL l) = b3 ∧ rkU (rkL l) = b4 ∧ l.length = n ∧ mayM l = true := by
 unfold decN at h
 obtain ⟨c1, h⟩ := if_zero h
 obtain ⟨c2, h⟩ := if_zero h
 obtain ⟨c3, h⟩ := if_zero h
 obtain ⟨c4, h⟩ := if_zero h
 obtain ⟨c5, h⟩ := if_zero h
 obtain ⟨c6, h⟩ := if_zero h
 obtain ⟨c7, h⟩ := if_zero h
 obtain ⟨c8, h⟩ := if_zero h
 obtain ⟨hz, hm⟩ := endO_ok h
 have d2 := enc_dec c2
 have d3 := decU_dec c3
 have d5 := enc_dec c5
 have d6 := enc_dec c6
 have d7 := Dt.decD_dec c7
 have d8 := takeU_back (us := (takeU b4 n).1) (Prod.ext rfl c8)
 have z := zip_fwd (decV (cutP b1).1 n).1 (decU (cutP b1).2.1 n).1 (decV (cutP b2).1 n).1 (decV (cutP b2).2.1 n).1 (Dt.decD b3 n 64).1 (takeU b4 n).1 n (by have := d2.2; omega) (by have := d3.2; omega) (by have := d5.2; omega) (by have := d6.2; omega) (by have := d7.2.1; omega) (by have := d8.2.1; omega) (decU_lt c3) d8.2.2
 rw [hz] at z
 obtain ⟨z1, z2, z3, z4, z5, z6, z7⟩ := z
 refine ⟨?_, ?_, ?_, ?_, z7, hm⟩
 ·unfold bdT
  rw [z1, z2, d2.1, d3.1]
  exact (cut_ok c1).symm
 ·unfold bdE
  rw [z3, z4, d5.1, d6.1]
  exact (cut_ok c4).symm
 ·rw [z5, d7.1]
 ·rw [z6, d8.1]
theorem decB_back {b0 b1 b2 b3 b4 : List UInt8} {l : List Mv} (h : decB b0 b1 b2 b3 b4 = (l, 0)) :
  put l.length = b0 ∧ bdT l = b1 ∧ bdE l = b2 ∧ Dt.encD (nmL l) = b3 ∧ rkU (rkL l) = b4 ∧ mayM l = true := by
 unfold decB at h
 obtain ⟨c1, h⟩ := if_zero h
 split at h
 ·injection h with _ h; simp at h
 ·obtain ⟨d1, d2, d3, d4, d5, d6⟩ := decN_back h
  refine ⟨?_, d1, d2, d3, d4, d6⟩
  have he : (numS ⟨b0, 0⟩).e = 0 ∧ (numS ⟨b0, 0⟩).l.length = 0 := by
   unfold doneV at c1
   split at c1
   ·rename_i h1
    split at c1
    ·simp at c1
    ·exact ⟨h1, by omega⟩
   ·rename_i h1; exact absurd c1 h1
  have hs := (num_split (s := ⟨b0, 0⟩) he.1).2
  rw [List.eq_nil_of_length_eq_zero he.2, List.append_nil] at hs
  rw [d5]
  exact hs.symm
theorem decO_back {c : List Chk} {l : List Mv} (h : decO c = (l, 0)) : encO l = c ∧ mayM l = true := by
 unfold decO at h
 split at h
 ·split at h
  ·rename_i hk
   obtain ⟨k0, k1, k2, k3, k4⟩ := hk
   obtain ⟨d0, d1, d2, d3, d4, d5⟩ := decB_back h
   subst k0 k1 k2 k3 k4
   unfold encO
   rw [d0, d1, d2, d3, d4]
   exact ⟨rfl, d5⟩
  ·injection h with _ h; simp at h
 ·injection h with _ h; simp at h
theorem decO_names {c : List Chk} {l : List Mv} {x : Int} (h : decO c = (l, x)) : (∀ m ∈ l, (nm (mw m)).length ≤ 64) ∧ l.length ≤ 2000 := by
 by_cases hx : x = 0
 ·subst hx
  have hm := (decO_back h).2
  exact ⟨fun m hmm => (oneM_facts (mayM_all hm m hmm)).2.2.2.2.1, (mayM_facts hm).1⟩
 ·have h1 := decO_none (c := c) (by rw [h]; exact hx)
  rw [h] at h1
  simp only at h1
  subst h1
  exact ⟨fun m hm => (by simp at hm), by simp⟩
theorem sameM_symm : ∀ {a b : List Mv}, sameM a b = true → sameM b a = true
 | [], [], _ => rfl
 | [], _ :: _, h => by simp [sameM] at h
 | _ :: _, [], h => by simp [sameM] at h
 | x :: a, y :: b, h => by
  unfold sameM at h ⊢
  simp only [Bool.and_eq_true] at h ⊢
  exact ⟨alikeM_symm h.1, sameM_symm h.2⟩
theorem sameM_trans : ∀ {a b c : List Mv}, sameM a b = true → sameM b c = true → sameM a c = true
 | [], [], c, _, h2 => h2
 | [], _ :: _, _, h, _ => by simp [sameM] at h
 | _ :: _, [], _, h, _ => by simp [sameM] at h
 | _ :: _, _ :: _, [], _, h => by simp [sameM] at h
 | x :: a, y :: b, z :: c, h, h2 => by
  unfold sameM at h h2 ⊢
  simp only [Bool.and_eq_true] at h h2 ⊢
  exact ⟨alikeM_trans h.1 h2.1, sameM_trans h.2 h2.2⟩
/-- encO tells moves apart by what they are -/
theorem encO_same {a b : List Mv} (ha : mayM a = true) (hb : mayM b = true) (hra : ∀ m ∈ a, rk (mw m) < 18446744073709551616) (hrb : ∀ m ∈ b, rk (mw m) < 18446744073709551616) : decide (encO a = encO b) = sameM a b := by
 have s1 : ∀ {a b : List Mv}, sameM a b = true → encO a = encO b := by
  intro a b h
  have : ∀ (a b : List Mv), sameM a b = true → a.length = b.length ∧ mcL a = mcL b ∧ mrL a = mrL b ∧ paL a = paL b ∧ chL a = chL b ∧ nmL a = nmL b ∧ rkL a = rkL b := by
   intro a
   induction a with
   | nil => intro b h; cases b with
    | nil => exact ⟨rfl, rfl, rfl, rfl, rfl, rfl, rfl⟩
    | cons y t => simp [sameM] at h
   | cons x s ih =>
    intro b h
    cases b with
    | nil => simp [sameM] at h
    | cons y t =>
     unfold sameM at h
     simp only [Bool.and_eq_true] at h
     obtain ⟨i1, i2, i3, i4, i5, i6, i7⟩ := ih t h.2
     have hx := h.1
     unfold alikeM alikeP at hx
     simp only [Bool.and_eq_true, decide_eq_true_eq, beq_iff_eq] at hx
     obtain ⟨h1, h2, h3, h4, h5⟩ := hx
     have ht := timeEq_iff.1 h1
     simp only [mcL, mrL, paL, chL, nmL, rkL] at i2 i3 i4 i5 i6 i7 ⊢
     simp only [List.map_cons, List.length_cons]
     refine ⟨by rw [i1], ?_, ?_, ?_, ?_, ?_, ?_⟩
     ·rw [ht.1, i2]
     ·rw [ht.2, i3]
     ·rw [h3, i4]
     ·rw [h2, i5]
     ·rw [h4, i6]
     ·rw [i7]; congr 1; omega
  obtain ⟨i1, i2, i3, i4, i5, i6, i7⟩ := this a b h
  unfold encO bdT bdE
  rw [i1, i2, i3, i4, i5, i6, i7]
 cases hq : sameM a b with
 | true => exact decide_eq_true (s1 hq)
 | false =>
  refine decide_eq_false fun e => ?_
  have d1 := decO_enc ha hra
  have d2 := decO_enc hb hrb
  rw [e, d2] at d1
  injection d1 with d1 _
  have e1 := same_bk hra
  have e2 := same_bk hrb
  rw [← d1] at e1
  have : sameM a b = true := sameM_trans (sameM_symm e1) e2
  rw [hq] at this
  cases this
end Go.Proofs.YtojhenpaeedimaaGreat.Ol
end
section
namespace Go.Proofs.YtojhenpaeedimaaGreat
open Go.RowKit Go.IntWalk
open Pk Rf Fl Wd Ol
set_option maxRecDepth 100000
attribute [local go_sem] Oper.semAt_some
/-- what a panic with an error is -/
abbrev Pn (x : Int) : Ending := .panicked [{ v := .iface 27 (.int .i64 x), recovered := false }]
theorem prt_len {s : List UInt8} (h : s.length ≤ 1000000) : (prt s).length ≤ s.length + 10 := by
 have := put_len10 (n := s.length) (by omega)
 unfold prt; rw [List.length_append]; omega
theorem prt_c {s : List UInt8} (hs : s.length ≤ 1000000) (w : World) :
  Calls Tryz.prog 18 #[.string (ba s)] w fun e w' => e = .returned (.string (ba (prt s))) ∧ Below w.heap.size w w' := by
 have hbs := ba_size s
 have hwu : IntKind.u64.wrap (s.length : Int) = (s.length : Int) := by rw [IntKind.wrap_u64]; omega
 have hp := put_len10 (n := s.length) (by omega)
 have hadd : ∀ w : World, (Op.stringOp .add (ba (put s.length)) (ba s)).run Tryz.prog w = .ok (.string (ba (prt s))) w := fun w => hadd_v _ _ (by omega) w
 go_enter Tryz.func18, Tryz.ntmps18
 go_wp2_with fail
 refine (put_c s.length (by omega) _).mono ?_
 rintro e w1 ⟨rfl, hb⟩
 go_wp2_with fail
 go_ret
 exact ⟨rfl, hb⟩
theorem numV_w (s : St) : IntKind.i64.wrap (numV s : Int) = i64 (numV s) := by
 have := numV_lt s
 rw [IntKind.wrap_i64]; unfold i64; split <;> omega
theorem numV_w2 (s : St) : Go.RowKit.wrap64 (numV s : Int) = i64 (numV s) := by
 have := numV_lt s
 unfold Go.RowKit.wrap64 i64; split <;> omega
/-- what Cut reads, by the Reader's steps -/
theorem cut_steps (s : List UInt8) (hs : s.length ≤ 1000000000) (s1 s2 s3 : St) (h1 : numS ⟨s, 0⟩ = s1) (h2 : takeS (i64 (numV ⟨s, 0⟩)) s1 = s2) (h3 : takeS (s2.l.length : Int) s2 = s3) :
  cutP s = (takeV (i64 (numV ⟨s, 0⟩)) s1, takeV (s2.l.length : Int) s2, s3.e) := by
 have hv := numV_lt ⟨s, 0⟩
 have hlen := numS_le ⟨s, 0⟩
 rw [h1] at hlen
 simp only at hlen
 unfold cutP
 rw [h1]
 by_cases he : s1.e = 0
 ·rw [if_neg (by simpa using he)]
  by_cases hl : s1.l.length < numV ⟨s, 0⟩
  ·rw [if_pos hl]
   have hc : i64 (numV ⟨s, 0⟩) < 0 ∨ (s1.l.length : Int) < i64 (numV ⟨s, 0⟩) := by unfold i64; split <;> omega
   have ht := take_cut he hc
   rw [ht.2] at h2
   subst h2
   have ht2 := take_err (n := (s1.l.length : Int)) (s := (⟨s1.l, 2⟩ : St)) (by simp)
   rw [ht2.2] at h3
   subst h3
   rw [ht.1, ht2.1]
  ·rw [if_neg hl]
   have hc : ¬ (i64 (numV ⟨s, 0⟩) < 0 ∨ (s1.l.length : Int) < i64 (numV ⟨s, 0⟩)) := by unfold i64; split <;> omega
   have ht := take_ok he hc
   have hn : (i64 (numV ⟨s, 0⟩)).toNat = numV ⟨s, 0⟩ := by unfold i64; split <;> omega
   rw [hn] at ht
   rw [ht.2] at h2
   subst h2
   have ht2 := take_ok (n := ((s1.l.drop (numV ⟨s, 0⟩)).length : Int)) (s := (⟨s1.l.drop (numV ⟨s, 0⟩), 0⟩ : St)) rfl (by simp only; omega)
   rw [ht2.2] at h3
   subst h3
   rw [ht.1, ht2.1]
   simp only [Int.toNat_natCast, List.take_length]
 ·rw [if_pos (by simpa using he)]
  have ht := take_err (n := i64 (numV ⟨s, 0⟩)) he
  rw [ht.2] at h2
  subst h2
  have ht2 := take_err (n := (s1.l.length : Int)) he
  rw [ht2.2] at h3
  subst h3
  rw [ht.1, ht2.1]
set_option maxHeartbeats 4000000 in
theorem cut_v {s a b : List UInt8} {x : Int} (hs : s.length ≤ 1000000000) (h : cutP s = (a, b, x)) (w : World) :
  Calls Tryz.prog 13 #[.string (ba s)] w fun e w' => e = .returned (.tuple #[.string (ba a), .string (ba b), .int .i64 x]) ∧ Below w.heap.size w w' := by
 obtain ⟨s1, hs1⟩ : ∃ s1, numS ⟨s, 0⟩ = s1 := ⟨_, rfl⟩
 obtain ⟨n, hn⟩ : ∃ n, i64 (numV ⟨s, 0⟩) = n := ⟨_, rfl⟩
 obtain ⟨s2, hs2⟩ : ∃ s2, takeS n s1 = s2 := ⟨_, rfl⟩
 obtain ⟨s3, hs3⟩ : ∃ s3, takeS (s2.l.length : Int) s2 = s3 := ⟨_, rfl⟩
 have hc := cut_steps s hs s1 s2 s3 hs1 (by rw [hn]; exact hs2) hs3
 rw [h, hn] at hc
 injection hc with hA hc
 injection hc with hB hX
 have hw1 := numV_w ⟨s, 0⟩
 have hw2 := numV_w2 ⟨s, 0⟩
 obtain ⟨N, hN⟩ : ∃ N, numV ⟨s, 0⟩ = N := ⟨_, rfl⟩
 rw [hN] at hw1 hw2 hn
 rw [hn] at hw1 hw2
 have HA := Lib.hid hA
 have HB := Lib.hid hB
 have HX := Lib.hid hX
 have H1 := Lib.hid hs1
 have H2 := Lib.hid hs2
 have H3 := Lib.hid hs3
 have HN := Lib.hid hN
 clear h hA hB hX hs1 hs2 hs3 hN hn
 go_enter Tryz.func13, Tryz.ntmps13
 go_wp2_with fail
 refine (new_c s _).mono ?_
 rintro e w1 ⟨rfl, hr1, hw⟩
 obtain ⟨g, hg⟩ : ∃ g, w.heap.size = g := ⟨_, rfl⟩
 rw [hg] at hr1
 rw [hg]
 have hb1 : Below w.heap.size w w1 := by rw [hw]; exact (Below.refl _ _).alloc (Nat.le_refl _) _
 have HB1 := Lib.hid hb1
 have HG := Lib.hid hg
 clear hw hg hb1
 go_wp2_with fail
 refine (num_m g ⟨s, 0⟩ _ hr1).mono ?_
 rintro e w2 ⟨rfl, hr2, hk2⟩
 rw [H1.out] at hr2
 rw [HN.out]
 have HB2 := Lib.hid (below_only HB1.out hk2 HB1.out.size (Nat.le_of_eq HG.out))
 clear hk2 hr1
 go_wp2_with fail
 refine (take_m g n s1 _ hr2).mono ?_
 rintro e w3 ⟨rfl, hr3, hk3⟩
 rw [H2.out] at hr3
 have HB3 := Lib.hid (below_only HB2.out hk3 HB2.out.size (Nat.le_of_eq HG.out))
 clear hk3 hr2
 go_wp2_with fail
 refine (left_c g s2 _ hr3).mono ?_
 rintro e w4 ⟨rfl, hw4⟩
 subst hw4
 go_wp2_with fail
 refine (take_m g (s2.l.length : Int) s2 _ hr3).mono ?_
 rintro e w5 ⟨rfl, hr5, hk5⟩
 rw [H3.out] at hr5
 have HB5 := Lib.hid (below_only HB3.out hk5 HB3.out.size (Nat.le_of_eq HG.out))
 clear hk5 hr3
 go_wp2_with fail
 refine (err_c g s3 _ hr5).mono ?_
 rintro e w6 ⟨rfl, hw6⟩
 subst hw6
 go_wp2_with fail
 go_ret3
 rw [HA.out, HB.out, HX.out]
 exact ⟨rfl, HB5.out⟩
theorem mustI_y (v : Value) (w : World) : Calls Tryz.prog 125 #[v, .int .i64 0] w fun e w' => e = .returned v ∧ w = w' := by
 go_enter Tryz.func125, Tryz.ntmps125
 go_wp2_with fail
 go_ret
 exact ⟨rfl, rfl⟩
theorem mustI_n (v : Value) {x : Int} (hx : x ≠ 0) (w : World) : Calls Tryz.prog 125 #[v, .int .i64 x] w fun e w' => e = Pn x ∧ w = w' := by
 have hq1 : (x != 0) = true := by simpa using hx
 have hq2 : (x == 0) = false := by simpa using hx
 clear hx
 go_enter Tryz.func125, Tryz.ntmps125
 go_wp2_with fail
 exact ⟨rfl, rfl, rfl⟩
theorem mustU_y (v : Value) (w : World) : Calls Tryz.prog 127 #[v, .int .i64 0] w fun e w' => e = .returned v ∧ w = w' := by
 go_enter Tryz.func127, Tryz.ntmps127
 go_wp2_with fail
 go_ret
 exact ⟨rfl, rfl⟩
theorem mustU_n (v : Value) {x : Int} (hx : x ≠ 0) (w : World) : Calls Tryz.prog 127 #[v, .int .i64 x] w fun e w' => e = Pn x ∧ w = w' := by
 have hq1 : (x != 0) = true := by simpa using hx
 have hq2 : (x == 0) = false := by simpa using hx
 clear hx
 go_enter Tryz.func127, Tryz.ntmps127
 go_wp2_with fail
 exact ⟨rfl, rfl, rfl⟩
theorem mustS_y (v : Value) (w : World) : Calls Tryz.prog 129 #[v, .int .i64 0] w fun e w' => e = .returned v ∧ w = w' := by
 go_enter Tryz.func129, Tryz.ntmps129
 go_wp2_with fail
 go_ret
 exact ⟨rfl, rfl⟩
theorem mustS_n (v : Value) {x : Int} (hx : x ≠ 0) (w : World) : Calls Tryz.prog 129 #[v, .int .i64 x] w fun e w' => e = Pn x ∧ w = w' := by
 have hq1 : (x != 0) = true := by simpa using hx
 have hq2 : (x == 0) = false := by simpa using hx
 clear hx
 go_enter Tryz.func129, Tryz.ntmps129
 go_wp2_with fail
 exact ⟨rfl, rfl, rfl⟩
theorem mustB_y (v : Value) (w : World) : Calls Tryz.prog 140 #[v, .int .i64 0] w fun e w' => e = .returned v ∧ w = w' := by
 go_enter Tryz.func140, Tryz.ntmps140
 go_wp2_with fail
 go_ret
 exact ⟨rfl, rfl⟩
theorem mustB_n (v : Value) {x : Int} (hx : x ≠ 0) (w : World) : Calls Tryz.prog 140 #[v, .int .i64 x] w fun e w' => e = Pn x ∧ w = w' := by
 have hq1 : (x != 0) = true := by simpa using hx
 have hq2 : (x == 0) = false := by simpa using hx
 clear hx
 go_enter Tryz.func140, Tryz.ntmps140
 go_wp2_with fail
 exact ⟨rfl, rfl, rfl⟩
theorem mustF_y (v : Value) (w : World) : Calls Tryz.prog 142 #[v, .int .i64 0] w fun e w' => e = .returned v ∧ w = w' := by
 go_enter Tryz.func142, Tryz.ntmps142
 go_wp2_with fail
 go_ret
 exact ⟨rfl, rfl⟩
theorem mustF_n (v : Value) {x : Int} (hx : x ≠ 0) (w : World) : Calls Tryz.prog 142 #[v, .int .i64 x] w fun e w' => e = Pn x ∧ w = w' := by
 have hq1 : (x != 0) = true := by simpa using hx
 have hq2 : (x == 0) = false := by simpa using hx
 clear hx
 go_enter Tryz.func142, Tryz.ntmps142
 go_wp2_with fail
 exact ⟨rfl, rfl, rfl⟩
theorem mustN_y (v : Value) (w : World) : Calls Tryz.prog 175 #[v, .int .i64 0] w fun e w' => e = .returned v ∧ w = w' := by
 go_enter Tryz.func175, Tryz.ntmps175
 go_wp2_with fail
 go_ret
 exact ⟨rfl, rfl⟩
theorem mustN_n (v : Value) {x : Int} (hx : x ≠ 0) (w : World) : Calls Tryz.prog 175 #[v, .int .i64 x] w fun e w' => e = Pn x ∧ w = w' := by
 have hq1 : (x != 0) = true := by simpa using hx
 have hq2 : (x == 0) = false := by simpa using hx
 clear hx
 go_enter Tryz.func175, Tryz.ntmps175
 go_wp2_with fail
 exact ⟨rfl, rfl, rfl⟩
theorem mustT_y (v : Value) (w : World) : Calls Tryz.prog 176 #[v, .int .i64 0] w fun e w' => e = .returned v ∧ w = w' := by
 go_enter Tryz.func176, Tryz.ntmps176
 go_wp2_with fail
 go_ret
 exact ⟨rfl, rfl⟩
theorem mustT_n (v : Value) {x : Int} (hx : x ≠ 0) (w : World) : Calls Tryz.prog 176 #[v, .int .i64 x] w fun e w' => e = Pn x ∧ w = w' := by
 have hq1 : (x != 0) = true := by simpa using hx
 have hq2 : (x == 0) = false := by simpa using hx
 clear hx
 go_enter Tryz.func176, Tryz.ntmps176
 go_wp2_with fail
 exact ⟨rfl, rfl, rfl⟩
theorem tcut_y {s a b : List UInt8} (hs : s.length ≤ 1000000000) (h : cutP s = (a, b, 0)) (w : World) :
  Calls Tryz.prog 124 #[.string (ba s)] w fun e w' => e = .returned (.tuple #[.string (ba a), .string (ba b)]) ∧ Below w.heap.size w w' := by
 go_enter Tryz.func124, Tryz.ntmps124
 go_wp2_with fail
 refine (cut_v hs h _).mono ?_
 rintro e w1 ⟨rfl, hb⟩
 go_wp2_with fail
 refine (mustT_y _ _).mono ?_
 rintro e w2 ⟨rfl, hw⟩
 subst hw
 go_wp2_with fail
 go_ret2
 exact ⟨rfl, hb⟩
theorem tcut_n {s a b : List UInt8} {x : Int} (hs : s.length ≤ 1000000000) (h : cutP s = (a, b, x)) (hx : x ≠ 0) (w : World) :
  Calls Tryz.prog 124 #[.string (ba s)] w fun e w' => e = Pn x ∧ Below w.heap.size w w' := by
 go_enter Tryz.func124, Tryz.ntmps124
 go_wp2_with fail
 refine (cut_v hs h _).mono ?_
 rintro e w1 ⟨rfl, hb⟩
 go_wp2_with fail
 refine (mustT_n _ hx _).mono ?_
 rintro e w2 ⟨rfl, hw⟩
 subst hw
 go_wp2_with fail
 exact ⟨rfl, rfl, hb⟩
end Go.Proofs.YtojhenpaeedimaaGreat
end
section
namespace Go.Proofs.YtojhenpaeedimaaGreat
open Go.RowKit Go.IntWalk
open Pk Rf Fl Wd Ol Dl Ru Fg Dt Rl
set_option maxRecDepth 100000
attribute [local go_sem] Oper.semAt_some
theorem own_none {w : World} {base : Nat} {e : TypeId} {size n c : Nat} {A : Option Addr} {xs : List Value} (h : w.ownsRow base e size (.slice A n c) n xs) : A = none → c = 0 := by
 intro hA
 rcases h.2 with ⟨h2, _⟩ | ⟨g, cap, cur, h2, _⟩
 ·injection h2
 ·injection h2 with h3 _ _
  rw [hA] at h3
  cases h3
/-- a function that tells of a move one thing -/
def ColF (g : Nat) (F : Mv → Value) (w : World) (l : List Mv) : Prop := ∀ W m, Below w.heap.size w W → m ∈ l →
 Calls Tryz.prog g #[.agg #[.int .i64 (mc m), .int .i64 (mr m), .int .i64 (pa (mw m)), .int .i64 (ch (mw m)), .string (ba (nm (mw m))), .float .f64 (rk (mw m))]] W fun e w' => e = .returned (F m) ∧ Below W.heap.size W w'
theorem cells_I {l : List Mv} {k : Nat} {m : Mv} {q : Mv → Int} (h : l[k]? = some m) : ivs ((l.take (k + 1)).map q) = ivs ((l.take k).map q) ++ [.int .i64 (q m)] := by
 rw [List.take_add_one, h]; simp [ivs]
set_option maxHeartbeats 4000000 in
theorem colI_c (A : Option Addr) (cap : Nat) (l : List Mv) (g : Nat) (q : Mv → Int) (hl : l.length ≤ 100000) (eg : ∀ args w, (callFunc g args).run Tryz.prog w = .ok (.enter g args) w) (w : World)
  (hc : At w w.heap.size A (mvs l)) (hp : ColF g (fun m => .int .i64 (q m)) w l) :
  Calls Tryz.prog 32 #[.slice A l.length cap, .func (.func g) #[] #[]] w fun e w' => ∃ A' cap', e = .returned (.slice A' l.length cap') ∧ (A' = none → cap' = 0) ∧ l.length ≤ cap' ∧ Fresh w.heap.size A' ∧ At w' w'.heap.size A' (ivs (l.map q)) ∧ Below w.heap.size w w' := by
 obtain ⟨i0, hi, hz0, hz1, hz2⟩ := info_parts Tryz.info3
 have HC := Lib.hid hc
 have HP := Lib.hid hp
 have hbx : i0.bytes * l.length ≤ 281474976710656 := by rw [hz2]; omega
 have hmx : l.length ≤ maxLen := by unfold maxLen; omega
 clear hc hp
 go_enter Tryz.func32, Tryz.ntmps32
 go_wp2_with (at_make; refine wpList_make_own _ rfl _ _ 57 rfl w.heap.size 3 i0 (.int .i64 0) 1 Tryz.underlying57 hi hz0 hz1 .i64 .i64 _ l.length rfl rfl rfl hbx hmx (Nat.le_refl _) ?_; intro w1 hown1 hgrow1)
 have hb1 : Below w.heap.size w w1 := (Below.refl _ w).grown hgrow1 (Nat.le_refl _) (fun k e => by cases e)
 clear hbx hmx hgrow1
 go_loopw [5, 13] (fun v i wr => ∃ k : Nat, i = .int .i64 (k : Int) ∧ k ≤ l.length ∧ wr.ownsRow w.heap.size 3 1 v k (ivs ((l.take k).map q)) ∧ Below w.heap.size w wr) (fun _ i _ => l.length - (Go.RowKit.intOf i).toNat)
 case atStart => exact ⟨0, rfl, Nat.zero_le _, hown1, hb1⟩
 case round =>
  clear hown1 hb1
  obtain ⟨k, rfl, hk, hown, hb⟩ := hrel
  obtain ⟨Av, cv, rfl, -, -, -⟩ := own_at hown
  have HO := Lib.hid hown
  have HB := Lib.hid hb
  clear hown hb
  by_cases hlt : k < l.length
  ·obtain ⟨m, hm⟩ := some_at hlt
   have hki : (0 : Int) ≤ (k : Int) := by omega
   have hkl : (k : Int) < (l.length : Int) := by omega
   obtain ⟨b0, o0, rfl, hb0, c0, c1, c2, c3, c4, c5⟩ := move_cells (HC.out.below HB.out) hm
   have HM := Lib.hid hm
   obtain ⟨W2, hW2⟩ : ∃ W2, W2 = wr.alloc (.cells #[.int .i64 (mc m), .int .i64 (mr m), .int .i64 (pa (mw m)), .int .i64 (ch (mw m)), .string (ba (nm (mw m))), .float .f64 (rk (mw m))] 51) := ⟨_, rfl⟩
   have b2 : Below wr.heap.size wr W2 := by rw [hW2]; exact (Below.refl _ _).alloc (Nat.le_refl _) _
   have hcall := HP.out W2 m (HB.out.trans (b2.mono HB.out.size)) (mem_at hm)
   have ho2 : W2.ownsRow w.heap.size 3 1 (.slice Av k cv) k (ivs ((l.take k).map q)) := by rw [hW2]; exact HO.out.alloc _
   have HO2 := Lib.hid ho2
   have HB2 := Lib.hid (HB.out.trans (b2.mono HB.out.size))
   obtain ⟨x, hX⟩ : ∃ x, q m = x := ⟨_, rfl⟩
   simp only at hcall
   rw [hX, hW2] at hcall
   have HCA := Lib.hid hcall
   have HW := Lib.hid hW2
   have HX := Lib.hid hX
   clear hm b2 hcall ho2 hX hW2
   go_wp2_with (first
    | (go_at_fn g; refine HCA.out.mono ?_; rintro e w3 ⟨rfl, hb3⟩; rw [← HW.out] at hb3; have ho3 := below_ownI HO2.out hb3; have hb4 := HB2.out.trans (hb3.mono HB2.out.size))
    | (at_builtin; refine wpList_append_own _ rfl _ _ 57 rfl w.heap.size 3 i0 (.int .i64 0) 1 8 Tryz.underlying57 hi hz0 hz1 hz2 rfl (by decide) _ _ _ rfl (ho3.alloc _) ⟨w3.heap.size, 0, none⟩ 1 1 [.int .i64 (x)] rfl rfl (cell_one_new _ _ _) (by simp [Value.oneCell']) (by unfold maxLen; omega) (by omega) (by have := hb4.size; simp; omega) ?_; intro v' w5 hown' hgrow _))
   have hb5 : Below w.heap.size w w5 := below_own (hb4.alloc hb4.size _) (by have := hb4.size; simp; omega) (ho3.alloc _) hgrow
   rw [← HX.out, ← cells_I HM.out] at hown'
   have HO5 := Lib.hid hown'
   have HB5 := Lib.hid hb5
   clear hown' hgrow hb5 hb4 ho3 hb3
   go_wp2_with fail
   go_roundw
   case rel => exact ⟨k + 1, by go_num, by omega, HO5.out, HB5.out⟩
   case measure => simp only [Go.RowKit.intOf]; omega
  ·obtain rfl : k = l.length := by omega
   have hown := HO.out
   rw [List.take_length] at hown
   obtain ⟨A', cap', e9, ha, hfr, hcp⟩ := own_at hown
   have hno := own_none hown
   injection e9 with e1 e2 e3
   subst e1 e3
   have HA := Lib.hid ha
   have HFR := Lib.hid hfr
   clear hown ha hfr
   go_wp2_with fail
   go_ret
   exact ⟨_, _, rfl, hno, hcp, HFR.out, HA.out, HB.out⟩
theorem cells_U {l : List Mv} {k : Nat} {m : Mv} {q : Mv → Nat} (h : l[k]? = some m) : uvs ((l.take (k + 1)).map q) = uvs ((l.take k).map q) ++ [.int .u64 ((q m : Nat) : Int)] := by
 rw [List.take_add_one, h]; simp [uvs]
set_option maxHeartbeats 4000000 in
theorem colU_c (A : Option Addr) (cap : Nat) (l : List Mv) (g : Nat) (q : Mv → Nat) (hl : l.length ≤ 100000) (eg : ∀ args w, (callFunc g args).run Tryz.prog w = .ok (.enter g args) w) (w : World)
  (hc : At w w.heap.size A (mvs l)) (hp : ColF g (fun m => .int .u64 ((q m : Nat) : Int)) w l) :
  Calls Tryz.prog 34 #[.slice A l.length cap, .func (.func g) #[] #[]] w fun e w' => ∃ A' cap', e = .returned (.slice A' l.length cap') ∧ (A' = none → cap' = 0) ∧ l.length ≤ cap' ∧ Fresh w.heap.size A' ∧ At w' w'.heap.size A' (uvs (l.map q)) ∧ Below w.heap.size w w' := by
 obtain ⟨i0, hi, hz0, hz1, hz2⟩ := info_parts Tryz.info62
 have HC := Lib.hid hc
 have HP := Lib.hid hp
 have hbx : i0.bytes * l.length ≤ 281474976710656 := by rw [hz2]; omega
 have hmx : l.length ≤ maxLen := by unfold maxLen; omega
 clear hc hp
 go_enter Tryz.func34, Tryz.ntmps34
 go_wp2_with (at_make; refine wpList_make_own _ rfl _ _ 60 rfl w.heap.size 62 i0 (.int .u64 0) 1 Tryz.underlying60 hi hz0 hz1 .i64 .i64 _ l.length rfl rfl rfl hbx hmx (Nat.le_refl _) ?_; intro w1 hown1 hgrow1)
 have hb1 : Below w.heap.size w w1 := (Below.refl _ w).grown hgrow1 (Nat.le_refl _) (fun k e => by cases e)
 clear hbx hmx hgrow1
 go_loopw [5, 13] (fun v i wr => ∃ k : Nat, i = .int .i64 (k : Int) ∧ k ≤ l.length ∧ wr.ownsRow w.heap.size 62 1 v k (uvs ((l.take k).map q)) ∧ Below w.heap.size w wr) (fun _ i _ => l.length - (Go.RowKit.intOf i).toNat)
 case atStart => exact ⟨0, rfl, Nat.zero_le _, hown1, hb1⟩
 case round =>
  clear hown1 hb1
  obtain ⟨k, rfl, hk, hown, hb⟩ := hrel
  obtain ⟨Av, cv, rfl, -, -, -⟩ := own_at hown
  have HO := Lib.hid hown
  have HB := Lib.hid hb
  clear hown hb
  by_cases hlt : k < l.length
  ·obtain ⟨m, hm⟩ := some_at hlt
   have hki : (0 : Int) ≤ (k : Int) := by omega
   have hkl : (k : Int) < (l.length : Int) := by omega
   obtain ⟨b0, o0, rfl, hb0, c0, c1, c2, c3, c4, c5⟩ := move_cells (HC.out.below HB.out) hm
   have HM := Lib.hid hm
   obtain ⟨W2, hW2⟩ : ∃ W2, W2 = wr.alloc (.cells #[.int .i64 (mc m), .int .i64 (mr m), .int .i64 (pa (mw m)), .int .i64 (ch (mw m)), .string (ba (nm (mw m))), .float .f64 (rk (mw m))] 51) := ⟨_, rfl⟩
   have b2 : Below wr.heap.size wr W2 := by rw [hW2]; exact (Below.refl _ _).alloc (Nat.le_refl _) _
   have hcall := HP.out W2 m (HB.out.trans (b2.mono HB.out.size)) (mem_at hm)
   have ho2 : W2.ownsRow w.heap.size 62 1 (.slice Av k cv) k (uvs ((l.take k).map q)) := by rw [hW2]; exact HO.out.alloc _
   have HO2 := Lib.hid ho2
   have HB2 := Lib.hid (HB.out.trans (b2.mono HB.out.size))
   obtain ⟨x, hX⟩ : ∃ x, q m = x := ⟨_, rfl⟩
   simp only at hcall
   rw [hX, hW2] at hcall
   have HCA := Lib.hid hcall
   have HW := Lib.hid hW2
   have HX := Lib.hid hX
   clear hm b2 hcall ho2 hX hW2
   go_wp2_with (first
    | (go_at_fn g; refine HCA.out.mono ?_; rintro e w3 ⟨rfl, hb3⟩; rw [← HW.out] at hb3; have ho3 := below_ownI HO2.out hb3; have hb4 := HB2.out.trans (hb3.mono HB2.out.size))
    | (at_builtin; refine wpList_append_own _ rfl _ _ 60 rfl w.heap.size 62 i0 (.int .u64 0) 1 8 Tryz.underlying60 hi hz0 hz1 hz2 rfl (by decide) _ _ _ rfl (ho3.alloc _) ⟨w3.heap.size, 0, none⟩ 1 1 [.int .u64 ((x : Nat) : Int)] rfl rfl (cell_one_new _ _ _) (by simp [Value.oneCell']) (by unfold maxLen; omega) (by omega) (by have := hb4.size; simp; omega) ?_; intro v' w5 hown' hgrow _))
   have hb5 : Below w.heap.size w w5 := below_own (hb4.alloc hb4.size _) (by have := hb4.size; simp; omega) (ho3.alloc _) hgrow
   rw [← HX.out, ← cells_U HM.out] at hown'
   have HO5 := Lib.hid hown'
   have HB5 := Lib.hid hb5
   clear hown' hgrow hb5 hb4 ho3 hb3
   go_wp2_with fail
   go_roundw
   case rel => exact ⟨k + 1, by go_num, by omega, HO5.out, HB5.out⟩
   case measure => simp only [Go.RowKit.intOf]; omega
  ·obtain rfl : k = l.length := by omega
   have hown := HO.out
   rw [List.take_length] at hown
   obtain ⟨A', cap', e9, ha, hfr, hcp⟩ := own_at hown
   have hno := own_none hown
   injection e9 with e1 e2 e3
   subst e1 e3
   have HA := Lib.hid ha
   have HFR := Lib.hid hfr
   clear hown ha hfr
   go_wp2_with fail
   go_ret
   exact ⟨_, _, rfl, hno, hcp, HFR.out, HA.out, HB.out⟩
theorem cells_S {l : List Mv} {k : Nat} {m : Mv} {q : Mv → List UInt8} (h : l[k]? = some m) : svs ((l.take (k + 1)).map q) = svs ((l.take k).map q) ++ [.string (ba (q m))] := by
 rw [List.take_add_one, h]; simp [svs]; rfl
set_option maxHeartbeats 4000000 in
theorem colS_c (A : Option Addr) (cap : Nat) (l : List Mv) (g : Nat) (q : Mv → List UInt8) (hl : l.length ≤ 100000) (eg : ∀ args w, (callFunc g args).run Tryz.prog w = .ok (.enter g args) w) (w : World)
  (hc : At w w.heap.size A (mvs l)) (hp : ColF g (fun m => .string (ba (q m))) w l) :
  Calls Tryz.prog 38 #[.slice A l.length cap, .func (.func g) #[] #[]] w fun e w' => ∃ A' cap', e = .returned (.slice A' l.length cap') ∧ (A' = none → cap' = 0) ∧ l.length ≤ cap' ∧ Fresh w.heap.size A' ∧ At w' w'.heap.size A' (svs (l.map q)) ∧ Below w.heap.size w w' := by
 obtain ⟨i0, hi, hz0, hz1, hz2⟩ := info_parts Tryz.info9
 have HC := Lib.hid hc
 have HP := Lib.hid hp
 have hbx : i0.bytes * l.length ≤ 281474976710656 := by rw [hz2]; omega
 have hmx : l.length ≤ maxLen := by unfold maxLen; omega
 clear hc hp
 go_enter Tryz.func38, Tryz.ntmps38
 go_wp2_with (at_make; refine wpList_make_own _ rfl _ _ 64 rfl w.heap.size 9 i0 (.string ByteArray.empty) 1 Tryz.underlying64 hi hz0 hz1 .i64 .i64 _ l.length rfl rfl rfl hbx hmx (Nat.le_refl _) ?_; intro w1 hown1 hgrow1)
 have hb1 : Below w.heap.size w w1 := (Below.refl _ w).grown hgrow1 (Nat.le_refl _) (fun k e => by cases e)
 clear hbx hmx hgrow1
 go_loopw [5, 13] (fun v i wr => ∃ k : Nat, i = .int .i64 (k : Int) ∧ k ≤ l.length ∧ wr.ownsRow w.heap.size 9 1 v k (svs ((l.take k).map q)) ∧ Below w.heap.size w wr) (fun _ i _ => l.length - (Go.RowKit.intOf i).toNat)
 case atStart => exact ⟨0, rfl, Nat.zero_le _, hown1, hb1⟩
 case round =>
  clear hown1 hb1
  obtain ⟨k, rfl, hk, hown, hb⟩ := hrel
  obtain ⟨Av, cv, rfl, -, -, -⟩ := own_at hown
  have HO := Lib.hid hown
  have HB := Lib.hid hb
  clear hown hb
  by_cases hlt : k < l.length
  ·obtain ⟨m, hm⟩ := some_at hlt
   have hki : (0 : Int) ≤ (k : Int) := by omega
   have hkl : (k : Int) < (l.length : Int) := by omega
   obtain ⟨b0, o0, rfl, hb0, c0, c1, c2, c3, c4, c5⟩ := move_cells (HC.out.below HB.out) hm
   have HM := Lib.hid hm
   obtain ⟨W2, hW2⟩ : ∃ W2, W2 = wr.alloc (.cells #[.int .i64 (mc m), .int .i64 (mr m), .int .i64 (pa (mw m)), .int .i64 (ch (mw m)), .string (ba (nm (mw m))), .float .f64 (rk (mw m))] 51) := ⟨_, rfl⟩
   have b2 : Below wr.heap.size wr W2 := by rw [hW2]; exact (Below.refl _ _).alloc (Nat.le_refl _) _
   have hcall := HP.out W2 m (HB.out.trans (b2.mono HB.out.size)) (mem_at hm)
   have ho2 : W2.ownsRow w.heap.size 9 1 (.slice Av k cv) k (svs ((l.take k).map q)) := by rw [hW2]; exact HO.out.alloc _
   have HO2 := Lib.hid ho2
   have HB2 := Lib.hid (HB.out.trans (b2.mono HB.out.size))
   obtain ⟨x, hX⟩ : ∃ x, q m = x := ⟨_, rfl⟩
   simp only at hcall
   rw [hX, hW2] at hcall
   have HCA := Lib.hid hcall
   have HW := Lib.hid hW2
   have HX := Lib.hid hX
   clear hm b2 hcall ho2 hX hW2
   go_wp2_with (first
    | (go_at_fn g; refine HCA.out.mono ?_; rintro e w3 ⟨rfl, hb3⟩; rw [← HW.out] at hb3; have ho3 := below_ownI HO2.out hb3; have hb4 := HB2.out.trans (hb3.mono HB2.out.size))
    | (at_builtin; refine wpList_append_own _ rfl _ _ 64 rfl w.heap.size 9 i0 (.string ByteArray.empty) 1 16 Tryz.underlying64 hi hz0 hz1 hz2 rfl (by decide) _ _ _ rfl (ho3.alloc _) ⟨w3.heap.size, 0, none⟩ 1 1 [.string (ba (x))] rfl rfl (cell_one_new _ _ _) (by simp [Value.oneCell']) (by unfold maxLen; omega) (by omega) (by have := hb4.size; simp; omega) ?_; intro v' w5 hown' hgrow _))
   have hb5 : Below w.heap.size w w5 := below_own (hb4.alloc hb4.size _) (by have := hb4.size; simp; omega) (ho3.alloc _) hgrow
   rw [← HX.out, ← cells_S HM.out] at hown'
   have HO5 := Lib.hid hown'
   have HB5 := Lib.hid hb5
   clear hown' hgrow hb5 hb4 ho3 hb3
   go_wp2_with fail
   go_roundw
   case rel => exact ⟨k + 1, by go_num, by omega, HO5.out, HB5.out⟩
   case measure => simp only [Go.RowKit.intOf]; omega
  ·obtain rfl : k = l.length := by omega
   have hown := HO.out
   rw [List.take_length] at hown
   obtain ⟨A', cap', e9, ha, hfr, hcp⟩ := own_at hown
   have hno := own_none hown
   injection e9 with e1 e2 e3
   subst e1 e3
   have HA := Lib.hid ha
   have HFR := Lib.hid hfr
   clear hown ha hfr
   go_wp2_with fail
   go_ret
   exact ⟨_, _, rfl, hno, hcp, HFR.out, HA.out, HB.out⟩
theorem cells_F {l : List Mv} {k : Nat} {m : Mv} {q : Mv → Nat} (h : l[k]? = some m) : fvs ((l.take (k + 1)).map q) = fvs ((l.take k).map q) ++ [.float .f64 (q m)] := by
 rw [List.take_add_one, h]; simp [fvs]
set_option maxHeartbeats 4000000 in
theorem colF_c (A : Option Addr) (cap : Nat) (l : List Mv) (g : Nat) (q : Mv → Nat) (hl : l.length ≤ 100000) (eg : ∀ args w, (callFunc g args).run Tryz.prog w = .ok (.enter g args) w) (w : World)
  (hc : At w w.heap.size A (mvs l)) (hp : ColF g (fun m => .float .f64 (q m)) w l) :
  Calls Tryz.prog 40 #[.slice A l.length cap, .func (.func g) #[] #[]] w fun e w' => ∃ A' cap', e = .returned (.slice A' l.length cap') ∧ (A' = none → cap' = 0) ∧ l.length ≤ cap' ∧ Fresh w.heap.size A' ∧ At w' w'.heap.size A' (fvs (l.map q)) ∧ Below w.heap.size w w' := by
 obtain ⟨i0, hi, hz0, hz1, hz2⟩ := info_parts Tryz.info49
 have HC := Lib.hid hc
 have HP := Lib.hid hp
 have hbx : i0.bytes * l.length ≤ 281474976710656 := by rw [hz2]; omega
 have hmx : l.length ≤ maxLen := by unfold maxLen; omega
 clear hc hp
 go_enter Tryz.func40, Tryz.ntmps40
 go_wp2_with (at_make; refine wpList_make_own _ rfl _ _ 23 rfl w.heap.size 49 i0 (.float .f64 0) 1 Tryz.underlying23 hi hz0 hz1 .i64 .i64 _ l.length rfl rfl rfl hbx hmx (Nat.le_refl _) ?_; intro w1 hown1 hgrow1)
 have hb1 : Below w.heap.size w w1 := (Below.refl _ w).grown hgrow1 (Nat.le_refl _) (fun k e => by cases e)
 clear hbx hmx hgrow1
 go_loopw [5, 13] (fun v i wr => ∃ k : Nat, i = .int .i64 (k : Int) ∧ k ≤ l.length ∧ wr.ownsRow w.heap.size 49 1 v k (fvs ((l.take k).map q)) ∧ Below w.heap.size w wr) (fun _ i _ => l.length - (Go.RowKit.intOf i).toNat)
 case atStart => exact ⟨0, rfl, Nat.zero_le _, hown1, hb1⟩
 case round =>
  clear hown1 hb1
  obtain ⟨k, rfl, hk, hown, hb⟩ := hrel
  obtain ⟨Av, cv, rfl, -, -, -⟩ := own_at hown
  have HO := Lib.hid hown
  have HB := Lib.hid hb
  clear hown hb
  by_cases hlt : k < l.length
  ·obtain ⟨m, hm⟩ := some_at hlt
   have hki : (0 : Int) ≤ (k : Int) := by omega
   have hkl : (k : Int) < (l.length : Int) := by omega
   obtain ⟨b0, o0, rfl, hb0, c0, c1, c2, c3, c4, c5⟩ := move_cells (HC.out.below HB.out) hm
   have HM := Lib.hid hm
   obtain ⟨W2, hW2⟩ : ∃ W2, W2 = wr.alloc (.cells #[.int .i64 (mc m), .int .i64 (mr m), .int .i64 (pa (mw m)), .int .i64 (ch (mw m)), .string (ba (nm (mw m))), .float .f64 (rk (mw m))] 51) := ⟨_, rfl⟩
   have b2 : Below wr.heap.size wr W2 := by rw [hW2]; exact (Below.refl _ _).alloc (Nat.le_refl _) _
   have hcall := HP.out W2 m (HB.out.trans (b2.mono HB.out.size)) (mem_at hm)
   have ho2 : W2.ownsRow w.heap.size 49 1 (.slice Av k cv) k (fvs ((l.take k).map q)) := by rw [hW2]; exact HO.out.alloc _
   have HO2 := Lib.hid ho2
   have HB2 := Lib.hid (HB.out.trans (b2.mono HB.out.size))
   obtain ⟨x, hX⟩ : ∃ x, q m = x := ⟨_, rfl⟩
   simp only at hcall
   rw [hX, hW2] at hcall
   have HCA := Lib.hid hcall
   have HW := Lib.hid hW2
   have HX := Lib.hid hX
   clear hm b2 hcall ho2 hX hW2
   go_wp2_with (first
    | (go_at_fn g; refine HCA.out.mono ?_; rintro e w3 ⟨rfl, hb3⟩; rw [← HW.out] at hb3; have ho3 := below_ownI HO2.out hb3; have hb4 := HB2.out.trans (hb3.mono HB2.out.size))
    | (at_builtin; refine wpList_append_own _ rfl _ _ 23 rfl w.heap.size 49 i0 (.float .f64 0) 1 8 Tryz.underlying23 hi hz0 hz1 hz2 rfl (by decide) _ _ _ rfl (ho3.alloc _) ⟨w3.heap.size, 0, none⟩ 1 1 [.float .f64 (x)] rfl rfl (cell_one_new _ _ _) (by simp [Value.oneCell']) (by unfold maxLen; omega) (by omega) (by have := hb4.size; simp; omega) ?_; intro v' w5 hown' hgrow _))
   have hb5 : Below w.heap.size w w5 := below_own (hb4.alloc hb4.size _) (by have := hb4.size; simp; omega) (ho3.alloc _) hgrow
   rw [← HX.out, ← cells_F HM.out] at hown'
   have HO5 := Lib.hid hown'
   have HB5 := Lib.hid hb5
   clear hown' hgrow hb5 hb4 ho3 hb3
   go_wp2_with fail
   go_roundw
   case rel => exact ⟨k + 1, by go_num, by omega, HO5.out, HB5.out⟩
   case measure => simp only [Go.RowKit.intOf]; omega
  ·obtain rfl : k = l.length := by omega
   have hown := HO.out
   rw [List.take_length] at hown
   obtain ⟨A', cap', e9, ha, hfr, hcp⟩ := own_at hown
   have hno := own_none hown
   injection e9 with e1 e2 e3
   subst e1 e3
   have HA := Lib.hid ha
   have HFR := Lib.hid hfr
   clear hown ha hfr
   go_wp2_with fail
   go_ret
   exact ⟨_, _, rfl, hno, hcp, HFR.out, HA.out, HB.out⟩
end Go.Proofs.YtojhenpaeedimaaGreat
end
