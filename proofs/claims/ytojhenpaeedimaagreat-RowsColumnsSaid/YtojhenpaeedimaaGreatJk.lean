/-
 Plain mathematics of layer 8: what is decoded.
 Decode of texts, the program's.
 Decode of texts, the program's and the document's.
 Decode of texts, the document's.
 Few texts, none of them long; the contracts of dict at written lengths; what the live answers are.
-/
import Derived.Test.YtojhenpaeedimaaGreatQg
import Derived.Test.YtojhenpaeedimaaGreatDg
import Derived.Test.YtojhenpaeedimaaGreatJf
import Derived.Test.YtojhenpaeedimaaGreatEe
import Derived.Deep.QuietTactic
import Derived.BigQuiet
import Derived.Test.YtojhenpaeedimaaGreatEd
section
namespace Go.Proofs.YtojhenpaeedimaaGreat
open Dl Ru
namespace Dt
open Pk Dc Wd
set_option maxRecDepth 100000
/-- as many texts behind their lengths, from a place on, behind out -/
def tks (l : List UInt8) (most : Int) : Nat → Int → List Tx → List Tx × Int × Int
 | 0, to, out => (out, to, 0)
 | c + 1, to, out => if (tk l to most).2.2 ≠ 0 then ([], 0, (tk l to most).2.2) else tks l most c (tk l to most).2.1 (out ++ [(tk l to most).1])
/-- the words that bytes begin with -/
def tkW (l : List UInt8) (n : Nat) (most : Int) : List Tx × Int × Int :=
 if (numS ⟨l, 0⟩).e ≠ 0 then ([], 0, (numS ⟨l, 0⟩).e) else if n < numV ⟨l, 0⟩ then ([], 0, 10) else tks l most (numV ⟨l, 0⟩) ((l.length - (numS ⟨l, 0⟩).l.length : Nat) : Int) []
/-- .. and the list, behind these -/
def decT (l : List UInt8) (n : Nat) (r : List Tx × Int × Int) : List Tx × Int :=
 if r.2.2 ≠ 0 then ([], r.2.2)
 else if (decU (l.drop r.2.1.toNat) n).2 ≠ 0 then ([], (decU (l.drop r.2.1.toNat) n).2)
 else if mayW r.1 (decU (l.drop r.2.1.toNat) n).1 = true then ((pk r.1 [] (decU (l.drop r.2.1.toNat) n).1).1, 0) else ([], 5)
/-- P8.3 -/
def decD (l : List UInt8) (n most : Int) : List Tx × Int := if n < 0 then ([], 1) else if 4096 < n then ([], 10) else decT l n.toNat (tkW l n.toNat most)
theorem decD_neg {l : List UInt8} {n most : Int} (h : n < 0) : decD l n most = ([], 1) := by rw [decD, if_pos h]
theorem decD_big {l : List UInt8} {n most : Int} (h : 4096 < n) : decD l n most = ([], 10) := by rw [decD, if_neg (by omega), if_pos h]
theorem decD_in {l : List UInt8} {n : Nat} {most : Int} (h : n ≤ 4096) : decD l n most = decT l n (tkW l n most) := by rw [decD, if_neg (by omega), if_neg (by omega), Int.toNat_natCast]
/-- the two ends of Take -/
theorem tk_two (l : List UInt8) (k : Nat) (most : Int) (hk : k ≤ l.length) : (∃ e, e ≠ 0 ∧ tk l (k : Int) most = ([], 0, e)) ∨ (∃ (t : Tx) (u : Nat), tk l (k : Int) most = (t, (u : Int), 0) ∧ u ≤ l.length ∧ k < u ∧ l.drop k = (put t.length ++ t) ++ l.drop u ∧ valid t = true ∧ (t.length : Int) ≤ most) := by
 cases hr : rd (l.drop k) with
 | cut => exact .inl ⟨2, by decide, by have := tk_err (most := most) hk rfl (by rw [(num_cut rfl hr).2]; exact (show (2 : Int) ≠ 0 by decide)); rw [(num_cut rfl (s := ⟨l.drop k, 0⟩) hr).2] at this; exact this⟩
 | long => exact .inl ⟨3, by decide, by have := tk_err (most := most) hk rfl (by rw [(num_long rfl hr).2]; exact (show (3 : Int) ≠ 0 by decide)); rw [(num_long rfl (s := ⟨l.drop k, 0⟩) hr).2] at this; exact this⟩
 | ok n u =>
  obtain ⟨i1, i2, i3, i4, i5, i6⟩ := rd_inv hr
  obtain ⟨hv, hs⟩ := num_ok (s := ⟨l.drop k, 0⟩) rfl hr
  have hs' : (⟨(l.drop k).drop u, 0⟩ : St) = numS ⟨l.drop k, 0⟩ := hs.symm
  by_cases hb : most < 0 ∨ most < (n : Int)
  ·exact .inl ⟨10, by decide, tk_big hk hs' hv.symm rfl hb⟩
  ·by_cases hc : ((l.drop k).drop u).length < n
   ·exact .inl ⟨2, by decide, tk_cut hk hs' hv.symm rfl hb hc⟩
   ·cases ht : valid (((l.drop k).drop u).take n)
    ·exact .inl ⟨4, by decide, tk_text hk hs' hv.symm rfl hb hc ht⟩
    ·rw [List.length_drop, List.length_drop] at hc
     rw [List.length_drop] at i3
     have hn : (((l.drop k).drop u).take n).length = n := by rw [List.length_take, List.length_drop, List.length_drop]; omega
     refine .inr ⟨((l.drop k).drop u).take n, k + u + n, ?_, by omega, by omega, ?_, ht, by rw [hn]; omega⟩
     ·have := tk_ok (most := most) hk hs' hv.symm rfl hb (by rw [List.length_drop, List.length_drop]; omega) ht
      refine this.trans ?_
      simp only [List.length_drop]
      congr 2
      omega
     ·rw [hn, ← i1, ← List.drop_drop, ← List.drop_drop, List.append_assoc, List.take_append_drop, List.take_append_drop]
theorem tk_here {l : List UInt8} {k : Nat} {t : Tx} {R : List UInt8} {most : Int} (hk : k ≤ l.length) (hd : l.drop k = (put t.length ++ t) ++ R) (ht : t.length < 18446744073709551616) :
  tk l (k : Int) most = if (t.length : Int) ≤ most then (if valid t = true then (t, ((l.length - R.length : Nat) : Int), 0) else ([], 0, 4)) else ([], 0, 10) := by
 rw [List.append_assoc] at hd
 obtain ⟨n1, n2⟩ := num_put ht (t ++ R)
 rw [← hd] at n1 n2
 have htk : (t ++ R).take t.length = t := List.take_left
 have hdr : (t ++ R).drop t.length = R := List.drop_left
 have hR : R.length ≤ l.length := by
  have := congrArg List.length hd
  rw [List.length_drop, List.length_append, List.length_append] at this
  omega
 by_cases hm : (t.length : Int) ≤ most
 ·rw [if_pos hm]
  by_cases hv : valid t = true
  ·rw [if_pos hv]
   have := tk_ok (most := most) hk n2.symm n1.symm rfl (by omega) (by simp) (by rw [htk]; exact hv)
   rw [this, htk, hdr]
   congr 2
   omega
  ·rw [if_neg hv]
   exact tk_text (most := most) hk n2.symm n1.symm rfl (by omega) (by simp) (by rw [htk]; simpa using hv)
 ·rw [if_neg hm]
  exact tk_big (most := most) hk n2.symm n1.symm rfl (by omega)
def Good (most : Int) (t : Tx) : Prop := valid t = true ∧ (t.length : Int) ≤ most
/-- texts that are put, one behind the other, are taken -/
theorem tks_enc {l : List UInt8} {most : Int} (W : List Tx) : ∀ (k : Nat) (out : List Tx) (R : List UInt8), k ≤ l.length → l.drop k = enc4 W ++ R → (∀ t ∈ W, t.length < 18446744073709551616) → (∀ t ∈ W, Good most t) → tks l most W.length (k : Int) out = (out ++ W, ((l.length - R.length : Nat) : Int), 0) := by
 induction W with
 | nil =>
  intro k out R hk hd _ _
  have := congrArg List.length hd
  simp [enc4] at this
  rw [List.length_nil, tks, List.append_nil, show k = l.length - R.length by omega]
 | cons t W ih =>
  intro k out R hk hd hl hg
  rw [enc4, List.append_assoc] at hd
  have h1 := tk_here (most := most) hk hd (hl t (by simp))
  obtain ⟨g1, g2⟩ := hg t (by simp)
  rw [if_pos g2, if_pos g1] at h1
  rw [List.length_cons, tks, h1, if_neg (by simp)]
  have hlen : l.length - k = (put t.length ++ t).length + (enc4 W ++ R).length := by rw [← List.length_drop, hd, List.length_append]
  have hd2 : l.drop (l.length - (enc4 W ++ R).length) = enc4 W ++ R := by
   have e : l.length - (enc4 W ++ R).length = k + (put t.length ++ t).length := by omega
   rw [e, ← List.drop_drop, hd, List.drop_left]
  rw [ih _ _ R (by omega) hd2 (fun x hx => hl x (by simp [hx])) (fun x hx => hg x (by simp [hx]))]
  simp
/-- what is taken was put -/
theorem tks_dec {l : List UInt8} {most : Int} : ∀ (c k : Nat) (out W : List Tx) (to : Int), k ≤ l.length → tks l most c (k : Int) out = (W, to, 0) →
  ∃ (V : List Tx) (u : Nat), W = out ++ V ∧ V.length = c ∧ to = (u : Int) ∧ u ≤ l.length ∧ l.drop k = enc4 V ++ l.drop u ∧ ∀ t ∈ V, Good most t
 | 0, k, out, W, to, hk, h => by
  rw [tks] at h
  simp only [Prod.mk.injEq, and_true] at h
  exact ⟨[], k, by simp [h.1], rfl, h.2.symm, hk, by simp [enc4], by simp⟩
 | c + 1, k, out, W, to, hk, h => by
  rw [tks] at h
  rcases tk_two l k most hk with ⟨e, he, h1⟩ | ⟨t, u, h1, hu, hku, hd, hv, hm⟩
  ·rw [h1, if_pos he] at h
   simp only [Prod.mk.injEq] at h
   exact absurd h.2.2 he
  ·rw [h1, if_neg (by simp)] at h
   dsimp only at h
   obtain ⟨V, u2, a, b, c', d, e, f⟩ := tks_dec c u _ W to hu h
   refine ⟨t :: V, u2, by rw [a]; simp, by simp [b], c', d, ?_, ?_⟩
   ·rw [hd, e, enc4]; simp only [List.append_assoc]
   ·intro x hx
    rcases List.mem_cons.1 hx with rfl | hx
    ·exact ⟨hv, hm⟩
    ·exact f x hx
section
variable {l : List Tx} {most : Int}
theorem encD_head (hl : l.length ≤ 4096) : numV ⟨encD l, 0⟩ = (ws [] l).length ∧ numS ⟨encD l, 0⟩ = ⟨enc4 (ws [] l) ++ encU (pl [] l), 0⟩ := by
 have := ws_len l []
 exact num_put (by simp at this; omega) _
theorem tkW_enc (hl : l.length ≤ 4096) : tkW (encD l) l.length most = tks (encD l) most (ws [] l).length (((put (ws [] l).length).length : Nat) : Int) [] := by
 obtain ⟨h1, h2⟩ := encD_head hl
 have h3 := ws_len l []
 simp at h3
 have e : (encD l).length - (enc4 (ws [] l) ++ encU (pl [] l)).length = (put (ws [] l).length).length := by unfold encD; rw [List.length_append]; omega
 rw [tkW, h1, h2, if_neg (by simp), if_neg (by omega)]
 dsimp only
 rw [e]
theorem encD_drop : (encD l).drop (put (ws [] l).length).length = enc4 (ws [] l) ++ encU (pl [] l) ∧ (put (ws [] l).length).length ≤ (encD l).length := by
 unfold encD
 exact ⟨List.drop_left, by rw [List.length_append]; omega⟩
/-- what is encoded is decoded -/
theorem decD_enc (hl : l.length ≤ 4096) (hs : ∀ t ∈ l, t.length < 18446744073709551616) (hg : ∀ t ∈ l, Good most t) : decD (encD l) l.length most = (l, 0) := by
 obtain ⟨e1, e2⟩ := encD_drop (l := l)
 have hin : ∀ t ∈ ws [] l, t ∈ l := fun t ht => by rcases (mem_ws l [] t).1 ht with h | h; simp at h; exact h
 have hk := tks_enc (l := encD l) (most := most) (ws [] l) _ [] _ e2 e1 (fun t ht => hs t (hin t ht)) (fun t ht => hg t (hin t ht))
 rw [decD_in hl, tkW_enc hl, hk, decT, if_neg (by simp)]
 have hR : (encU (pl [] l)).length ≤ (encD l).length := by unfold encD; rw [List.length_append, List.length_append]; omega
 have hd : (encD l).drop ((encD l).length - (encU (pl [] l)).length) = encU (pl [] l) := by
  have e : (encD l).length - (encU (pl [] l)).length = (put (ws [] l).length ++ enc4 (ws [] l)).length := by
   unfold encD; rw [List.length_append, List.length_append, List.length_append]; omega
  rw [e]
  unfold encD
  rw [← List.append_assoc, List.drop_left]
 have hdu := decU_enc (pl_nums (l := l) (by omega)) (by rw [pl_len]; exact hl)
 rw [pl_len] at hdu
 simp only [Int.toNat_natCast]
 rw [hd, hdu, if_neg (by simp), List.nil_append, if_pos (mayW_self l), pk_ws]
end
/-- what is decoded was encoded -/
theorem decD_dec {l : List UInt8} {n most : Int} (h : (decD l n most).2 = 0) : encD (decD l n most).1 = l ∧ ((decD l n most).1.length : Int) = n ∧ n ≤ 4096 ∧ ∀ t ∈ (decD l n most).1, Good most t := by
 rcases Int.lt_or_le n 0 with h0 | h0
 ·rw [decD_neg h0] at h; simp at h
 ·rcases Int.lt_or_le 4096 n with h1 | h1
  ·rw [decD_big h1] at h; simp at h
  ·obtain ⟨N, rfl⟩ := Int.eq_ofNat_of_zero_le h0
   rw [decD_in (by omega)] at h ⊢
   unfold decT at h ⊢
   by_cases c1 : (tkW l N most).2.2 ≠ 0
   ·rw [if_pos c1] at h; exact absurd h c1
   ·rw [if_neg c1] at h ⊢
    have c1' : (tkW l N most).2.2 = 0 := by simpa using c1
    obtain ⟨W, to, hW⟩ : ∃ W to, tkW l N most = (W, to, 0) := ⟨(tkW l N most).1, (tkW l N most).2.1, by rw [← c1']⟩
    rw [hW] at h ⊢
    dsimp only at h ⊢
    unfold tkW at hW
    by_cases d1 : (numS ⟨l, 0⟩).e ≠ 0
    ·rw [if_pos d1] at hW; simp only [Prod.mk.injEq] at hW; exact absurd hW.2.2 d1
    ·rw [if_neg d1] at hW
     by_cases d2 : N < numV ⟨l, 0⟩
     ·rw [if_pos d2] at hW; simp at hW
     ·rw [if_neg d2] at hW
      obtain ⟨a1, a2⟩ := num_zero (l := l) (by simpa using d1)
      obtain ⟨V, u, b1, b2, b3, b4, b5, b6⟩ := tks_dec _ _ _ _ _ (by omega) hW
      rw [List.nil_append] at b1
      subst b1
      subst b3
      rw [Int.toNat_natCast] at h ⊢
      by_cases c2 : (decU (l.drop u) N).2 ≠ 0
      ·rw [if_pos c2] at h; exact absurd h c2
      ·rw [if_neg c2] at h ⊢
       obtain ⟨f1, f2⟩ := decU_dec (s := l.drop u) (n := (N : Int)) (by simpa using c2)
       by_cases c3 : mayW W (decU (l.drop u) N).1 = true
       ·rw [if_pos c3]
        obtain ⟨o, g1, g2, g3⟩ := (may_iff _ _).1 c3
        rw [g1]
        have hlen : o.length = N := by have := pl_len o []; rw [g3] at this; omega
        refine ⟨?_, by rw [hlen], by omega, fun t ht => b6 t (by rw [← g2]; exact (mem_ws o [] t).2 (.inr ht))⟩
        unfold encD
        rw [g2, g3, f1, ← b5, b2]
        have hk0 : ∀ (v : Nat) (r : List UInt8), l = put v ++ r → l.drop (l.length - r.length) = r := by
         rintro v r rfl
         rw [show (put v ++ r).length - r.length = (put v).length by rw [List.length_append]; omega]
         exact List.drop_left
        have hk := hk0 _ _ a1
        rw [hk]
        exact a1.symm
       ·rw [if_neg c3] at h; simp at h
end Dt
end Go.Proofs.YtojhenpaeedimaaGreat
end
section
namespace Go.Proofs.YtojhenpaeedimaaGreat
open Dl Ru
namespace Dt
open Go.RowKit Go.IntWalk
open Pk Dc Wd
set_option maxRecDepth 100000
attribute [local go_sem] Oper.semAt_some
theorem enc4_mem {V : List Tx} {t : Tx} (h : t ∈ V) : t.length ≤ (enc4 V).length := by
 induction V with
 | nil => simp at h
 | cons x V ih =>
  rw [enc4, List.length_append, List.length_append]
  rcases List.mem_cons.1 h with rfl | h
  ·omega
  ·have := ih h; omega
/-- what is taken: no more than there is -/
theorem tkW_ok {l : List UInt8} {n : Nat} {most to : Int} {W : List Tx} (h : tkW l n most = (W, to, 0)) : W.length ≤ n ∧ (∀ t ∈ W, t.length ≤ l.length) ∧ ∃ u : Nat, to = (u : Int) ∧ u ≤ l.length := by
 unfold tkW at h
 split at h
 ·rename_i d; simp only [Prod.mk.injEq] at h; exact absurd h.2.2 d
 ·split at h
  ·simp at h
  ·rename_i d1 d2
   obtain ⟨V, u, b1, b2, b3, b4, b5, _⟩ := tks_dec _ _ _ _ _ (by omega) h
   rw [List.nil_append] at b1
   subst b1
   refine ⟨by omega, fun t ht => ?_, u, b3, b4⟩
   have h1 := enc4_mem ht
   have h2 := congrArg List.length b5
   rw [List.length_append, List.length_drop] at h2
   omega
theorem tks_zero (l : List UInt8) (most to : Int) (out : List Tx) : tks l most 0 to out = (out, to, 0) := rfl
theorem tks_err {l : List UInt8} {most to e : Int} {c : Nat} {out : List Tx} (h : tk l to most = ([], 0, e)) (he : e ≠ 0) : tks l most (c + 1) to out = ([], 0, e) := by rw [tks, h, if_pos he]
theorem tks_next {l : List UInt8} {most to u : Int} {t : Tx} {c : Nat} {out : List Tx} (h : tk l to most = (t, u, 0)) : tks l most (c + 1) to out = tks l most c u (out ++ [t]) := by rw [tks, h, if_neg (by simp)]
theorem wtake_k {l : List UInt8} {k most : Int} (t : Tx) (u e : Int) (h : tk l k most = (t, u, e)) (hl : l.length ≤ 140737488351232) (hm : most ≤ 9223372036854775807) (w : World) :
  Calls Tryz.prog 212 #[.string (ba l), .int .i64 k, .int .i64 most] w fun e' w' => e' = .returned (.tuple #[.string (ba t), .int .i64 u, .int .i64 e]) ∧ Below w.heap.size w w' := by
 refine (take_w l hl k most hm w).mono ?_
 rintro e' w' ⟨hT, hb⟩
 unfold Tk at hT
 rw [h] at hT
 exact ⟨hT, hb⟩
def TEnd (r : List Tx × Int × Int) (w : World) (e : Ending) (w' : World) : Prop :=
 ∃ A cap, e = .returned (.tuple #[.slice A r.1.length cap, .int .i64 r.2.1, .int .i64 r.2.2]) ∧ At w' w'.heap.size A (svs r.1) ∧ Below w.heap.size w w'
theorem tEnd_nil {x y : Int} {w w' : World} (hb : Below w.heap.size w w') : TEnd ([], x, y) w (.returned (.tuple #[.slice none 0 0, .int .i64 x, .int .i64 y])) w' :=
 ⟨none, 0, rfl, At.nil _ _ _, hb⟩
set_option maxHeartbeats 8000000 in
theorem dtake_c (l : List UInt8) (N : Nat) (most : Int) (hN : N ≤ 4096) (hm : most ≤ 9223372036854775807) (hl : l.length ≤ 100000) (w : World) :
  Calls Tryz.prog 181 #[.string (ba l), .int .i64 (N : Int), .int .i64 most] w (TEnd (tkW l N most) w) := by
 have hs := ba_size l
 obtain ⟨i0, hi, hz0, hz1, hz2⟩ := info_parts Tryz.info9
 obtain ⟨res, hres⟩ : ∃ res, res = tkW l N most := ⟨_, rfl⟩
 have hr0 := hres
 unfold tkW at hr0
 rw [← hres]
 obtain ⟨v, hv⟩ : ∃ v, v = numV ⟨l, 0⟩ := ⟨_, rfl⟩
 obtain ⟨s, hss⟩ : ∃ s, s = numS ⟨l, 0⟩ := ⟨_, rfl⟩
 have hsl := numS_len ⟨l, 0⟩
 rw [← hss] at hsl
 rw [← hv, ← hss] at hr0
 have HR0 := Lib.hid hr0
 have HV := Lib.hid hv
 have HS := Lib.hid hss
 simp only at hsl
 clear hres hr0 hv hss
 go_enter Tryz.func181, Tryz.ntmps181
 go_wp2_with fail
 refine (new_c l _).mono ?_
 rintro e w1 ⟨rfl, hr1, hw1⟩
 have hb1 : Below w.heap.size w w1 := by rw [hw1]; exact (Below.refl _ _).alloc (Nat.le_refl _) _
 clear hw1
 go_wp2_with fail
 refine (num_m _ ⟨l, 0⟩ _ hr1).mono ?_
 rintro e w2 ⟨rfl, hr2, ho2⟩
 rw [← HV.out]
 rw [← HS.out] at hr2
 have hb2 := below_only hb1 ho2 hb1.size (Nat.le_refl _)
 clear hr1 hb1 ho2
 go_wp2_with fail
 refine (err_c _ s _ hr2).mono ?_
 rintro e wz ⟨rfl, rfl⟩
 by_cases he : s.e = 0
 ·have hee : (s.e != 0) = false := by rw [he]; rfl
  have HE0 := Lib.hid he
  have hwu : IntKind.u64.wrap (N : Int) = (N : Int) := by rw [IntKind.wrap_u64]; omega
  clear he
  by_cases hfar : N < v
  ·have hfar2 : (N : Int) < (v : Int) := by omega
   have hres2 : res = ([], 0, 10) := by
    have := HR0.out
    rw [if_neg (by rw [HE0.out]; simp), if_pos hfar] at this
    exact this
   have HRES := Lib.hid hres2
   clear hres2
   go_wp2_with fail
   go_ret3
   rw [HRES.out]
   exact tEnd_nil hb2
  ·have hfar2 : ¬ (N : Int) < (v : Int) := by omega
   have hres2 : tks l most v ((l.length - s.l.length : Nat) : Int) [] = res := by
    have := HR0.out
    rw [if_neg (by rw [HE0.out]; simp), if_neg hfar] at this
    exact this.symm
   have HRES := Lib.hid hres2
   have hvN : v ≤ 4096 := by omega
   have hbx : i0.bytes * v ≤ 281474976710656 := by rw [hz2]; omega
   have hmx : v ≤ maxLen := by unfold maxLen; omega
   have hb20 := hb2.size
   clear hres2 hfar
   go_wp2_with (at_make; refine wpList_make_own _ rfl _ _ 64 rfl w.heap.size 9 i0 (.string ByteArray.empty) 1 Tryz.underlying64 hi hz0 hz1 .i64 .u64 _ v rfl rfl rfl hbx hmx hb20 ?_; intro w3 hown3 hgrow3)
   have hgl := (hown3.lt w2.heap.size rfl).2
   have hb3 := hb2.grown hgrow3 hb20 (fun k hk => by cases hk)
   have hr3 : Rdr w3 w.heap.size s := (hgrow3.block _ (is_lt hr2) (by simp)).trans hr2
   obtain ⟨g, hg⟩ : ∃ g, g = w2.heap.size := ⟨_, rfl⟩
   rw [← hg] at hown3 hgl ⊢
   have hgb : w.heap.size ≤ g := by omega
   clear hg hr2 hb2 hb20 hgrow3 hbx hmx
   refine (left_c _ s _ hr3).mono ?_
   rintro e w3 ⟨rfl, rfl⟩
   have hend : (l.length : Int) - (s.l.length : Int) = ((l.length - s.l.length : Nat) : Int) := by omega
   obtain ⟨K0, hK0⟩ : ∃ K0, K0 = l.length - s.l.length := ⟨_, rfl⟩
   rw [← hK0] at hend HRES
   have hK0l : K0 ≤ l.length := by omega
   clear hK0 hsl hr3
   go_wp2_with fail
   go_loopw [12, 13, 38] (fun sl to i wr => ∃ (i' K : Nat) (out : List Tx), i = .int .u64 (i' : Int) ∧ i' ≤ v ∧ sl = .slice (some ⟨g, 0, none⟩) i' v ∧ out.length = i' ∧ to = .int .i64 (K : Int) ∧ K ≤ l.length ∧ tks l most (v - i') (K : Int) out = res ∧ wr.ownsRow w.heap.size 9 1 (.slice (some ⟨g, 0, none⟩) i' v) i' (svs out) ∧ Below w.heap.size w wr)
    (fun _ _ i _ => v - (Go.RowKit.intOf i).toNat)
   case atStart => exact ⟨0, K0, [], rfl, Nat.zero_le _, rfl, rfl, by rw [← hend], hK0l, HRES.out, hown3, hb3⟩
   case round =>
    clear hown3 hb3 hend hK0l
    obtain ⟨i', K, out, rfl, hiv, rfl, hol, rfl, hK, htk, hown, hb⟩ := hrel
    have hb0 := hb.size
    have HTK := Lib.hid htk
    have HOL := Lib.hid hol
    have hgw := (hown.lt g rfl).2
    clear htk hol
    by_cases hlt : i' < v
    ·obtain ⟨c, hc⟩ : ∃ c, v - i' = c + 1 := ⟨v - i' - 1, by omega⟩
     have HC := Lib.hid hc
     rcases tk_two l K most hK with ⟨er, he, h1⟩ | ⟨t, u, h1, hu, -, -, -, -⟩
     ·have hres2 : res = ([], 0, er) := by rw [← HTK.out, hc, tks_err h1 he]
      have HRES2 := Lib.hid hres2
      have hee : (er != 0) = true := by simpa using he
      have H1 := Lib.hid h1
      clear hres2 he h1 hc
      go_wp2_with fail
      refine (wtake_k [] 0 er H1.out (by omega) hm _).mono ?_
      rintro e w5 ⟨rfl, hm5⟩
      go_wp2_with fail
      go_ret3
      rw [HRES2.out]
      exact tEnd_nil (hb.trans (hm5.mono hb0))
     ·have hres2 : tks l most (v - (i' + 1)) (u : Int) (out ++ [t]) = res := by rw [← HTK.out, hc, tks_next h1, show v - (i' + 1) = c by omega]
      have HRES2 := Lib.hid hres2
      have H1 := Lib.hid h1
      have hic : i' + 1 ≤ v := by omega
      clear hres2 h1 hc
      go_wp2_with fail
      refine (wtake_k t (u : Int) 0 H1.out (by omega) hm _).mono ?_
      rintro e w5 ⟨rfl, hm5⟩
      have hown5 : w5.ownsRow w.heap.size 9 1 (.slice (some ⟨g, 0, none⟩) i' v) i' (svs out) := hown.kept (row := none) ⟨hm5.os, hm5.tape, hm5.output, hm5.size, fun k hk _ => hm5.block k hk⟩ (.inr (by simp [Value.ownBlock]))
      have hb5 := hb.trans (hm5.mono hb0)
      have hb50 := hb5.size
      clear hown hb hm5 hb0
      go_wp2_with (at_builtin; refine wpList_append_fits _ rfl _ _ 64 rfl w.heap.size 9 i0 1 Tryz.underlying64 hi hz1 g i' v _ rfl (hown5.alloc _) ⟨w5.heap.size, 0, none⟩ 1 1 [.string (ba t)] rfl rfl (cell_one_new _ _ _) (by simp [Value.oneCell']) hic ?_; intro w6 hown6 hgrow6)
      have hb6 := Dl.below_ownI hb5 hb50 hown5 hgrow6
      clear hown5 hb5 hgrow6
      go_roundw
      case rel => exact ⟨i' + 1, u, out ++ [t], by go_num, by omega, rfl, by rw [List.length_append, HOL.out]; rfl, rfl, hu, HRES2.out, by rw [svs_snoc]; exact hown6, hb6⟩
      case measure => simp only [Go.RowKit.intOf]; omega
    ·obtain rfl : i' = v := by omega
     have hres2 : res = (out, (K : Int), 0) := by rw [← HTK.out, Nat.sub_self, tks_zero]
     have HRES2 := Lib.hid hres2
     obtain ⟨A3, c3, hA3, hat3, -, -⟩ := own_at hown
     cases hA3
     clear hres2 hown
     go_wp2_with fail
     go_ret3
     rw [HRES2.out]
     have ho := HOL.out
     exact ⟨_, _, by rw [show ((out, (K : Int), (0 : Int)) : List Tx × Int × Int).1.length = i' from ho]; rfl, hat3, hb⟩
 ·have hee : (s.e != 0) = true := by simpa using he
  have hres2 : res = ([], 0, s.e) := by
   have := HR0.out
   rw [if_pos he] at this
   exact this
  have HRES := Lib.hid hres2
  clear hres2 he
  go_wp2_with fail
  go_ret3
  rw [HRES.out]
  exact tEnd_nil hb2
end Dt
end Go.Proofs.YtojhenpaeedimaaGreat
end
section
namespace Go.Proofs.YtojhenpaeedimaaGreat
open Dl Ru
namespace Dt
open Go.RowKit Go.IntWalk
open Pk Dc Wd
set_option maxRecDepth 100000
attribute [local go_sem] Oper.semAt_some
theorem decU_short (l : List UInt8) (n : Int) : (decU l n).1.length ≤ 4096 := by
 by_cases h0 : (decU l n).2 = 0
 ·obtain ⟨_, h2⟩ := decU_dec h0
  rcases Int.lt_or_le n 0 with hn | hn
  ·rw [decU_neg hn]; simp
  ·rcases Int.lt_or_le 4096 n with hb | hb
   ·rw [decU_big hb]; simp
   ·omega
 ·rw [decU_err h0]; simp
theorem decT_e1 {l : List UInt8} {n : Nat} {r : List Tx × Int × Int} (h : r.2.2 ≠ 0) : decT l n r = ([], r.2.2) := by rw [decT, if_pos h]
theorem decT_e2 {l : List UInt8} {n u : Nat} {W : List Tx} (h : (decU (l.drop u) n).2 ≠ 0) : decT l n (W, (u : Int), 0) = ([], (decU (l.drop u) n).2) := by
 rw [decT, if_neg (by simp)]; dsimp only; rw [Int.toNat_natCast, if_pos h]
theorem decT_ok {l : List UInt8} {n u : Nat} {W : List Tx} (h : (decU (l.drop u) n).2 = 0) (hm : mayW W (decU (l.drop u) n).1 = true) : decT l n (W, (u : Int), 0) = ((pk W [] (decU (l.drop u) n).1).1, 0) := by
 rw [decT, if_neg (by simp)]; dsimp only; rw [Int.toNat_natCast, if_neg (by rw [h]; simp), if_pos hm]
theorem decT_no {l : List UInt8} {n u : Nat} {W : List Tx} (h : (decU (l.drop u) n).2 = 0) (hm : mayW W (decU (l.drop u) n).1 = false) : decT l n (W, (u : Int), 0) = ([], 5) := by
 rw [decT, if_neg (by simp)]; dsimp only; rw [Int.toNat_natCast, if_neg (by rw [h]; simp), if_neg (by rw [hm]; simp)]
set_option maxHeartbeats 8000000 in
theorem ddecode_c (l : List UInt8) (n most : Int) (hn1 : -9223372036854775808 ≤ n) (hn2 : n ≤ 9223372036854775807) (hm : most ≤ 9223372036854775807) (hl : l.length ≤ 100000) (w : World) :
  Calls Tryz.prog 130 #[.string (ba l), .int .i64 n, .int .i64 most] w (SEnd (decD l n most).1 (.int .i64 (decD l n most).2) w) := by
 have hs := ba_size l
 have hnot : ∀ (x : Bool) (w : World), (Op.unary .not (.bool x)).run Tryz.prog w = .ok (.bool (!x)) w := fun _ _ => rfl
 rcases Int.lt_or_le n 0 with hneg | hpos
 ·rw [decD_neg hneg]
  go_enter Tryz.func130, Tryz.ntmps130
  go_wp2_with fail
  go_ret2
  exact sEnd_nil (Below.refl _ _)
 rcases Int.lt_or_le 4096 n with hfar | hin
 ·rw [decD_big hfar]
  go_enter Tryz.func130, Tryz.ntmps130
  go_wp2_with fail
  go_ret2
  exact sEnd_nil (Below.refl _ _)
 obtain ⟨N, rfl⟩ := Int.eq_ofNat_of_zero_le hpos
 have hN : N ≤ 4096 := by omega
 obtain ⟨res, hres⟩ : ∃ res, res = decD l (N : Int) most := ⟨_, rfl⟩
 have hr0 := hres
 rw [decD_in hN] at hr0
 rw [← hres]
 have t1 : decide ((N : Int) < 0) = false := by simp
 have t2 : decide ((4096 : Int) < (N : Int)) = false := by simp; omega
 obtain ⟨r, hr⟩ : ∃ r, r = tkW l N most := ⟨_, rfl⟩
 rw [← hr] at hr0
 have HR := Lib.hid hr
 have HRES := Lib.hid hr0
 clear hres hr0 hpos hin hn1 hn2 hr
 go_enter Tryz.func130, Tryz.ntmps130
 go_wp2_with fail
 refine (dtake_c l N most hN hm hl _).mono ?_
 rintro e w1 ⟨A1, k1, rfl, hat1, hb1⟩
 rw [← HR.out] at hat1 ⊢
 have HAT1 := Lib.hid hat1
 clear hat1
 by_cases he : r.2.2 = 0
 ·obtain ⟨W, to, e0⟩ := r
  dsimp only at he
  subst he
  obtain ⟨q1, q2, u, rfl, hu⟩ := tkW_ok HR.out.symm
  have HT := Lib.hid (show ∀ t ∈ W, t.length ≤ 100000 from fun t ht => Nat.le_trans (q2 t ht) hl)
  have hWl : W.length ≤ 100000 := by omega
  have hext := extract_drop l u
  have hdl : (l.drop u).length ≤ 100000 := by rw [List.length_drop]; omega
  obtain ⟨S, hS⟩ : ∃ S, S = l.drop u := ⟨_, rfl⟩
  rw [← hS] at hext hdl
  have HS := Lib.hid hS
  obtain ⟨d, hd⟩ : ∃ d, d = decU S (N : Int) := ⟨_, rfl⟩
  have hdsh : d.1.length ≤ 4096 := by rw [hd]; exact decU_short _ _
  have HD := Lib.hid hd
  clear q1 q2 hS hd
  go_wp2_with fail
  refine (udecode_c S (N : Int) (by omega) (by omega) hdl _).mono ?_
  rintro e w2 ⟨A2, k2, rfl, -, -, hat2, hm2⟩
  rw [← HD.out] at hat2 ⊢
  have HAT2 := Lib.hid hat2
  have HAT1 := Lib.hid (HAT1.out.keep hm2)
  have hb2 := hb1.trans (hm2.mono hb1.size)
  clear hat2 hm2 hb1
  by_cases he2 : d.2 = 0
  ·have hee : (d.2 != 0) = false := by rw [he2]; rfl
   have HE2 := Lib.hid he2
   clear he2
   go_wp2_with fail
   refine (mayD_c A1 A2 k1 k2 W d.1 hWl (by omega) HT.out _ HAT1.out HAT2.out).mono ?_
   rintro e w3 ⟨rfl, hm3⟩
   have HAT1 := Lib.hid (HAT1.out.keep hm3)
   have HAT2 := Lib.hid (HAT2.out.keep hm3)
   have hb3 := hb2.trans (hm3.mono hb2.size)
   clear hm3 hb2
   cases hmay : mayW W d.1
   ·have hres2 : res = ([], 5) := by
     rw [HRES.out]
     refine decT_no ?_ ?_
     ·rw [← HS.out, ← HD.out]; exact HE2.out
     ·rw [← HS.out, ← HD.out]; exact hmay
    have HRES2 := Lib.hid hres2
    clear hres2 hmay
    go_wp2_with fail
    go_ret2
    rw [HRES2.out]
    exact sEnd_nil hb3
   ·have hres2 : res = ((pk W [] d.1).1, 0) := by
     rw [HRES.out]
     have := decT_ok (W := W) (show (decU (l.drop u) N).2 = 0 by rw [← HS.out, ← HD.out]; exact HE2.out) (by rw [← HS.out, ← HD.out]; exact hmay)
     rw [this, ← HS.out, ← HD.out]
    have HRES2 := Lib.hid hres2
    clear hres2 hmay
    go_wp2_with fail
    refine (pick_c A1 A2 k1 k2 W d.1 hWl (by omega) _ HAT1.out HAT2.out).mono ?_
    rintro e w4 ⟨A4, k4, rfl, hcp4, hfr4, hat4, hm4⟩
    obtain ⟨P, hP⟩ : ∃ P, P = pk W [] d.1 := ⟨_, rfl⟩
    rw [← hP] at hcp4 hat4 HRES2 ⊢
    have hb4 := hb3.trans (hm4.mono hb3.size)
    have HF4 := Lib.hid hfr4
    have HB3 := Lib.hid hb3.size
    have HAT4 := Lib.hid hat4
    clear hm4 hb3 hfr4 hat4 hP
    go_wp2_with fail
    go_ret2
    rw [HRES2.out]
    exact ⟨_, _, rfl, hcp4, fun a h => Nat.le_trans HB3.out (HF4.out a h), HAT4.out, hb4⟩
  ·have hee : (d.2 != 0) = true := by simpa using he2
   have hres2 : res = ([], d.2) := by
    rw [HRES.out]
    have := decT_e2 (W := W) (show (decU (l.drop u) N).2 ≠ 0 by rw [← HS.out, ← HD.out]; exact he2)
    rw [this, ← HS.out, ← HD.out]
   have HRES2 := Lib.hid hres2
   clear hres2 he2
   go_wp2_with fail
   go_ret2
   rw [HRES2.out]
   exact sEnd_nil hb2
 ·have hee : (r.2.2 != 0) = true := by simpa using he
  have hres2 : res = ([], r.2.2) := by rw [HRES.out, decT_e1 he]
  have HRES2 := Lib.hid hres2
  clear hres2 he
  go_wp2_with fail
  go_ret2
  rw [HRES2.out]
  exact sEnd_nil hb1
end Dt
end Go.Proofs.YtojhenpaeedimaaGreat
end
section
namespace Go.Proofs.YtojhenpaeedimaaGreat
open Dl Ru
namespace Dt
open Go.RowKit Go.IntWalk
open Pk Dc Wd
set_option maxRecDepth 100000
attribute [local go_sem] Oper.semAt_some
end Dt
end Go.Proofs.YtojhenpaeedimaaGreat
end
section
namespace Go.Proofs.YtojhenpaeedimaaGreat
open Dl Ru
namespace Dt
open Go.RowKit Go.IntWalk
open Pk Dc Wd
set_option maxRecDepth 100000
attribute [local go_sem] Oper.semAt_some
theorem dencode_k {A : Option Addr} {cap n : Nat} (l : List Tx) (s : List UInt8) (hs : encD l = s) (hn : l.length = n) (hx : n ≤ 100000) (hts : ∀ t ∈ l, t.length ≤ 100000) {w : World} (hc : At w w.heap.size A (svs l)) :
  Calls Tryz.prog 45 #[.slice A n cap] w fun e w' => e = .returned (.string (ba s)) ∧ Below w.heap.size w w' := by
 subst hn; subst hs; exact dencode_c A cap l hx hts w hc
namespace live8
end live8
end Dt
end Go.Proofs.YtojhenpaeedimaaGreat
end
