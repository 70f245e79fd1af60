/-
 Decode of texts, the program's.
 Decode of texts, the program's and the document's.
 Decode of texts, the document's.
 Few texts, none of them long; the contracts of dict at written lengths; what the live answers are.
-/
import Derived.Test.YtojhenpaeedimaaGreatQh
import Derived.Test.YtojhenpaeedimaaGreatDe
import Derived.Test.YtojhenpaeedimaaGreatJg
import Derived.Test.YtojhenpaeedimaaGreatEd
section
namespace Go.Proofs.YtojhenpaeedimaaGreat
open Dl Ru
namespace Dt
open Go.RowKit Go.IntWalk
open Pk Dc Wd
set_option maxRecDepth 100000
attribute [local go_sem] Oper.semAt_some
theorem enc4_mem {V : List Tx} {t : Tx} (h : t ∈ V) : t.length ≤ (enc4 V).length := by
 induction V with
 | nil => simp at h
 | cons x V ih =>
  rw [enc4, List.length_append, List.length_append]
  rcases List.mem_cons.1 h with rfl | h
  ·omega
  ·have := ih h; omega
/-- what is taken: no more than there is -/
theorem tkW_ok {l : List UInt8} {n : Nat} {most to : Int} {W : List Tx} (h : tkW l n most = (W, to, 0)) : W.length ≤ n ∧ (∀ t ∈ W, t.length ≤ l.length) ∧ ∃ u : Nat, to = (u : Int) ∧ u ≤ l.length := by
 unfold tkW at h
 split at h
 ·rename_i d; simp only [Prod.mk.injEq] at h; exact absurd h.2.2 d
 ·split at h
  ·simp at h
  ·rename_i d1 d2
   obtain ⟨V, u, b1, b2, b3, b4, b5, _⟩ := tks_dec _ _ _ _ _ (by omega) h
   rw [List.nil_append] at b1
   subst b1
   refine ⟨by omega, fun t ht => ?_, u, b3, b4⟩
   have h1 := enc4_mem ht
   have h2 := congrArg List.length b5
   rw [List.length_append, List.length_drop] at h2
   omega
theorem tks_zero (l : List UInt8) (most to : Int) (out : List Tx) : tks l most 0 to out = (out, to, 0) := rfl
theorem tks_err {l : List UInt8} {most to e : Int} {c : Nat} {out : List Tx} (h : tk l to most = ([], 0, e)) (he : e ≠ 0) : tks l most (c + 1) to out = ([], 0, e) := by rw [tks, h, if_pos he]
theorem tks_next {l : List UInt8} {most to u : Int} {t : Tx} {c : Nat} {out : List Tx} (h : tk l to most = (t, u, 0)) : tks l most (c + 1) to out = tks l most c u (out ++ [t]) := by rw [tks, h, if_neg (by simp)]
theorem wtake_k {l : List UInt8} {k most : Int} (t : Tx) (u e : Int) (h : tk l k most = (t, u, e)) (hl : l.length ≤ 140737488351232) (hm : most ≤ 9223372036854775807) (w : World) :
  Calls Tryz.prog 212 #[.string (ba l), .int .i64 k, .int .i64 most] w fun e' w' => e' = .returned (.tuple #[.string (ba t), .int .i64 u, .int .i64 e]) ∧ Below w.heap.size w w' := by
 refine (take_w l hl k most hm w).mono ?_
 rintro e' w' ⟨hT, hb⟩
 unfold Tk at hT
 rw [h] at hT
 exact ⟨hT, hb⟩
theorem rwtake_k {l : List UInt8} {k most : Int} (t : Tx) (u e : Int) (h : tk l k most = (t, u, e)) (hl : l.length ≤ 140737488351232) (hm : most ≤ 9223372036854775807) (w : World) :
  Calls Tryz.prog 133 #[.string (ba l), .int .i64 k, .int .i64 most] w fun e' w' => e' = .returned (.tuple #[.string (ba t), .int .i64 u, .int .i64 e]) ∧ Below w.heap.size w w' := by
 refine (rtake_w l hl k most hm w).mono ?_
 rintro e' w' ⟨hT, hb⟩
 unfold Tk at hT
 rw [h] at hT
 exact ⟨hT, hb⟩
def TEnd (r : List Tx × Int × Int) (w : World) (e : Ending) (w' : World) : Prop :=
 ∃ A cap, e = .returned (.tuple #[.slice A r.1.length cap, .int .i64 r.2.1, .int .i64 r.2.2]) ∧ At w' w'.heap.size A (svs r.1) ∧ Below w.heap.size w w'
theorem tEnd_nil {x y : Int} {w w' : World} (hb : Below w.heap.size w w') : TEnd ([], x, y) w (.returned (.tuple #[.slice none 0 0, .int .i64 x, .int .i64 y])) w' :=
 ⟨none, 0, rfl, At.nil _ _ _, hb⟩
set_option maxHeartbeats 8000000 in
theorem dtake_c (l : List UInt8) (N : Nat) (most : Int) (hN : N ≤ 4096) (hm : most ≤ 9223372036854775807) (hl : l.length ≤ 100000) (w : World) :
  Calls Tryz.prog 181 #[.string (ba l), .int .i64 (N : Int), .int .i64 most] w (TEnd (tkW l N most) w) := by
 have hs := ba_size l
 obtain ⟨i0, hi, hz0, hz1, hz2⟩ := info_parts Tryz.info9
 obtain ⟨res, hres⟩ : ∃ res, res = tkW l N most := ⟨_, rfl⟩
 have hr0 := hres
 unfold tkW at hr0
 rw [← hres]
 obtain ⟨v, hv⟩ : ∃ v, v = numV ⟨l, 0⟩ := ⟨_, rfl⟩
 obtain ⟨s, hss⟩ : ∃ s, s = numS ⟨l, 0⟩ := ⟨_, rfl⟩
 have hsl := numS_len ⟨l, 0⟩
 rw [← hss] at hsl
 rw [← hv, ← hss] at hr0
 have HR0 := Lib.hid hr0
 have HV := Lib.hid hv
 have HS := Lib.hid hss
 simp only at hsl
 clear hres hr0 hv hss
 go_enter Tryz.func181, Tryz.ntmps181
 go_wp2_with fail
 refine (new_c l _).mono ?_
 rintro e w1 ⟨rfl, hr1, hw1⟩
 have hb1 : Below w.heap.size w w1 := by rw [hw1]; exact (Below.refl _ _).alloc (Nat.le_refl _) _
 clear hw1
 go_wp2_with fail
 refine (num_m _ ⟨l, 0⟩ _ hr1).mono ?_
 rintro e w2 ⟨rfl, hr2, ho2⟩
 rw [← HV.out]
 rw [← HS.out] at hr2
 have hb2 := below_only hb1 ho2 hb1.size (Nat.le_refl _)
 clear hr1 hb1 ho2
 go_wp2_with fail
 refine (err_c _ s _ hr2).mono ?_
 rintro e wz ⟨rfl, rfl⟩
 by_cases he : s.e = 0
 ·have hee : (s.e != 0) = false := by rw [he]; rfl
  have HE0 := Lib.hid he
  have hwu : IntKind.u64.wrap (N : Int) = (N : Int) := by rw [IntKind.wrap_u64]; omega
  clear he
  by_cases hfar : N < v
  ·have hfar2 : (N : Int) < (v : Int) := by omega
   have hres2 : res = ([], 0, 10) := by
    have := HR0.out
    rw [if_neg (by rw [HE0.out]; simp), if_pos hfar] at this
    exact this
   have HRES := Lib.hid hres2
   clear hres2
   go_wp2_with fail
   go_ret3
   rw [HRES.out]
   exact tEnd_nil hb2
  ·have hfar2 : ¬ (N : Int) < (v : Int) := by omega
   have hres2 : tks l most v ((l.length - s.l.length : Nat) : Int) [] = res := by
    have := HR0.out
    rw [if_neg (by rw [HE0.out]; simp), if_neg hfar] at this
    exact this.symm
   have HRES := Lib.hid hres2
   have hvN : v ≤ 4096 := by omega
   have hbx : i0.bytes * v ≤ 281474976710656 := by rw [hz2]; omega
   have hmx : v ≤ maxLen := by unfold maxLen; omega
   have hb20 := hb2.size
   clear hres2 hfar
   go_wp2_with (at_make; refine wpList_make_own _ rfl _ _ 64 rfl w.heap.size 9 i0 (.string ByteArray.empty) 1 Tryz.underlying64 hi hz0 hz1 .i64 .u64 _ v rfl rfl rfl hbx hmx hb20 ?_; intro w3 hown3 hgrow3)
   have hgl := (hown3.lt w2.heap.size rfl).2
   have hb3 := hb2.grown hgrow3 hb20 (fun k hk => by cases hk)
   have hr3 : Rdr w3 w.heap.size s := (hgrow3.block _ (is_lt hr2) (by simp)).trans hr2
   obtain ⟨g, hg⟩ : ∃ g, g = w2.heap.size := ⟨_, rfl⟩
   rw [← hg] at hown3 hgl ⊢
   have hgb : w.heap.size ≤ g := by omega
   clear hg hr2 hb2 hb20 hgrow3 hbx hmx
   refine (left_c _ s _ hr3).mono ?_
   rintro e w3 ⟨rfl, rfl⟩
   have hend : (l.length : Int) - (s.l.length : Int) = ((l.length - s.l.length : Nat) : Int) := by omega
   obtain ⟨K0, hK0⟩ : ∃ K0, K0 = l.length - s.l.length := ⟨_, rfl⟩
   rw [← hK0] at hend HRES
   have hK0l : K0 ≤ l.length := by omega
   clear hK0 hsl hr3
   go_wp2_with fail
   go_loopw [12, 13, 38] (fun sl to i wr => ∃ (i' K : Nat) (out : List Tx), i = .int .u64 (i' : Int) ∧ i' ≤ v ∧ sl = .slice (some ⟨g, 0, none⟩) i' v ∧ out.length = i' ∧ to = .int .i64 (K : Int) ∧ K ≤ l.length ∧ tks l most (v - i') (K : Int) out = res ∧ wr.ownsRow w.heap.size 9 1 (.slice (some ⟨g, 0, none⟩) i' v) i' (svs out) ∧ Below w.heap.size w wr)
    (fun _ _ i _ => v - (Go.RowKit.intOf i).toNat)
   case atStart => exact ⟨0, K0, [], rfl, Nat.zero_le _, rfl, rfl, by rw [← hend], hK0l, HRES.out, hown3, hb3⟩
   case round =>
    clear hown3 hb3 hend hK0l
    obtain ⟨i', K, out, rfl, hiv, rfl, hol, rfl, hK, htk, hown, hb⟩ := hrel
    have hb0 := hb.size
    have HTK := Lib.hid htk
    have HOL := Lib.hid hol
    have hgw := (hown.lt g rfl).2
    clear htk hol
    by_cases hlt : i' < v
    ·obtain ⟨c, hc⟩ : ∃ c, v - i' = c + 1 := ⟨v - i' - 1, by omega⟩
     have HC := Lib.hid hc
     rcases tk_two l K most hK with ⟨er, he, h1⟩ | ⟨t, u, h1, hu, -, -, -, -⟩
     ·have hres2 : res = ([], 0, er) := by rw [← HTK.out, hc, tks_err h1 he]
      have HRES2 := Lib.hid hres2
      have hee : (er != 0) = true := by simpa using he
      have H1 := Lib.hid h1
      clear hres2 he h1 hc
      go_wp2_with fail
      refine (wtake_k [] 0 er H1.out (by omega) hm _).mono ?_
      rintro e w5 ⟨rfl, hm5⟩
      go_wp2_with fail
      go_ret3
      rw [HRES2.out]
      exact tEnd_nil (hb.trans (hm5.mono hb0))
     ·have hres2 : tks l most (v - (i' + 1)) (u : Int) (out ++ [t]) = res := by rw [← HTK.out, hc, tks_next h1, show v - (i' + 1) = c by omega]
      have HRES2 := Lib.hid hres2
      have H1 := Lib.hid h1
      have hic : i' + 1 ≤ v := by omega
      clear hres2 h1 hc
      go_wp2_with fail
      refine (wtake_k t (u : Int) 0 H1.out (by omega) hm _).mono ?_
      rintro e w5 ⟨rfl, hm5⟩
      have hown5 : w5.ownsRow w.heap.size 9 1 (.slice (some ⟨g, 0, none⟩) i' v) i' (svs out) := hown.kept (row := none) ⟨hm5.os, hm5.tape, hm5.output, hm5.size, fun k hk _ => hm5.block k hk⟩ (.inr (by simp [Value.ownBlock]))
      have hb5 := hb.trans (hm5.mono hb0)
      have hb50 := hb5.size
      clear hown hb hm5 hb0
      go_wp2_with (at_builtin; refine wpList_append_fits _ rfl _ _ 64 rfl w.heap.size 9 i0 1 Tryz.underlying64 hi hz1 g i' v _ rfl (hown5.alloc _) ⟨w5.heap.size, 0, none⟩ 1 1 [.string (ba t)] rfl rfl (cell_one_new _ _ _) (by simp [Value.oneCell']) hic ?_; intro w6 hown6 hgrow6)
      have hb6 := Dl.below_ownI hb5 hb50 hown5 hgrow6
      clear hown5 hb5 hgrow6
      go_roundw
      case rel => exact ⟨i' + 1, u, out ++ [t], by go_num, by omega, rfl, by rw [List.length_append, HOL.out]; rfl, rfl, hu, HRES2.out, by rw [svs_snoc]; exact hown6, hb6⟩
      case measure => simp only [Go.RowKit.intOf]; omega
    ·obtain rfl : i' = v := by omega
     have hres2 : res = (out, (K : Int), 0) := by rw [← HTK.out, Nat.sub_self, tks_zero]
     have HRES2 := Lib.hid hres2
     obtain ⟨A3, c3, hA3, hat3, -, -⟩ := own_at hown
     cases hA3
     clear hres2 hown
     go_wp2_with fail
     go_ret3
     rw [HRES2.out]
     have ho := HOL.out
     exact ⟨_, _, by rw [show ((out, (K : Int), (0 : Int)) : List Tx × Int × Int).1.length = i' from ho]; rfl, hat3, hb⟩
 ·have hee : (s.e != 0) = true := by simpa using he
  have hres2 : res = ([], 0, s.e) := by
   have := HR0.out
   rw [if_pos he] at this
   exact this
  have HRES := Lib.hid hres2
  clear hres2 he
  go_wp2_with fail
  go_ret3
  rw [HRES.out]
  exact tEnd_nil hb2
end Dt
end Go.Proofs.YtojhenpaeedimaaGreat
end
section
namespace Go.Proofs.YtojhenpaeedimaaGreat
open Dl Ru
namespace Dt
open Go.RowKit Go.IntWalk
open Pk Dc Wd
set_option maxRecDepth 100000
attribute [local go_sem] Oper.semAt_some
theorem decU_short (l : List UInt8) (n : Int) : (decU l n).1.length ≤ 4096 := by
 by_cases h0 : (decU l n).2 = 0
 ·obtain ⟨_, h2⟩ := decU_dec h0
  rcases Int.lt_or_le n 0 with hn | hn
  ·rw [decU_neg hn]; simp
  ·rcases Int.lt_or_le 4096 n with hb | hb
   ·rw [decU_big hb]; simp
   ·omega
 ·rw [decU_err h0]; simp
theorem decT_e1 {l : List UInt8} {n : Nat} {r : List Tx × Int × Int} (h : r.2.2 ≠ 0) : decT l n r = ([], r.2.2) := by rw [decT, if_pos h]
theorem decT_e2 {l : List UInt8} {n u : Nat} {W : List Tx} (h : (decU (l.drop u) n).2 ≠ 0) : decT l n (W, (u : Int), 0) = ([], (decU (l.drop u) n).2) := by
 rw [decT, if_neg (by simp)]; dsimp only; rw [Int.toNat_natCast, if_pos h]
theorem decT_ok {l : List UInt8} {n u : Nat} {W : List Tx} (h : (decU (l.drop u) n).2 = 0) (hm : mayW W (decU (l.drop u) n).1 = true) : decT l n (W, (u : Int), 0) = ((pk W [] (decU (l.drop u) n).1).1, 0) := by
 rw [decT, if_neg (by simp)]; dsimp only; rw [Int.toNat_natCast, if_neg (by rw [h]; simp), if_pos hm]
theorem decT_no {l : List UInt8} {n u : Nat} {W : List Tx} (h : (decU (l.drop u) n).2 = 0) (hm : mayW W (decU (l.drop u) n).1 = false) : decT l n (W, (u : Int), 0) = ([], 5) := by
 rw [decT, if_neg (by simp)]; dsimp only; rw [Int.toNat_natCast, if_neg (by rw [h]; simp), if_neg (by rw [hm]; simp)]
set_option maxHeartbeats 8000000 in
theorem ddecode_c (l : List UInt8) (n most : Int) (hn1 : -9223372036854775808 ≤ n) (hn2 : n ≤ 9223372036854775807) (hm : most ≤ 9223372036854775807) (hl : l.length ≤ 100000) (w : World) :
  Calls Tryz.prog 130 #[.string (ba l), .int .i64 n, .int .i64 most] w (SEnd (decD l n most).1 (.int .i64 (decD l n most).2) w) := by
 have hs := ba_size l
 have hnot : ∀ (x : Bool) (w : World), (Op.unary .not (.bool x)).run Tryz.prog w = .ok (.bool (!x)) w := fun _ _ => rfl
 rcases Int.lt_or_le n 0 with hneg | hpos
 ·rw [decD_neg hneg]
  go_enter Tryz.func130, Tryz.ntmps130
  go_wp2_with fail
  go_ret2
  exact sEnd_nil (Below.refl _ _)
 rcases Int.lt_or_le 4096 n with hfar | hin
 ·rw [decD_big hfar]
  go_enter Tryz.func130, Tryz.ntmps130
  go_wp2_with fail
  go_ret2
  exact sEnd_nil (Below.refl _ _)
 obtain ⟨N, rfl⟩ := Int.eq_ofNat_of_zero_le hpos
 have hN : N ≤ 4096 := by omega
 obtain ⟨res, hres⟩ : ∃ res, res = decD l (N : Int) most := ⟨_, rfl⟩
 have hr0 := hres
 rw [decD_in hN] at hr0
 rw [← hres]
 have t1 : decide ((N : Int) < 0) = false := by simp
 have t2 : decide ((4096 : Int) < (N : Int)) = false := by simp; omega
 obtain ⟨r, hr⟩ : ∃ r, r = tkW l N most := ⟨_, rfl⟩
 rw [← hr] at hr0
 have HR := Lib.hid hr
 have HRES := Lib.hid hr0
 clear hres hr0 hpos hin hn1 hn2 hr
 go_enter Tryz.func130, Tryz.ntmps130
 go_wp2_with fail
 refine (dtake_c l N most hN hm hl _).mono ?_
 rintro e w1 ⟨A1, k1, rfl, hat1, hb1⟩
 rw [← HR.out] at hat1 ⊢
 have HAT1 := Lib.hid hat1
 clear hat1
 by_cases he : r.2.2 = 0
 ·obtain ⟨W, to, e0⟩ := r
  dsimp only at he
  subst he
  obtain ⟨q1, q2, u, rfl, hu⟩ := tkW_ok HR.out.symm
  have HT := Lib.hid (show ∀ t ∈ W, t.length ≤ 100000 from fun t ht => Nat.le_trans (q2 t ht) hl)
  have hWl : W.length ≤ 100000 := by omega
  have hext := extract_drop l u
  have hdl : (l.drop u).length ≤ 100000 := by rw [List.length_drop]; omega
  obtain ⟨S, hS⟩ : ∃ S, S = l.drop u := ⟨_, rfl⟩
  rw [← hS] at hext hdl
  have HS := Lib.hid hS
  obtain ⟨d, hd⟩ : ∃ d, d = decU S (N : Int) := ⟨_, rfl⟩
  have hdsh : d.1.length ≤ 4096 := by rw [hd]; exact decU_short _ _
  have HD := Lib.hid hd
  clear q1 q2 hS hd
  go_wp2_with fail
  refine (udecode_c S (N : Int) (by omega) (by omega) hdl _).mono ?_
  rintro e w2 ⟨A2, k2, rfl, -, -, hat2, hm2⟩
  rw [← HD.out] at hat2 ⊢
  have HAT2 := Lib.hid hat2
  have HAT1 := Lib.hid (HAT1.out.keep hm2)
  have hb2 := hb1.trans (hm2.mono hb1.size)
  clear hat2 hm2 hb1
  by_cases he2 : d.2 = 0
  ·have hee : (d.2 != 0) = false := by rw [he2]; rfl
   have HE2 := Lib.hid he2
   clear he2
   go_wp2_with fail
   refine (mayD_c A1 A2 k1 k2 W d.1 hWl (by omega) HT.out _ HAT1.out HAT2.out).mono ?_
   rintro e w3 ⟨rfl, hm3⟩
   have HAT1 := Lib.hid (HAT1.out.keep hm3)
   have HAT2 := Lib.hid (HAT2.out.keep hm3)
   have hb3 := hb2.trans (hm3.mono hb2.size)
   clear hm3 hb2
   cases hmay : mayW W d.1
   ·have hres2 : res = ([], 5) := by
     rw [HRES.out]
     refine decT_no ?_ ?_
     ·rw [← HS.out, ← HD.out]; exact HE2.out
     ·rw [← HS.out, ← HD.out]; exact hmay
    have HRES2 := Lib.hid hres2
    clear hres2 hmay
    go_wp2_with fail
    go_ret2
    rw [HRES2.out]
    exact sEnd_nil hb3
   ·have hres2 : res = ((pk W [] d.1).1, 0) := by
     rw [HRES.out]
     have := decT_ok (W := W) (show (decU (l.drop u) N).2 = 0 by rw [← HS.out, ← HD.out]; exact HE2.out) (by rw [← HS.out, ← HD.out]; exact hmay)
     rw [this, ← HS.out, ← HD.out]
    have HRES2 := Lib.hid hres2
    clear hres2 hmay
    go_wp2_with fail
    refine (pick_c A1 A2 k1 k2 W d.1 hWl (by omega) _ HAT1.out HAT2.out).mono ?_
    rintro e w4 ⟨A4, k4, rfl, hcp4, hfr4, hat4, hm4⟩
    obtain ⟨P, hP⟩ : ∃ P, P = pk W [] d.1 := ⟨_, rfl⟩
    rw [← hP] at hcp4 hat4 HRES2 ⊢
    have hb4 := hb3.trans (hm4.mono hb3.size)
    have HF4 := Lib.hid hfr4
    have HB3 := Lib.hid hb3.size
    have HAT4 := Lib.hid hat4
    clear hm4 hb3 hfr4 hat4 hP
    go_wp2_with fail
    go_ret2
    rw [HRES2.out]
    exact ⟨_, _, rfl, hcp4, fun a h => Nat.le_trans HB3.out (HF4.out a h), HAT4.out, hb4⟩
  ·have hee : (d.2 != 0) = true := by simpa using he2
   have hres2 : res = ([], d.2) := by
    rw [HRES.out]
    have := decT_e2 (W := W) (show (decU (l.drop u) N).2 ≠ 0 by rw [← HS.out, ← HD.out]; exact he2)
    rw [this, ← HS.out, ← HD.out]
   have HRES2 := Lib.hid hres2
   clear hres2 he2
   go_wp2_with fail
   go_ret2
   rw [HRES2.out]
   exact sEnd_nil hb2
 ·have hee : (r.2.2 != 0) = true := by simpa using he
  have hres2 : res = ([], r.2.2) := by rw [HRES.out, decT_e1 he]
  have HRES2 := Lib.hid hres2
  clear hres2 he
  go_wp2_with fail
  go_ret2
  rw [HRES2.out]
  exact sEnd_nil hb1
end Dt
end Go.Proofs.YtojhenpaeedimaaGreat
end
section
namespace Go.Proofs.YtojhenpaeedimaaGreat
open Dl Ru
namespace Dt
open Go.RowKit Go.IntWalk
open Pk Dc Wd
set_option maxRecDepth 100000
attribute [local go_sem] Oper.semAt_some
set_option maxHeartbeats 8000000 in
theorem drdecode_c (l : List UInt8) (n most : Int) (hn1 : -9223372036854775808 ≤ n) (hn2 : n ≤ 9223372036854775807) (hm : most ≤ 9223372036854775807) (hl : l.length ≤ 100000) (w : World) :
  Calls Tryz.prog 74 #[.string (ba l), .int .i64 n, .int .i64 most] w (SEnd (decD l n most).1 (.int .i64 (decD l n most).2) w) := by
 have hs := ba_size l
 have hnot : ∀ (x : Bool) (w : World), (Op.unary .not (.bool x)).run Tryz.prog w = .ok (.bool (!x)) w := fun _ _ => rfl
 rcases Int.lt_or_le n 0 with hneg | hpos
 ·rw [decD_neg hneg]
  go_enter Tryz.func74, Tryz.ntmps74
  go_wp2_with fail
  go_ret2
  exact sEnd_nil (Below.refl _ _)
 rcases Int.lt_or_le 4096 n with hfar | hin
 ·rw [decD_big hfar]
  go_enter Tryz.func74, Tryz.ntmps74
  go_wp2_with fail
  go_ret2
  exact sEnd_nil (Below.refl _ _)
 obtain ⟨i0, hi, hz0, hz1, hz2⟩ := info_parts Tryz.info9
 obtain ⟨N, rfl⟩ := Int.eq_ofNat_of_zero_le hpos
 have hN : N ≤ 4096 := by omega
 obtain ⟨res, hres⟩ : ∃ res, res = decD l (N : Int) most := ⟨_, rfl⟩
 have hr0 := hres
 rw [decD_in hN] at hr0
 rw [← hres]
 have t1 : decide ((N : Int) < 0) = false := by simp
 have t2 : decide ((4096 : Int) < (N : Int)) = false := by simp; omega
 obtain ⟨r, hr⟩ : ∃ r, r = tkW l N most := ⟨_, rfl⟩
 rw [← hr] at hr0
 have HR := Lib.hid hr
 have HRES := Lib.hid hr0
 have hrk := hr
 unfold tkW at hrk
 obtain ⟨v, hv⟩ : ∃ v, v = numV ⟨l, 0⟩ := ⟨_, rfl⟩
 obtain ⟨s, hss⟩ : ∃ s, s = numS ⟨l, 0⟩ := ⟨_, rfl⟩
 have hsl := numS_len ⟨l, 0⟩
 rw [← hss] at hsl
 rw [← hv, ← hss] at hrk
 have HRK := Lib.hid hrk
 have HV := Lib.hid hv
 have HS := Lib.hid hss
 simp only at hsl
 clear hres hr0 hpos hin hn1 hn2 hr hrk hv hss
 go_enter Tryz.func74, Tryz.ntmps74
 go_wp2_with fail
 have hr1 : Ref (w.alloc (.cells #[.string (ba l), .int .i64 0, .int .i64 0] 81)) w.heap.size l ⟨l, 0⟩ := ref_mk (Nat.zero_le _) rfl (is_new w 81 [.string (ba l), .int .i64 0, .int .i64 0])
 have hb1 : Below w.heap.size w (w.alloc (.cells #[.string (ba l), .int .i64 0, .int .i64 0] 81)) := (Below.refl _ _).alloc (Nat.le_refl _) _
 obtain ⟨w1, hw1⟩ : ∃ w1, w1 = w.alloc (.cells #[.string (ba l), .int .i64 0, .int .i64 0] 81) := ⟨_, rfl⟩
 rw [← hw1] at hr1 hb1 ⊢
 clear hw1
 refine (rnum_m _ l ⟨l, 0⟩ (by omega) _ hr1).mono ?_
 rintro e w2 ⟨rfl, hr2, ho2⟩
 rw [← HV.out]
 rw [← HS.out] at hr2
 have hb2 := below_only hb1 ho2 hb1.size (Nat.le_refl _)
 have hce := refS_err0 hr2
 have hca := refS_at0 hr2
 clear hr1 hb1 ho2
 by_cases he : s.e = 0
 ·have hee : (s.e != 0) = false := by rw [he]; rfl
  have HE0 := Lib.hid he
  have hwu : IntKind.u64.wrap (N : Int) = (N : Int) := by rw [IntKind.wrap_u64]; omega
  clear he
  by_cases hfar : N < v
  ·have hfar2 : (N : Int) < (v : Int) := by omega
   have hres2 : res = ([], 10) := by
    have h1 := HRK.out
    rw [if_neg (by rw [HE0.out]; simp), if_pos hfar] at h1
    rw [HRES.out, h1, decT_e1 (by simp)]
   have HRES2 := Lib.hid hres2
   clear hres2
   go_wp2_with fail
   go_ret2
   rw [HRES2.out]
   exact sEnd_nil hb2
  ·have hfar2 : ¬ (N : Int) < (v : Int) := by omega
   have tf1 : decide (N < v) = false := by simp; omega
   have tf2 : decide ((N : Int) < (v : Int)) = false := by simp; omega
   have hres2 : tks l most v ((l.length - s.l.length : Nat) : Int) [] = r := by
    have := HRK.out
    rw [if_neg (by rw [HE0.out]; simp), if_neg hfar] at this
    exact this.symm
   have HRES2 := Lib.hid hres2
   have hvN : v ≤ 4096 := by omega
   have hend : (l.length : Int) - (s.l.length : Int) = ((l.length - s.l.length : Nat) : Int) := by omega
   obtain ⟨K0, hK0⟩ : ∃ K0, K0 = l.length - s.l.length := ⟨_, rfl⟩
   rw [← hK0] at hend HRES2
   rw [hend] at hca
   have hK0l : K0 ≤ l.length := by omega
   clear hres2 hfar hK0 hsl hend
   go_wp2_with fail
   go_loopg [10, 11, 12] v (fun m sl to i wr => ∃ (i' K : Nat) (out : List Tx), i = .int .u64 (i' : Int) ∧ v - i' ≤ m ∧ i' ≤ v ∧ (∃ A1 c1, sl = .slice A1 i' c1) ∧ out.length = i' ∧ to = .int .i64 (K : Int) ∧ K ≤ l.length ∧ tks l most (v - i') (K : Int) out = r ∧ wr.ownsRow w.heap.size 9 1 sl i' (svs out) ∧ Below w.heap.size w wr)
   case atStart => exact ⟨0, K0, [], rfl, Nat.le_refl _, Nat.zero_le _, ⟨none, 0, rfl⟩, rfl, rfl, hK0l, HRES2.out, World.ownsRow_nil _ _ _ _, hb2⟩
   case round =>
    clear hb2 hK0l hce hca hr2
    obtain ⟨i', K, out, rfl, hmm, hiv, ⟨A1, c1, rfl⟩, hol, rfl, hK, htk, hown, hb⟩ := hrel
    have hb0 := hb.size
    have HTK := Lib.hid htk
    have HOL := Lib.hid hol
    clear htk hol
    by_cases hlt : i' < v
    ·obtain ⟨c, hc⟩ : ∃ c, v - i' = c + 1 := ⟨v - i' - 1, by omega⟩
     rcases tk_two l K most hK with ⟨er, he, h1⟩ | ⟨t, u, h1, hu, -, -, -, -⟩
     ·have hres2 : res = ([], er) := by rw [HRES.out, ← HTK.out, hc, tks_err h1 he, decT_e1 he]
      have HRES2 := Lib.hid hres2
      have hee : (er != 0) = true := by simpa using he
      have H1 := Lib.hid h1
      clear hres2 he h1 hc
      go_wp2_with fail
      refine (rwtake_k [] 0 er H1.out (by omega) hm _).mono ?_
      rintro e w5 ⟨rfl, hm5⟩
      go_wp2_with fail
      go_ret2
      rw [HRES2.out]
      exact sEnd_nil (hb.trans (hm5.mono hb0))
     ·have hres2 : tks l most (v - (i' + 1)) (u : Int) (out ++ [t]) = r := by rw [← HTK.out, hc, tks_next h1, show v - (i' + 1) = c by omega]
      have HRES2 := Lib.hid hres2
      have H1 := Lib.hid h1
      have hic : i' ≤ 4096 := by omega
      clear hres2 h1 hc
      go_wp2_with fail
      refine (rwtake_k t (u : Int) 0 H1.out (by omega) hm _).mono ?_
      rintro e w5 ⟨rfl, hm5⟩
      have hown5 : w5.ownsRow w.heap.size 9 1 (.slice A1 i' c1) i' (svs out) := hown.kept (row := none) ⟨hm5.os, hm5.tape, hm5.output, hm5.size, fun k hk _ => hm5.block k hk⟩ (by cases h : (Value.slice A1 i' c1).ownBlock <;> simp)
      have hb5 := hb.trans (hm5.mono hb0)
      have hb50 := hb5.size
      clear hown hb hm5 hb0
      go_wp2_with (at_builtin; refine wpList_append_own _ rfl _ _ 64 rfl w.heap.size 9 i0 (.string ByteArray.empty) 1 16 Tryz.underlying64 hi hz0 hz1 hz2 rfl (by decide) _ _ _ rfl (hown5.alloc _) ⟨w5.heap.size, 0, none⟩ 1 1 [.string (ba t)] rfl rfl (cell_one_new _ _ _) (by simp [Value.oneCell']) (by unfold maxLen; omega) (by omega) (by simp; omega) ?_; intro v' w6 hown6 hgrow6 _)
      have hb6 := Dl.below_ownI hb5 hb50 hown5 hgrow6
      obtain ⟨g', cap', rfl⟩ := ownsRow_succ hown6
      clear hown5 hb5 hgrow6
      go_roundg (v - (i' + 1))
      case rel => exact ⟨i' + 1, u, out ++ [t], by go_num, Nat.le_refl _, by omega, ⟨_, _, rfl⟩, by rw [List.length_append, HOL.out]; rfl, rfl, hu, HRES2.out, by rw [svs_snoc]; exact hown6, hb6⟩
      case measure => omega
    ·obtain rfl : i' = v := by omega
     have hrr : r = (out, (K : Int), 0) := by rw [← HTK.out, Nat.sub_self, tks_zero]
     obtain ⟨A3, c3, hA3, hat3, -, -⟩ := own_at hown
     cases hA3
     obtain ⟨k1, hk1⟩ : ∃ k1, k1 = c1 := ⟨_, rfl⟩
     rw [← hk1]
     obtain ⟨q1, q2, -⟩ := tkW_ok (HR.out.symm.trans hrr)
     have HRR := Lib.hid hrr
     have hRS : res = decT l N (out, (K : Int), 0) := by rw [HRES.out, hrr]
     have HRES := Lib.hid hRS
     have hol := HOL.out
     have hb1 := hb
     have HAT1 := Lib.hid hat3
     obtain ⟨W, hW⟩ : ∃ W, W = out := ⟨_, rfl⟩
     rw [← hW] at HRES HAT1 hol q1
     obtain ⟨u, hu⟩ : ∃ u, u = K := ⟨_, rfl⟩
     rw [← hu] at HRES ⊢
     have huL : u ≤ l.length := by omega
     have hWl : W.length ≤ 100000 := by omega
     have hext := extract_drop l u
     have hdl : (l.drop u).length ≤ 100000 := by rw [List.length_drop]; omega
     rw [← hol]
     clear hrr hRS hown hat3 hk1 hW hu hb hb0 hlt hiv hol
     obtain ⟨S, hS⟩ : ∃ S, S = l.drop u := ⟨_, rfl⟩
     rw [← hS] at hext hdl
     have HS := Lib.hid hS
     obtain ⟨d, hd⟩ : ∃ d, d = decU S (N : Int) := ⟨_, rfl⟩
     have hdsh : d.1.length ≤ 4096 := by rw [hd]; exact decU_short _ _
     have HD := Lib.hid hd
     clear q1 q2 hS hd
     go_wp2_with fail
     refine (urdecode_c S (N : Int) (by omega) (by omega) hdl _).mono ?_
     rintro e w2 ⟨A2, k2, rfl, -, -, hat2, hm2⟩
     rw [← HD.out] at hat2 ⊢
     have HAT2 := Lib.hid hat2
     have HAT1 := Lib.hid (HAT1.out.keep hm2)
     have hb2 := hb1.trans (hm2.mono hb1.size)
     clear hat2 hm2 hb1
     by_cases he2 : d.2 = 0
     ·have hee : (d.2 != 0) = false := by rw [he2]; rfl
      have HE2 := Lib.hid he2
      clear he2
      go_wp2_with fail
      refine (rmayD_c A1 A2 k1 k2 W d.1 hWl (by omega) _ HAT1.out HAT2.out).mono ?_
      rintro e w3 ⟨rfl, hm3⟩
      have HAT1 := Lib.hid (HAT1.out.keep hm3)
      have HAT2 := Lib.hid (HAT2.out.keep hm3)
      have hb3 := hb2.trans (hm3.mono hb2.size)
      clear hm3 hb2
      cases hmay : mayW W d.1
      ·have hres2 : res = ([], 5) := by
        rw [HRES.out]
        refine decT_no ?_ ?_
        ·rw [← HS.out, ← HD.out]; exact HE2.out
        ·rw [← HS.out, ← HD.out]; exact hmay
       have HRES2 := Lib.hid hres2
       clear hres2 hmay
       go_wp2_with fail
       go_ret2
       rw [HRES2.out]
       exact sEnd_nil hb3
      ·have hres2 : res = ((pk W [] d.1).1, 0) := by
        rw [HRES.out]
        have := decT_ok (W := W) (show (decU (l.drop u) N).2 = 0 by rw [← HS.out, ← HD.out]; exact HE2.out) (by rw [← HS.out, ← HD.out]; exact hmay)
        rw [this, ← HS.out, ← HD.out]
       have HRES2 := Lib.hid hres2
       clear hres2 hmay
       go_wp2_with fail
       refine (rpick_c A1 A2 k1 k2 W d.1 hWl (by omega) _ HAT1.out HAT2.out).mono ?_
       rintro e w4 ⟨A4, k4, rfl, hcp4, hfr4, hat4, hm4⟩
       obtain ⟨P, hP⟩ : ∃ P, P = pk W [] d.1 := ⟨_, rfl⟩
       rw [← hP] at hcp4 hat4 HRES2 ⊢
       have hb4 := hb3.trans (hm4.mono hb3.size)
       have HF4 := Lib.hid hfr4
       have HB3 := Lib.hid hb3.size
       have HAT4 := Lib.hid hat4
       clear hm4 hb3 hfr4 hat4 hP
       go_wp2_with fail
       go_ret2
       rw [HRES2.out]
       exact ⟨_, _, rfl, hcp4, fun a h => Nat.le_trans HB3.out (HF4.out a h), HAT4.out, hb4⟩
     ·have hee : (d.2 != 0) = true := by simpa using he2
      have hres2 : res = ([], d.2) := by
       rw [HRES.out]
       have := decT_e2 (W := W) (show (decU (l.drop u) N).2 ≠ 0 by rw [← HS.out, ← HD.out]; exact he2)
       rw [this, ← HS.out, ← HD.out]
      have HRES2 := Lib.hid hres2
      clear hres2 he2
      go_wp2_with fail
      go_ret2
      rw [HRES2.out]
      exact sEnd_nil hb2
 ·have hee : (s.e != 0) = true := by simpa using he
  have hres2 : res = ([], s.e) := by
   have h1 := HRK.out
   rw [if_pos he] at h1
   rw [HRES.out, h1, decT_e1 he]
  have HRES2 := Lib.hid hres2
  clear hres2 he
  go_wp2_with fail
  go_quiet (fail)
  go_wp2_with fail
  go_ret2
  rw [HRES2.out]
  exact sEnd_nil (below_drewN hb2 _)
end Dt
end Go.Proofs.YtojhenpaeedimaaGreat
end
section
namespace Go.Proofs.YtojhenpaeedimaaGreat
open Dl Ru
namespace Dt
open Go.RowKit Go.IntWalk
open Pk Dc Wd
set_option maxRecDepth 100000
attribute [local go_sem] Oper.semAt_some
theorem dencode_k {A : Option Addr} {cap n : Nat} (l : List Tx) (s : List UInt8) (hs : encD l = s) (hn : l.length = n) (hx : n ≤ 100000) (hts : ∀ t ∈ l, t.length ≤ 100000) {w : World} (hc : At w w.heap.size A (svs l)) :
  Calls Tryz.prog 45 #[.slice A n cap] w fun e w' => e = .returned (.string (ba s)) ∧ Below w.heap.size w w' := by
 subst hn; subst hs; exact dencode_c A cap l hx hts w hc
namespace live8
end live8
end Dt
end Go.Proofs.YtojhenpaeedimaaGreat
end
