/-
 Decode of runs, the program's.
 Decode of runs, the document's.
-/
import Derived.Test.YtojhenpaeedimaaGreatDe
import Derived.Test.YtojhenpaeedimaaGreatQh
import Derived.Test.YtojhenpaeedimaaGreatDg
section
namespace Go.Proofs.YtojhenpaeedimaaGreat
open Dl
namespace Ru
open Go.RowKit Go.IntWalk
open Pk
set_option maxRecDepth 100000
attribute [local go_sem] Oper.semAt_some
theorem dc_end {f : Nat} {out : List Nat} {n : Int} {s : St} (h : s.l = []) : dcR (f + 1) s out n = if (out.length : Int) < n then ([], 5) else (out, 0) := by rw [dcR, if_pos h]
theorem dc_err {f : Nat} {out : List Nat} {n : Int} {s : St} (h : s.l ≠ []) (he : (numS (numS s)).e ≠ 0) : dcR (f + 1) s out n = ([], (numS (numS s)).e) := by rw [dcR, if_neg h, if_pos he]
theorem dc_bad {f : Nat} {out : List Nat} {n : Int} {s : St} (h : s.l ≠ []) (he : (numS (numS s)).e = 0) (hb : numV (numS s) = 0 ∨ n - out.length < (numV (numS s) : Int) ∨ lastOf out = some (numV s)) : dcR (f + 1) s out n = ([], 5) := by
 rw [dcR, if_neg h, if_neg (by omega), if_pos hb]
theorem dc_next {f : Nat} {out : List Nat} {n : Int} {s : St} (h : s.l ≠ []) (he : (numS (numS s)).e = 0) (hb : ¬ (numV (numS s) = 0 ∨ n - out.length < (numV (numS s) : Int) ∨ lastOf out = some (numV s))) :
  dcR (f + 1) s out n = dcR f (numS (numS s)) (out ++ List.replicate (numV (numS s)) (numV s)) n := by
 rw [dcR, if_neg h, if_neg (by omega), if_neg hb]
theorem num2_len {ls : List UInt8} (h : (numS (numS ⟨ls, 0⟩)).e = 0) : (numS (numS ⟨ls, 0⟩)).l.length < ls.length := by
 have h1 : (numS ⟨ls, 0⟩).e = 0 := by
  rcases Decidable.em ((numS ⟨ls, 0⟩).e = 0) with h1 | h1
  ·exact h1
  ·rw [(num_err h1).2] at h; exact h
 have := (num_zero h1).2
 have := numS_len (numS ⟨ls, 0⟩)
 omega
theorem last_at {out : List Nat} {j : Nat} (h : out.length = j + 1) : ∃ y, out[j]? = some y ∧ lastOf out = some y := by
 obtain ⟨y, hy⟩ := some_at (show j < out.length by omega)
 exact ⟨y, hy, by rw [lastOf, List.getLast?_eq_getElem?, h]; exact hy⟩
theorem last_nil {out : List Nat} (h : out.length = 0) : lastOf out = none := by
 rw [List.eq_nil_of_length_eq_zero h]; rfl
theorem rdr_not {w w' : World} {q g : Nat} {s : St} (h : Rdr w q s) (hg : w.grownBy w' (some g)) (hne : q ≠ g) : Rdr w' q s :=
 (hg.block q (is_lt h) (fun e => hne (by injection e))).trans h
theorem own_not {w w' : World} {base g q size n k cap : Nat} {e : TypeId} {xs : List Value} (h : w.ownsRow base e size (.slice (some ⟨g, 0, none⟩) k cap) n xs) (ho : w.grownBy w' (some q)) (hq : g ≠ q) : w'.ownsRow base e size (.slice (some ⟨g, 0, none⟩) k cap) n xs :=
 h.kept ho (.inr (by simpa [Value.ownBlock] using hq))
set_option maxHeartbeats 8000000 in
theorem udecode_c (l : List UInt8) (n : Int) (hn1 : -9223372036854775808 ≤ n) (hn2 : n ≤ 9223372036854775807) (hl : l.length ≤ 100000) (w : World) :
  Calls Tryz.prog 128 #[.string (ba l), .int .i64 n] w (LstEnd (decU l n).1 (.int .i64 (decU l n).2) w) := by
 have hs := ba_size l
 rcases Int.lt_or_le n 0 with hneg | hpos
 ·rw [decU_neg hneg]
  go_enter Tryz.func128, Tryz.ntmps128
  go_wp2_with fail
  go_ret2
  exact lstEnd_nil (Below.refl _ _)
 rcases Int.lt_or_le 4096 n with hfar | hin
 ·rw [decU_big hfar]
  go_enter Tryz.func128, Tryz.ntmps128
  go_wp2_with fail
  go_ret2
  exact lstEnd_nil (Below.refl _ _)
 obtain ⟨N, rfl⟩ := Int.eq_ofNat_of_zero_le hpos
 have hN : N ≤ 4096 := by omega
 obtain ⟨res, hres⟩ : ∃ res, res = decU l (N : Int) := ⟨_, rfl⟩
 have hr0 := hres
 rw [decU_in hpos hin] at hr0
 have HR0 := Lib.hid hr0
 rw [← hres]
 obtain ⟨i0, hi, hz0, hz1, hz2⟩ := info_parts Tryz.info62
 have hbx : i0.bytes * N ≤ 281474976710656 := by rw [hz2]; omega
 have hmx : N ≤ maxLen := by unfold maxLen; omega
 have t1 : decide ((N : Int) < 0) = false := by simp
 have t2 : decide ((4096 : Int) < (N : Int)) = false := by simp; omega
 clear hres hr0 hpos hin hn1 hn2
 go_enter Tryz.func128, Tryz.ntmps128
 go_wp2_with (at_make; refine wpList_make_own _ rfl _ _ 60 rfl w.heap.size 62 i0 (.int .u64 0) 1 Tryz.underlying60 hi hz0 hz1 .i64 .i64 _ N rfl rfl rfl hbx hmx (Nat.le_refl _) ?_; intro w1 hown1 hgrow1)
 have hb1 := (Below.refl w.heap.size w).grown hgrow1 (Nat.le_refl _) (fun k e => by cases e)
 have hgl := (hown1.lt w.heap.size rfl).2
 refine (new_c l _).mono ?_
 rintro e w2 ⟨rfl, hr2, hw2⟩
 have hown2 : w2.ownsRow w.heap.size 62 1 (.slice (some ⟨w.heap.size, 0, none⟩) 0 N) 0 [] := by rw [hw2]; exact hown1.alloc _
 have hb2 : Below w.heap.size w w2 := by rw [hw2]; exact hb1.alloc hb1.size _
 obtain ⟨q, hq⟩ : ∃ q, q = w1.heap.size := ⟨_, rfl⟩
 rw [← hq] at hr2 ⊢
 have hgq : w.heap.size ≠ q := by omega
 have hgq2 : w.heap.size ≤ q := by omega
 clear hw2 hown1 hgrow1 hb1 hgl hq hbx hmx
 go_wp2_with fail
 go_loopg [6] l.length (fun m sl wr => ∃ (ls : List UInt8) (out : List Nat) (f : Nat), ls.length ≤ m ∧ sl = .slice (some ⟨w.heap.size, 0, none⟩) out.length N ∧ ls.length < f ∧ res = dcR f ⟨ls, 0⟩ out (N : Int) ∧ out.length ≤ N ∧ Rdr wr q ⟨ls, 0⟩ ∧ wr.ownsRow w.heap.size 62 1 (.slice (some ⟨w.heap.size, 0, none⟩) out.length N) out.length (uvs out) ∧ Below w.heap.size w wr ∧ ls.length ≤ 100000)
 case atStart => exact ⟨l, [], l.length + 1, Nat.le_refl _, rfl, Nat.lt_succ_self _, HR0.out, Nat.zero_le _, hr2, hown2, hb2, hl⟩
 case round =>
  clear hr2 hown2 hb2
  obtain ⟨ls, out, f, hm, rfl, hf, hres, hoN, hr, hown, hb, hll⟩ := hrel
  obtain ⟨f, rfl⟩ : ∃ f', f = f' + 1 := ⟨f - 1, by omega⟩
  have HRES := Lib.hid hres
  clear hres
  have hb0 := hb.size
  by_cases hemp : ls.length = 0
  ·have he : ls = [] := List.eq_nil_of_length_eq_zero hemp
   subst he
   by_cases hlt : out.length < N
   ·have t3 : decide ((out.length : Int) < (N : Int)) = true := by simp [hlt]
    have HL := Lib.hid hlt
    clear hlt
    go_wp2_with (go_at_call 53; refine (left_c q ⟨[], 0⟩ _ hr).mono ?_; rintro e wz ⟨rfl, rfl⟩)
    go_ret2
    have hre := HRES.out
    rw [dc_end rfl, if_pos (by have := HL.out; omega)] at hre
    rw [hre]
    exact lstEnd_nil hb
   ·have t3 : decide ((out.length : Int) < (N : Int)) = false := by simp; omega
    have HL := Lib.hid hlt
    obtain ⟨A', cap', hA, ha, hfr, hcp⟩ := own_at hown
    cases hA
    clear hlt hown
    go_wp2_with (go_at_call 53; refine (left_c q ⟨[], 0⟩ _ hr).mono ?_; rintro e wz ⟨rfl, rfl⟩)
    go_ret2
    have hre := HRES.out
    rw [dc_end rfl, if_neg (by have := HL.out; omega)] at hre
    rw [hre]
    exact ⟨_, _, rfl, hcp, hfr, ha, hb⟩
  ·have hlp : (0 : Int) < (ls.length : Int) := by omega
   have t3 : decide (0 < ls.length) = true := by simp; omega
   have hne : ls ≠ [] := fun e => hemp (by rw [e]; rfl)
   have HNE := Lib.hid hne
   clear hne hemp
   go_wp2_with fail
   refine (left_c q ⟨ls, 0⟩ _ hr).mono ?_
   rintro e wz ⟨rfl, rfl⟩
   go_wp2_with fail
   refine (num_m q ⟨ls, 0⟩ _ hr).mono ?_
   rintro e w3 ⟨rfl, hr3, ho3⟩
   have hown3 := own_not hown ho3 hgq
   have hb3 := below_only hb ho3 hb0 hgq2
   clear hr hown hb ho3 hb0
   have hb30 := hb3.size
   go_wp2_with fail
   refine (num_m q _ _ hr3).mono ?_
   rintro e w4 ⟨rfl, hr4, ho4⟩
   have hown4 := own_not hown3 ho4 hgq
   have hb4 := below_only hb3 ho4 hb30 hgq2
   have hb40 := hb4.size
   clear hr3 hown3 hb3 ho4 hb30
   have hlen2 := @num2_len ls
   have hde := @dc_err f out (N : Int) ⟨ls, 0⟩ HNE.out
   have hdb := @dc_bad f out (N : Int) ⟨ls, 0⟩ HNE.out
   have hdn := @dc_next f out (N : Int) ⟨ls, 0⟩ HNE.out
   obtain ⟨v, hv⟩ : ∃ v, v = numV ⟨ls, 0⟩ := ⟨_, rfl⟩
   obtain ⟨c, hc⟩ : ∃ c, c = numV (numS ⟨ls, 0⟩) := ⟨_, rfl⟩
   obtain ⟨s2, hs2⟩ : ∃ s2, s2 = numS (numS ⟨ls, 0⟩) := ⟨_, rfl⟩
   rw [← hv, ← hc, ← hs2] at hdb hdn
   rw [← hs2] at hde hlen2 hr4
   rw [← hv, ← hc]
   have HDE := Lib.hid hde
   have HDB := Lib.hid hdb
   have HDN := Lib.hid hdn
   have HLEN := Lib.hid hlen2
   clear hv hc hs2 hde hdb hdn hlen2
   go_wp2_with fail
   refine (err_c q s2 _ hr4).mono ?_
   rintro e wz ⟨rfl, rfl⟩
   by_cases he : s2.e = 0
   ·have hee : (s2.e != 0) = false := by rw [he]; rfl
    have HE0 := Lib.hid he
    clear he
    by_cases hc0 : c = 0
    ·have hz : ((c : Int) == 0) = true := by rw [hc0]; rfl
     have HC0 := Lib.hid hc0
     clear hc0
     go_wp2_with fail
     go_ret2
     have hre := HRES.out
     rw [HDB.out HE0.out (.inl HC0.out)] at hre
     rw [hre]
     exact lstEnd_nil hb4
    ·have hz : ((c : Int) == 0) = false := by simp; omega
     have hdif : IntKind.u64.wrap ((N : Int) - (out.length : Int)) = (N : Int) - (out.length : Int) := by rw [IntKind.wrap_u64]; omega
     have HC0 := Lib.hid hc0
     clear hc0
     by_cases hfar : (N : Int) - (out.length : Int) < (c : Int)
     ·have t4 : decide ((N : Int) - (out.length : Int) < (c : Int)) = true := by simp [hfar]
      have HF := Lib.hid hfar
      clear hfar
      go_wp2_with fail
      go_ret2
      have hre := HRES.out
      rw [HDB.out HE0.out (.inr (.inl HF.out))] at hre
      rw [hre]
      exact lstEnd_nil hb4
     ·have t4 : decide ((N : Int) - (out.length : Int) < (c : Int)) = false := by simp; omega
      have hcN : out.length + c ≤ N := by omega
      have hcw : IntKind.i64.wrap (c : Int) = (c : Int) := IntWalk.i64_in _ (by omega)
      have hgl4 := (hown4.lt w.heap.size rfl).2
      have HF := Lib.hid hfar
      clear hfar
      by_cases ho : out.length = 0
      ·obtain rfl : out = [] := List.eq_nil_of_length_eq_zero ho
       have t5 : decide (N < c) = false := decide_eq_false (by simp at hcN; omega)
       have hcN' : 0 + c ≤ N := by simpa using hcN
       clear ho hoN hcN hdif t4
       go_wp2_with fail
       refine (lay_c w.heap.size w.heap.size 0 N v c ([] : List Nat) (by omega) (by omega) (by omega) _ hgl4 hown4).mono ?_
       rintro e w5 ⟨rfl, hown5, ho5⟩
       have hr5 := rdr_not hr4 ho5 (fun e => hgq e.symm)
       have hb5 := hb4.grown ho5 hb40 (fun k hk => by cases hk; exact Nat.le_refl _)
       clear hown4 ho5 hr4 hb4 hb40 hgl4
       go_wp2_with fail
       go_roundg s2.l.length
       case measure => have := HLEN.out HE0.out; omega
       case rel =>
        have hl2 := HLEN.out HE0.out
        have hE0 := HE0.out
        have hss : s2 = ⟨s2.l, 0⟩ := by cases s2; simp only at hE0; subst hE0; rfl
        have hlen : (([] : List Nat) ++ List.replicate c v).length = 0 + c := by rw [List.length_append, List.length_replicate, List.length_nil]
        refine ⟨s2.l, ([] : List Nat) ++ List.replicate c v, f, Nat.le_refl _, by first | (rw [hlen]; done) | rw [hlen, Nat.zero_add], by omega, ?_, by rw [hlen]; omega, by rw [← hss]; exact hr5, by rw [hlen]; exact hown5, hb5, by omega⟩
        rw [← hss, ← HDN.out HE0.out (by rintro (h | h | h); exact HC0.out h; exact absurd h (by have := HF.out; omega); rw [last_nil rfl] at h; cases h)]
        exact HRES.out
      ·obtain ⟨j, hj⟩ : ∃ j, out.length = j + 1 := ⟨out.length - 1, by omega⟩
       obtain ⟨y, hy, hla⟩ := last_at hj
       have hcell : w4.cell? ⟨w.heap.size, j, none⟩ = some (.int .u64 (y : Int)) := (hown4.cellAt j (by omega)).trans (uvs_at hy)
       have hjw : IntKind.i64.wrap (j : Int) = (j : Int) := by rw [i64_left]; exact wrap64_in _ (by omega)
       have HLA := Lib.hid hla
       rw [hj] at hown4 hdif t4 hcN ⊢
       have HJ := Lib.hid hj
       have hj1 : decide ((0 : Int) < (j : Int) + 1) = true := by simp
       clear ho hy hla
       by_cases hyv : y = v
       ·have hee2 : ((v : Int) == (y : Int)) = true := by rw [hyv]; simp
        have HYV := Lib.hid hyv
        clear hyv
        go_wp2_with fail
        go_ret2
        have hre := HRES.out
        rw [HDB.out HE0.out (.inr (.inr (by rw [HLA.out, HYV.out])))] at hre
        rw [hre]
        exact lstEnd_nil hb4
       ·have hee2 : ((v : Int) == (y : Int)) = false := by simp; omega
        have HYV := Lib.hid hyv
        clear hyv
        go_wp2_with fail
        refine (lay_c w.heap.size w.heap.size (j + 1) N v c out (by omega) (by omega) (by omega) _ hgl4 hown4).mono ?_
        rintro e w5 ⟨rfl, hown5, ho5⟩
        have hr5 := rdr_not hr4 ho5 (fun e => hgq e.symm)
        have hb5 := hb4.grown ho5 hb40 (fun k hk => by cases hk; exact Nat.le_refl _)
        clear hown4 ho5 hr4 hb4 hb40 hgl4
        go_wp2_with fail
        go_roundg s2.l.length
        case measure => have := HLEN.out HE0.out; omega
        case rel =>
         have hl2 := HLEN.out HE0.out
         have hE0 := HE0.out
         have hss : s2 = ⟨s2.l, 0⟩ := by cases s2; simp only at hE0; subst hE0; rfl
         have hlen : (out ++ List.replicate c v).length = (j + 1) + c := by rw [List.length_append, List.length_replicate, HJ.out]
         refine ⟨s2.l, out ++ List.replicate c v, f, Nat.le_refl _, by first | (rw [hlen]; done) | rw [hlen, Nat.zero_add], by omega, ?_, by rw [hlen]; omega, by rw [← hss]; exact hr5, by rw [hlen]; exact hown5, hb5, by omega⟩
         rw [← hss, ← HDN.out HE0.out (by rintro (h | h | h); exact HC0.out h; exact absurd h (by have := HF.out; omega); rw [HLA.out] at h; injection h with h; exact HYV.out h)]
         exact HRES.out
   ·have hee : (s2.e != 0) = true := by simpa using he
    have HE0 := Lib.hid he
    clear he
    go_wp2_with fail
    go_ret2
    have hre := HRES.out
    rw [HDE.out HE0.out] at hre
    rw [hre]
    exact lstEnd_nil hb4
end Ru
end Go.Proofs.YtojhenpaeedimaaGreat
end
section
namespace Go.Proofs.YtojhenpaeedimaaGreat
open Dl
namespace Ru
open Go.RowKit Go.IntWalk
open Pk
set_option maxRecDepth 100000
attribute [local go_sem] Oper.semAt_some
set_option maxHeartbeats 8000000 in
theorem urdecode_c (l : List UInt8) (n : Int) (hn1 : -9223372036854775808 ≤ n) (hn2 : n ≤ 9223372036854775807) (hl : l.length ≤ 100000) (w : World) :
  Calls Tryz.prog 73 #[.string (ba l), .int .i64 n] w (LstEnd (decU l n).1 (.int .i64 (decU l n).2) w) := by
 have hs := ba_size l
 rcases Int.lt_or_le n 0 with hneg | hpos
 ·rw [decU_neg hneg]
  go_enter Tryz.func73, Tryz.ntmps73
  go_wp2_with fail
  go_ret2
  exact lstEnd_nil (Below.refl _ _)
 rcases Int.lt_or_le 4096 n with hfar | hin
 ·rw [decU_big hfar]
  go_enter Tryz.func73, Tryz.ntmps73
  go_wp2_with fail
  go_ret2
  exact lstEnd_nil (Below.refl _ _)
 obtain ⟨N, rfl⟩ := Int.eq_ofNat_of_zero_le hpos
 have hN : N ≤ 4096 := by omega
 obtain ⟨res, hres⟩ : ∃ res, res = decU l (N : Int) := ⟨_, rfl⟩
 have hr0 := hres
 rw [decU_in hpos hin] at hr0
 have HR0 := Lib.hid hr0
 rw [← hres]
 obtain ⟨i0, hi, hz0, hz1, hz2⟩ := info_parts Tryz.info62
 have t1 : decide ((N : Int) < 0) = false := by simp
 have t2 : decide ((4096 : Int) < (N : Int)) = false := by simp; omega
 clear hres hr0 hpos hin hn1 hn2
 go_enter Tryz.func73, Tryz.ntmps73
 go_wp2_with fail
 have hr1 : Ref (w.alloc (.cells #[.string (ba l), .int .i64 0, .int .i64 0] 81)) w.heap.size l ⟨l, 0⟩ := ref_mk (Nat.zero_le _) rfl (is_new w 81 [.string (ba l), .int .i64 0, .int .i64 0])
 have hb1 : Below w.heap.size w (w.alloc (.cells #[.string (ba l), .int .i64 0, .int .i64 0] 81)) := (Below.refl _ _).alloc (Nat.le_refl _) _
 obtain ⟨w1, hw1⟩ : ∃ w1, w1 = w.alloc (.cells #[.string (ba l), .int .i64 0, .int .i64 0] 81) := ⟨_, rfl⟩
 have hsz1 : w1.heap.size = w.heap.size + 1 := by rw [hw1]; simp
 rw [← hw1] at hr1 hb1 ⊢
 clear hw1
 go_loopg [7] l.length (fun m sl wr => ∃ (ls : List UInt8) (out : List Nat) (f : Nat), ls.length ≤ m ∧ (∃ A cap, sl = .slice A out.length cap) ∧ ls.length < f ∧ res = dcR f ⟨ls, 0⟩ out (N : Int) ∧ out.length ≤ N ∧ Ref wr w.heap.size l ⟨ls, 0⟩ ∧ wr.ownsRow w1.heap.size 62 1 sl out.length (uvs out) ∧ Below w.heap.size w wr ∧ w1.heap.size ≤ wr.heap.size ∧ ls.length ≤ 100000)
 case atStart => exact ⟨l, [], l.length + 1, Nat.le_refl _, ⟨none, 0, rfl⟩, Nat.lt_succ_self _, HR0.out, Nat.zero_le _, hr1, World.ownsRow_nil _ _ _ _, hb1, Nat.le_refl _, hl⟩
 case round =>
  clear hr1 hb1
  obtain ⟨ls, out, f, hm, ⟨A, cap, rfl⟩, hf, hres, hoN, hr, hown, hb, hws, hll⟩ := hrel
  obtain ⟨f, rfl⟩ : ∃ f', f = f' + 1 := ⟨f - 1, by omega⟩
  have HRES := Lib.hid hres
  clear hres
  have hb0 := hb.size
  by_cases hemp : ls.length = 0
  ·have he : ls = [] := List.eq_nil_of_length_eq_zero hemp
   subst he
   by_cases hlt : out.length < N
   ·have t3 : decide ((out.length : Int) < (N : Int)) = true := by simp [hlt]
    have HL := Lib.hid hlt
    clear hlt
    go_wp2_with (go_at_call 56; refine (rleft_m _ l ⟨[], 0⟩ (by omega) _ hr).mono ?_; rintro e wz ⟨rfl, q1, rfl⟩)
    go_ret2
    have hre := HRES.out
    rw [dc_end rfl, if_pos (by have := HL.out; omega)] at hre
    rw [hre]
    exact lstEnd_nil (below_drewN hb _)
   ·have t3 : decide ((out.length : Int) < (N : Int)) = false := by simp; omega
    have HL := Lib.hid hlt
    obtain ⟨A', cap', hA, ha, hfr, hcp⟩ := own_at hown
    cases hA
    clear hlt hown
    go_wp2_with (go_at_call 56; refine (rleft_m _ l ⟨[], 0⟩ (by omega) _ hr).mono ?_; rintro e wz ⟨rfl, q1, rfl⟩)
    go_ret2
    have hre := HRES.out
    rw [dc_end rfl, if_neg (by have := HL.out; omega)] at hre
    rw [hre]
    exact ⟨_, _, rfl, hcp, fun a h => by have := hfr a h; omega, at_drewN' ha _, below_drewN hb _⟩
  ·have t3 : decide (0 < ls.length) = true := by simp; omega
   have hlp : (0 : Int) < (ls.length : Int) := by omega
   have hne : ls ≠ [] := fun e => hemp (by rw [e]; rfl)
   have HNE := Lib.hid hne
   clear hne hemp
   go_wp2_with fail
   refine (rleft_m _ l ⟨ls, 0⟩ (by omega) _ hr).mono ?_
   rintro e w2 ⟨rfl, q1, hw2⟩
   have hr2 : Ref w2 w.heap.size l ⟨ls, 0⟩ := by rw [hw2]; exact ref_drewN' hr q1
   have hown2 : w2.ownsRow w1.heap.size 62 1 (.slice A out.length cap) out.length (uvs out) := by rw [hw2]; exact hown
   have hb2 : Below w.heap.size w w2 := by rw [hw2]; exact below_drewN hb q1
   have hws2 : w1.heap.size ≤ w2.heap.size := by rw [hw2]; exact hws
   clear hr hown hb hws hb0 hw2
   go_wp2_with fail
   refine (rnum_m _ l ⟨ls, 0⟩ (by omega) _ hr2).mono ?_
   rintro e w3 ⟨rfl, hr3, ho3⟩
   have hown3 := own_only hown2 ho3 (by omega)
   have hb3 := below_only hb2 ho3 hb2.size (Nat.le_refl _)
   have hws3 := Nat.le_trans hws2 ho3.size
   clear hr2 hown2 hb2 ho3 hws2
   go_wp2_with fail
   refine (rnum_m _ l _ (by omega) _ hr3).mono ?_
   rintro e w4 ⟨rfl, hr4, ho4⟩
   have hown4 := own_only hown3 ho4 (by omega)
   have hb4 := below_only hb3 ho4 hb3.size (Nat.le_refl _)
   have hws4 := Nat.le_trans hws3 ho4.size
   have hb40 := hb4.size
   clear hr3 hown3 hb3 ho4 hws3
   have hlen2 := @num2_len ls
   have hde := @dc_err f out (N : Int) ⟨ls, 0⟩ HNE.out
   have hdb := @dc_bad f out (N : Int) ⟨ls, 0⟩ HNE.out
   have hdn := @dc_next f out (N : Int) ⟨ls, 0⟩ HNE.out
   obtain ⟨v, hv⟩ : ∃ v, v = numV ⟨ls, 0⟩ := ⟨_, rfl⟩
   obtain ⟨c, hc⟩ : ∃ c, c = numV (numS ⟨ls, 0⟩) := ⟨_, rfl⟩
   obtain ⟨s2, hs2⟩ : ∃ s2, s2 = numS (numS ⟨ls, 0⟩) := ⟨_, rfl⟩
   rw [← hv, ← hc, ← hs2] at hdb hdn
   rw [← hs2] at hde hlen2 hr4
   rw [← hv, ← hc]
   have HDE := Lib.hid hde
   have HDB := Lib.hid hdb
   have HDN := Lib.hid hdn
   have HLEN := Lib.hid hlen2
   have hr4' := hr4
   obtain ⟨k4, -, -, hra⟩ := hr4'
   have hce := ref_e hra
   clear hv hc hs2 hde hdb hdn hlen2 hra
   by_cases he : s2.e = 0
   ·have hee : (s2.e != 0) = false := by rw [he]; rfl
    have HE0 := Lib.hid he
    clear he
    by_cases hc0 : c = 0
    ·have hz : ((c : Int) == 0) = true := by rw [hc0]; rfl
     have HC0 := Lib.hid hc0
     clear hc0
     go_wp2_with fail
     go_ret2
     have hre := HRES.out
     rw [HDB.out HE0.out (.inl HC0.out)] at hre
     rw [hre]
     exact lstEnd_nil hb4
    ·have hz : ((c : Int) == 0) = false := by simp; omega
     have hdif : IntKind.u64.wrap ((N : Int) - (out.length : Int)) = (N : Int) - (out.length : Int) := by rw [IntKind.wrap_u64]; omega
     have HC0 := Lib.hid hc0
     clear hc0
     by_cases hfar : (N : Int) - (out.length : Int) < (c : Int)
     ·have t4 : decide ((N : Int) - (out.length : Int) < (c : Int)) = true := by simp [hfar]
      have HF := Lib.hid hfar
      clear hfar
      go_wp2_with fail
      go_ret2
      have hre := HRES.out
      rw [HDB.out HE0.out (.inr (.inl HF.out))] at hre
      rw [hre]
      exact lstEnd_nil hb4
     ·have t4 : decide ((N : Int) - (out.length : Int) < (c : Int)) = false := by simp; omega
      have hcN : out.length + c ≤ N := by omega
      have HF := Lib.hid hfar
      clear hfar
      by_cases ho : out.length = 0
      ·obtain rfl : out = [] := List.eq_nil_of_length_eq_zero ho
       have t5 : decide (N < c) = false := decide_eq_false (by simp at hcN; omega)
       have hcN' : 0 + c ≤ N := by simpa using hcN
       clear ho hoN hcN hdif t4
       go_wp2_with fail
       clear hce
       go_loopg [7, 10] c (fun m sl x wr => ∃ i : Nat, x = .int .u64 (i : Int) ∧ c - i ≤ m ∧ i ≤ c ∧ (∃ A cap, sl = .slice A (0 + i) cap) ∧ Ref wr w.heap.size l s2 ∧ wr.ownsRow w1.heap.size 62 1 sl (0 + i) (uvs (([] : List Nat) ++ List.replicate i v)) ∧ Below w.heap.size w wr ∧ w1.heap.size ≤ wr.heap.size)
       case atStart => exact ⟨0, rfl, by omega, Nat.zero_le _, ⟨_, _, rfl⟩, hr4, by simpa using hown4, hb4, hws4⟩
       case round =>
        clear hr4 hown4 hb4 hws4 hb40
        obtain ⟨i, rfl, hmi, hic, ⟨A5, cap5, rfl⟩, hr, hown, hb, hws⟩ := hrel
        have hb0 := hb.size
        have hni : 0 + i ≤ 4096 := by omega
        by_cases hlt : i < c
        ·have hic2 : i ≤ 4096 := by omega
         go_wp2_with (at_builtin; refine wpList_append_own _ rfl _ _ 60 rfl w1.heap.size 62 i0 (.int .u64 0) 1 8 Tryz.underlying60 hi hz0 hz1 hz2 rfl (by decide) _ _ _ rfl (hown.alloc _) ⟨wr.heap.size, 0, none⟩ 1 1 [.int .u64 (v : Int)] rfl rfl (cell_one_new _ _ _) (by simp [Value.oneCell']) (by unfold maxLen; omega) (by omega) (by simp; omega) ?_; intro v' w6 hown' hgrow _)
         have hr6 := ref_new hr hown hgrow (by omega)
         have hb6 := Dl.below_ownI hb hb0 (ownsRow_lower hown (by omega)) hgrow
         obtain ⟨g', cap', rfl⟩ := ownsRow_succ hown'
         have ho6 := own_snocU hown'
         rw [List.append_assoc, ← rep_snoc] at ho6
         have hws6 : w1.heap.size ≤ w6.heap.size := Nat.le_trans hws (by have := hgrow.size; rw [World.size_alloc] at this; omega)
         clear hown hown' hgrow hb hr hws
         go_roundg (c - (i + 1))
         case measure => omega
         case rel => exact ⟨i + 1, by go_num, Nat.le_refl _, by omega, ⟨_, _, by first | rfl | (congr 1; omega)⟩, hr6, by first | exact ho6 | (rw [show 0 + (i + 1) = i + 1 by omega]; simpa using ho6), hb6, hws6⟩
        ·obtain rfl : i = c := by omega
         go_wp2_with fail
         go_roundg s2.l.length
         case measure => have := HLEN.out HE0.out; omega
         case rel =>
          have hl2 := HLEN.out HE0.out
          have hE0 := HE0.out
          have hss : s2 = ⟨s2.l, 0⟩ := by cases s2; simp only at hE0; subst hE0; rfl
          have hlen : (([] : List Nat) ++ List.replicate i v).length = 0 + i := by rw [List.length_append, List.length_replicate, List.length_nil]
          refine ⟨s2.l, ([] : List Nat) ++ List.replicate i v, f, Nat.le_refl _, ⟨A5, cap5, by rw [hlen]⟩, by omega, ?_, by rw [hlen]; omega, by rw [← hss]; exact hr, by rw [hlen]; exact hown, hb, hws, by omega⟩
          rw [← hss, ← HDN.out HE0.out (by rintro (h | h | h); exact HC0.out h; exact absurd h (by have := HF.out; omega); rw [last_nil rfl] at h; cases h)]
          exact HRES.out
      ·obtain ⟨j, hj⟩ : ∃ j, out.length = j + 1 := ⟨out.length - 1, by omega⟩
       obtain ⟨y, hy, hla⟩ := last_at hj
       obtain ⟨A', cap', hA, hat, hfr, -⟩ := own_at hown4
       cases hA
       obtain ⟨b, off, rfl, hbl, hcell⟩ := hat j _ (uvs_at hy)
       have hjw : IntKind.i64.wrap (j : Int) = (j : Int) := by rw [i64_left]; exact wrap64_in _ (by omega)
       have HLA := Lib.hid hla
       rw [hj] at hown4 hdif t4 hcN ⊢
       have HJ := Lib.hid hj
       have hj1 : decide ((0 : Int) < (j : Int) + 1) = true := by simp
       clear ho hy hla hat hfr
       by_cases hyv : y = v
       ·have hee2 : ((y : Int) == (v : Int)) = true := by rw [hyv]; simp
        have HYV := Lib.hid hyv
        clear hyv
        go_wp2_with fail
        go_ret2
        have hre := HRES.out
        rw [HDB.out HE0.out (.inr (.inr (by rw [HLA.out, HYV.out])))] at hre
        rw [hre]
        exact lstEnd_nil hb4
       ·have hee2 : ((y : Int) == (v : Int)) = false := by simp; omega
        have HYV := Lib.hid hyv
        clear hyv
        go_wp2_with fail
        clear hce
        go_loopg [7, 10] c (fun m sl x wr => ∃ i : Nat, x = .int .u64 (i : Int) ∧ c - i ≤ m ∧ i ≤ c ∧ (∃ A cap, sl = .slice A ((j + 1) + i) cap) ∧ Ref wr w.heap.size l s2 ∧ wr.ownsRow w1.heap.size 62 1 sl ((j + 1) + i) (uvs (out ++ List.replicate i v)) ∧ Below w.heap.size w wr ∧ w1.heap.size ≤ wr.heap.size)
        case atStart => exact ⟨0, rfl, by omega, Nat.zero_le _, ⟨_, _, rfl⟩, hr4, by simpa using hown4, hb4, hws4⟩
        case round =>
         clear hr4 hown4 hb4 hws4 hb40
         obtain ⟨i, rfl, hmi, hic, ⟨A5, cap5, rfl⟩, hr, hown, hb, hws⟩ := hrel
         have hb0 := hb.size
         have hni : (j + 1) + i ≤ 4096 := by omega
         by_cases hlt : i < c
         ·have hic2 : i ≤ 4096 := by omega
          go_wp2_with (at_builtin; refine wpList_append_own _ rfl _ _ 60 rfl w1.heap.size 62 i0 (.int .u64 0) 1 8 Tryz.underlying60 hi hz0 hz1 hz2 rfl (by decide) _ _ _ rfl (hown.alloc _) ⟨wr.heap.size, 0, none⟩ 1 1 [.int .u64 (v : Int)] rfl rfl (cell_one_new _ _ _) (by simp [Value.oneCell']) (by unfold maxLen; omega) (by omega) (by simp; omega) ?_; intro v' w6 hown' hgrow _)
          have hr6 := ref_new hr hown hgrow (by omega)
          have hb6 := Dl.below_ownI hb hb0 (ownsRow_lower hown (by omega)) hgrow
          obtain ⟨g', cap', rfl⟩ := ownsRow_succ hown'
          have ho6 := own_snocU hown'
          rw [List.append_assoc, ← rep_snoc] at ho6
          have hws6 : w1.heap.size ≤ w6.heap.size := Nat.le_trans hws (by have := hgrow.size; rw [World.size_alloc] at this; omega)
          clear hown hown' hgrow hb hr hws
          go_roundg (c - (i + 1))
          case measure => omega
          case rel => exact ⟨i + 1, by go_num, Nat.le_refl _, by omega, ⟨_, _, by first | rfl | (congr 1; omega)⟩, hr6, by first | exact ho6 | (rw [show (j + 1) + (i + 1) = i + 1 by omega]; simpa using ho6), hb6, hws6⟩
         ·obtain rfl : i = c := by omega
          go_wp2_with fail
          go_roundg s2.l.length
          case measure => have := HLEN.out HE0.out; omega
          case rel =>
           have hl2 := HLEN.out HE0.out
           have hE0 := HE0.out
           have hss : s2 = ⟨s2.l, 0⟩ := by cases s2; simp only at hE0; subst hE0; rfl
           have hlen : (out ++ List.replicate i v).length = (j + 1) + i := by rw [List.length_append, List.length_replicate, HJ.out]
           refine ⟨s2.l, out ++ List.replicate i v, f, Nat.le_refl _, ⟨A5, cap5, by rw [hlen]⟩, by omega, ?_, by rw [hlen]; omega, by rw [← hss]; exact hr, by rw [hlen]; exact hown, hb, hws, by omega⟩
           rw [← hss, ← HDN.out HE0.out (by rintro (h | h | h); exact HC0.out h; exact absurd h (by have := HF.out; omega); rw [HLA.out] at h; injection h with h; exact HYV.out h)]
           exact HRES.out
   ·have hee : (s2.e != 0) = true := by simpa using he
    have HE0 := Lib.hid he
    clear he
    go_wp2_with fail
    go_quiet (fail)
    go_wp2_with fail
    go_ret2
    have hre := HRES.out
    rw [HDE.out HE0.out] at hre
    rw [hre]
    exact lstEnd_nil (below_drewN hb4 _)
end Ru
end Go.Proofs.YtojhenpaeedimaaGreat
end
