/-
  Decode of texts, the document's.
-/
import Derived.Test.YtiehmeheilfocaaTi
namespace Go.Proofs.Ytiehmeheilfocaa
open Go.RowKit Go.IntWalk
open Pk Dc Wd
set_option maxRecDepth 100000
attribute [local go_sem] Oper.semAt_some

set_option maxHeartbeats 8000000 in
theorem drdecode_c (l : List UInt8) (n most : Int) (hn1 : -9223372036854775808 ≤ n) (hn2 : n ≤ 9223372036854775807) (hm : most ≤ 9223372036854775807) (hl : l.length ≤ 100000) (w : World) :
    Calls Try.prog 39 #[.string (ba l), .int .i64 n, .int .i64 most] w (SEnd (decD l n most).1 (.int .i64 (decD l n most).2) w) := by
  have hs := ba_size l
  have hnot : ∀ (x : Bool) (w : World), (Op.unary .not (.bool x)).run Try.prog w = .ok (.bool (!x)) w := fun _ _ => rfl
  rcases Int.lt_or_le n 0 with hneg | hpos
  · rw [decD_neg hneg]
    go_enter Try.func39, Try.ntmps39
    go_wp2_with fail
    go_ret2
    exact sEnd_nil (Below.refl _ _)
  rcases Int.lt_or_le 4096 n with hfar | hin
  · rw [decD_big hfar]
    go_enter Try.func39, Try.ntmps39
    go_wp2_with fail
    go_ret2
    exact sEnd_nil (Below.refl _ _)
  obtain ⟨i0, hi, hz0, hz1, hz2⟩ := info_parts Try.info9
  obtain ⟨N, rfl⟩ := Int.eq_ofNat_of_zero_le hpos
  have hN : N ≤ 4096 := by omega
  obtain ⟨res, hres⟩ : ∃ res, res = decD l (N : Int) most := ⟨_, rfl⟩
  have hr0 := hres
  rw [decD_in hN] at hr0
  rw [← hres]
  have t1 : decide ((N : Int) < 0) = false := by simp
  have t2 : decide ((4096 : Int) < (N : Int)) = false := by simp; omega
  obtain ⟨r, hr⟩ : ∃ r, r = tkW l N most := ⟨_, rfl⟩
  rw [← hr] at hr0
  have HR := Lib.hid hr
  have HRES := Lib.hid hr0
  have hrk := hr
  unfold tkW at hrk
  obtain ⟨v, hv⟩ : ∃ v, v = numV ⟨l, 0⟩ := ⟨_, rfl⟩
  obtain ⟨s, hss⟩ : ∃ s, s = numS ⟨l, 0⟩ := ⟨_, rfl⟩
  have hsl := numS_len ⟨l, 0⟩
  rw [← hss] at hsl
  rw [← hv, ← hss] at hrk
  have HRK := Lib.hid hrk
  have HV := Lib.hid hv
  have HS := Lib.hid hss
  simp only at hsl
  clear hres hr0 hpos hin hn1 hn2 hr hrk hv hss
  go_enter Try.func39, Try.ntmps39
  go_wp2_with fail
  have hr1 : Ref (w.alloc (.cells #[.string (ba l), .int .i64 0, .int .i64 0] 79)) w.heap.size l ⟨l, 0⟩ := ref_mk (Nat.zero_le _) rfl (is_new w 79 [.string (ba l), .int .i64 0, .int .i64 0])
  have hb1 : Below w.heap.size w (w.alloc (.cells #[.string (ba l), .int .i64 0, .int .i64 0] 79)) := (Below.refl _ _).alloc (Nat.le_refl _) _
  obtain ⟨w1, hw1⟩ : ∃ w1, w1 = w.alloc (.cells #[.string (ba l), .int .i64 0, .int .i64 0] 79) := ⟨_, rfl⟩
  rw [← hw1] at hr1 hb1 ⊢
  clear hw1
  refine (rnum_m _ l ⟨l, 0⟩ (by omega) _ hr1).mono ?_
  rintro e w2 ⟨rfl, hr2, ho2⟩
  rw [← HV.out]
  rw [← HS.out] at hr2
  have hb2 := below_only hb1 ho2 hb1.size (Nat.le_refl _)
  have hce := refS_err0 hr2
  have hca := refS_at0 hr2
  clear hr1 hb1 ho2
  by_cases he : s.e = 0
  · have hee : (s.e != 0) = false := by rw [he]; rfl
    have HE0 := Lib.hid he
    have hwu : IntKind.u64.wrap (N : Int) = (N : Int) := by rw [IntKind.wrap_u64]; omega
    clear he
    by_cases hfar : N < v
    · have hfar2 : (N : Int) < (v : Int) := by omega
      have hres2 : res = ([], 10) := by
        have h1 := HRK.out
        rw [if_neg (by rw [HE0.out]; simp), if_pos hfar] at h1
        rw [HRES.out, h1, decT_e1 (by simp)]
      have HRES2 := Lib.hid hres2
      clear hres2
      go_wp2_with fail
      go_ret2
      rw [HRES2.out]
      exact sEnd_nil hb2
    · have hfar2 : ¬ (N : Int) < (v : Int) := by omega
      have tf1 : decide (N < v) = false := by simp; omega
      have tf2 : decide ((N : Int) < (v : Int)) = false := by simp; omega
      have hres2 : tks l most v ((l.length - s.l.length : Nat) : Int) [] = r := by
        have := HRK.out
        rw [if_neg (by rw [HE0.out]; simp), if_neg hfar] at this
        exact this.symm
      have HRES2 := Lib.hid hres2
      have hvN : v ≤ 4096 := by omega
      have hend : (l.length : Int) - (s.l.length : Int) = ((l.length - s.l.length : Nat) : Int) := by omega
      obtain ⟨K0, hK0⟩ : ∃ K0, K0 = l.length - s.l.length := ⟨_, rfl⟩
      rw [← hK0] at hend HRES2
      rw [hend] at hca
      have hK0l : K0 ≤ l.length := by omega
      clear hres2 hfar hK0 hsl hend
      go_wp2_with fail
      go_loopg [10, 11, 12] v (fun m sl to i wr => ∃ (i' K : Nat) (out : List Tx), i = .int .u64 (i' : Int) ∧ v - i' ≤ m ∧ i' ≤ v ∧ (∃ A1 c1, sl = .slice A1 i' c1) ∧ out.length = i' ∧ to = .int .i64 (K : Int) ∧ K ≤ l.length ∧ tks l most (v - i') (K : Int) out = r ∧ wr.ownsRow w.heap.size 9 1 sl i' (svs out) ∧ Below w.heap.size w wr)
      case atStart => exact ⟨0, K0, [], rfl, Nat.le_refl _, Nat.zero_le _, ⟨none, 0, rfl⟩, rfl, rfl, hK0l, HRES2.out, World.ownsRow_nil _ _ _ _, hb2⟩
      case round =>
        clear hb2 hK0l hce hca hr2
        obtain ⟨i', K, out, rfl, hmm, hiv, ⟨A1, c1, rfl⟩, hol, rfl, hK, htk, hown, hb⟩ := hrel
        have hb0 := hb.size
        have HTK := Lib.hid htk
        have HOL := Lib.hid hol
        clear htk hol
        by_cases hlt : i' < v
        · obtain ⟨c, hc⟩ : ∃ c, v - i' = c + 1 := ⟨v - i' - 1, by omega⟩
          rcases tk_two l K most hK with ⟨er, he, h1⟩ | ⟨t, u, h1, hu, -, -, -, -⟩
          · have hres2 : res = ([], er) := by rw [HRES.out, ← HTK.out, hc, tks_err h1 he, decT_e1 he]
            have HRES2 := Lib.hid hres2
            have hee : (er != 0) = true := by simpa using he
            have H1 := Lib.hid h1
            clear hres2 he h1 hc
            go_wp2_with fail
            refine (rwtake_k [] 0 er H1.out (by omega) hm _).mono ?_
            rintro e w5 ⟨rfl, hm5⟩
            go_wp2_with fail
            go_ret2
            rw [HRES2.out]
            exact sEnd_nil (hb.trans (hm5.mono hb0))
          · have hres2 : tks l most (v - (i' + 1)) (u : Int) (out ++ [t]) = r := by rw [← HTK.out, hc, tks_next h1, show v - (i' + 1) = c by omega]
            have HRES2 := Lib.hid hres2
            have H1 := Lib.hid h1
            have hic : i' ≤ 4096 := by omega
            clear hres2 h1 hc
            go_wp2_with fail
            refine (rwtake_k t (u : Int) 0 H1.out (by omega) hm _).mono ?_
            rintro e w5 ⟨rfl, hm5⟩
            have hown5 : w5.ownsRow w.heap.size 9 1 (.slice A1 i' c1) i' (svs out) := hown.kept (row := none) ⟨hm5.os, hm5.tape, hm5.output, hm5.size, fun k hk _ => hm5.block k hk⟩ (by cases h : (Value.slice A1 i' c1).ownBlock <;> simp)
            have hb5 := hb.trans (hm5.mono hb0)
            have hb50 := hb5.size
            clear hown hb hm5 hb0
            go_wp2_with (at_builtin; refine wpList_append_own _ rfl _ _ 39 rfl w.heap.size 9 i0 (.string ByteArray.empty) 1 16 Try.underlying39 hi hz0 hz1 hz2 rfl (by decide) _ _ _ rfl (hown5.alloc _) ⟨w5.heap.size, 0, none⟩ 1 1 [.string (ba t)] rfl rfl (cell_one_new _ _ _) (by simp [Value.oneCell']) (by unfold maxLen; omega) (by omega) (by simp; omega) ?_; intro v' w6 hown6 hgrow6 _)
            have hb6 := below_ownI hb5 hb50 hown5 hgrow6
            obtain ⟨g', cap', rfl⟩ := ownsRow_succ hown6
            clear hown5 hb5 hgrow6
            go_roundg (v - (i' + 1))
            case rel => exact ⟨i' + 1, u, out ++ [t], by go_num, Nat.le_refl _, by omega, ⟨_, _, rfl⟩, by rw [List.length_append, HOL.out]; rfl, rfl, hu, HRES2.out, by rw [svs_snoc]; exact hown6, hb6⟩
            case measure => omega
        · obtain rfl : i' = v := by omega
          have hrr : r = (out, (K : Int), 0) := by rw [← HTK.out, Nat.sub_self, tks_zero]
          obtain ⟨A3, c3, hA3, hat3, -, -⟩ := own_at hown
          cases hA3
          obtain ⟨k1, hk1⟩ : ∃ k1, k1 = c1 := ⟨_, rfl⟩
          rw [← hk1]
          obtain ⟨q1, q2, -⟩ := tkW_ok (HR.out.symm.trans hrr)
          have HRR := Lib.hid hrr
          have hRS : res = decT l N (out, (K : Int), 0) := by rw [HRES.out, hrr]
          have HRES := Lib.hid hRS
          have hol := HOL.out
          have hb1 := hb
          have HAT1 := Lib.hid hat3
          obtain ⟨W, hW⟩ : ∃ W, W = out := ⟨_, rfl⟩
          rw [← hW] at HRES HAT1 hol q1
          obtain ⟨u, hu⟩ : ∃ u, u = K := ⟨_, rfl⟩
          rw [← hu] at HRES ⊢
          have huL : u ≤ l.length := by omega
          have hWl : W.length ≤ 100000 := by omega
          have hext := extract_drop l u
          have hdl : (l.drop u).length ≤ 100000 := by rw [List.length_drop]; omega
          rw [← hol]
          clear hrr hRS hown hat3 hk1 hW hu hb hb0 hlt hiv hol
          obtain ⟨S, hS⟩ : ∃ S, S = l.drop u := ⟨_, rfl⟩
          rw [← hS] at hext hdl
          have HS := Lib.hid hS
          obtain ⟨d, hd⟩ : ∃ d, d = decU S (N : Int) := ⟨_, rfl⟩
          have hdsh : d.1.length ≤ 4096 := by rw [hd]; exact decU_short _ _
          have HD := Lib.hid hd
          clear q1 q2 hS hd
          go_wp2_with fail
          refine (urdecode_c S (N : Int) (by omega) (by omega) hdl _).mono ?_
          rintro e w2 ⟨A2, k2, rfl, -, -, hat2, hm2⟩
          rw [← HD.out] at hat2 ⊢
          have HAT2 := Lib.hid hat2
          have HAT1 := Lib.hid (HAT1.out.keep hm2)
          have hb2 := hb1.trans (hm2.mono hb1.size)
          clear hat2 hm2 hb1
          by_cases he2 : d.2 = 0
          · have hee : (d.2 != 0) = false := by rw [he2]; rfl
            have HE2 := Lib.hid he2
            clear he2
            go_wp2_with fail
            refine (rmayD_c A1 A2 k1 k2 W d.1 hWl (by omega) _ HAT1.out HAT2.out).mono ?_
            rintro e w3 ⟨rfl, hm3⟩
            have HAT1 := Lib.hid (HAT1.out.keep hm3)
            have HAT2 := Lib.hid (HAT2.out.keep hm3)
            have hb3 := hb2.trans (hm3.mono hb2.size)
            clear hm3 hb2
            cases hmay : mayW W d.1
            · have hres2 : res = ([], 5) := by
                rw [HRES.out]
                refine decT_no ?_ ?_
                · rw [← HS.out, ← HD.out]; exact HE2.out
                · rw [← HS.out, ← HD.out]; exact hmay
              have HRES2 := Lib.hid hres2
              clear hres2 hmay
              go_wp2_with fail
              go_ret2
              rw [HRES2.out]
              exact sEnd_nil hb3
            · have hres2 : res = ((pk W [] d.1).1, 0) := by
                rw [HRES.out]
                have := decT_ok (W := W) (show (decU (l.drop u) N).2 = 0 by rw [← HS.out, ← HD.out]; exact HE2.out) (by rw [← HS.out, ← HD.out]; exact hmay)
                rw [this, ← HS.out, ← HD.out]
              have HRES2 := Lib.hid hres2
              clear hres2 hmay
              go_wp2_with fail
              refine (rpick_c A1 A2 k1 k2 W d.1 hWl (by omega) _ HAT1.out HAT2.out).mono ?_
              rintro e w4 ⟨A4, k4, rfl, hcp4, hfr4, hat4, hm4⟩
              obtain ⟨P, hP⟩ : ∃ P, P = pk W [] d.1 := ⟨_, rfl⟩
              rw [← hP] at hcp4 hat4 HRES2 ⊢
              have hb4 := hb3.trans (hm4.mono hb3.size)
              have HF4 := Lib.hid hfr4
              have HB3 := Lib.hid hb3.size
              have HAT4 := Lib.hid hat4
              clear hm4 hb3 hfr4 hat4 hP
              go_wp2_with fail
              go_ret2
              rw [HRES2.out]
              exact ⟨_, _, rfl, hcp4, fun a h => Nat.le_trans HB3.out (HF4.out a h), HAT4.out, hb4⟩
          · have hee : (d.2 != 0) = true := by simpa using he2
            have hres2 : res = ([], d.2) := by
              rw [HRES.out]
              have := decT_e2 (W := W) (show (decU (l.drop u) N).2 ≠ 0 by rw [← HS.out, ← HD.out]; exact he2)
              rw [this, ← HS.out, ← HD.out]
            have HRES2 := Lib.hid hres2
            clear hres2 he2
            go_wp2_with fail
            go_ret2
            rw [HRES2.out]
            exact sEnd_nil hb2
  · have hee : (s.e != 0) = true := by simpa using he
    have hres2 : res = ([], s.e) := by
      have h1 := HRK.out
      rw [if_pos he] at h1
      rw [HRES.out, h1, decT_e1 he]
    have HRES2 := Lib.hid hres2
    clear hres2 he
    go_wp2_with fail
    go_quiet (fail)
    go_wp2_with fail
    go_ret2
    rw [HRES2.out]
    exact sEnd_nil (below_drewN hb2 _)
end Go.Proofs.Ytiehmeheilfocaa
