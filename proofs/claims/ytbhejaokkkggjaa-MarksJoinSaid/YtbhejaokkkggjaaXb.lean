/-
  The walk of MarksJoin.
-/
import Derived.Test.YtbhejaokkkggjaaXs
namespace Go.Proofs.Ytbhejaokkkggjaa
open Go.RowKit Go.IntWalk
set_option maxRecDepth 100000
attribute [local go_sem] Oper.semAt_some

namespace marksJoin
set_option maxHeartbeats 16000000 in
theorem walk (A1 A2 A3 : Option Addr) (c1 c2 c3 : Nat) (v x u : List Mk) (n1 : A1 = none → c1 = 0) (n2 : A2 = none → c2 = 0) (w : World) (h1 : At w w.heap.size A1 (kvs v)) (h2 : At w w.heap.size A2 (kvs x)) (h3 : At w w.heap.size A3 (kvs u)) :
    Calls Try.prog 9 #[.slice A1 v.length c1, .slice A2 x.length c2, .slice A3 u.length c3] w fun e w' => e = .returned (.bool true) ∧ Below w.heap.size w w' := by
  have S0 := Lib.hid ((((Marks0 w).add h3).add h2).add h1)
  have N1 := Lib.hid n1
  have N2 := Lib.hid n2
  clear h1 h2 h3 n1 n2
  by_cases lv : 60 < v.length
  · have zv : (60 : Int) < (v.length : Int) := by omega
    have dv : decide (60 < v.length) = true := decide_eq_true lv
    go_enter Try.func9, Try.ntmps9
    go_wp2_with fail
    refine (live17_c _).mono ?_
    rintro e wz ⟨rfl, hbz⟩
    go_wp2_with fail
    go_ret
    exact ⟨rfl, S0.out.2.trans (hbz.mono S0.out.2.size)⟩
  have zv : ¬ (60 : Int) < (v.length : Int) := by omega
  have dv : decide (60 < v.length) = false := decide_eq_false lv
  by_cases lx : 60 < x.length
  · have zx : (60 : Int) < (x.length : Int) := by omega
    have dx : decide (60 < x.length) = true := decide_eq_true lx
    go_enter Try.func9, Try.ntmps9
    go_wp2_with fail
    refine (live17_c _).mono ?_
    rintro e wz ⟨rfl, hbz⟩
    go_wp2_with fail
    go_ret
    exact ⟨rfl, S0.out.2.trans (hbz.mono S0.out.2.size)⟩
  have zx : ¬ (60 : Int) < (x.length : Int) := by omega
  have dx : decide (60 < x.length) = false := decide_eq_false lx
  by_cases lu : 60 < u.length
  · have zu : (60 : Int) < (u.length : Int) := by omega
    have du : decide (60 < u.length) = true := decide_eq_true lu
    go_enter Try.func9, Try.ntmps9
    go_wp2_with fail
    refine (live17_c _).mono ?_
    rintro e wz ⟨rfl, hbz⟩
    go_wp2_with fail
    go_ret
    exact ⟨rfl, S0.out.2.trans (hbz.mono S0.out.2.size)⟩
  have zu : ¬ (60 : Int) < (u.length : Int) := by omega
  have du : decide (60 < u.length) = false := decide_eq_false lu
  go_enter Try.func9, Try.ntmps9
  go_wp2_with fail
  refine (rkmay_k (q := mayK v) rfl (by omega) (S0.out.1.at (A := A1) (l := v) (by simp))).mono ?_
  rintro e w1 ⟨rfl, hb1⟩
  have S1 := Lib.hid (S0.out.step hb1)
  clear hb1
  cases hmv : mayK v with
  | false =>
    clear hmv
    go_wp2_with fail
    refine (live17_c _).mono ?_
    rintro e wz ⟨rfl, hbz⟩
    go_wp2_with fail
    go_ret
    exact ⟨rfl, S1.out.2.trans (hbz.mono S1.out.2.size)⟩
  | true =>
    have Mv := Lib.hid (mayK_iff.1 hmv)
    clear hmv
    go_wp2_with fail
    refine (rkmay_k (q := mayK x) rfl (by omega) (S1.out.1.at (A := A2) (l := x) (by simp))).mono ?_
    rintro e w2 ⟨rfl, hb2⟩
    have S2 := Lib.hid (S1.out.step hb2)
    clear hb2
    cases hmx : mayK x with
    | false =>
      clear hmx
      go_wp2_with fail
      refine (live17_c _).mono ?_
      rintro e wz ⟨rfl, hbz⟩
      go_wp2_with fail
      go_ret
      exact ⟨rfl, S2.out.2.trans (hbz.mono S2.out.2.size)⟩
    | true =>
      have Mx := Lib.hid (mayK_iff.1 hmx)
      clear hmx
      go_wp2_with fail
      refine (rkmay_k (q := mayK u) rfl (by omega) (S2.out.1.at (A := A3) (l := u) (by simp))).mono ?_
      rintro e w3 ⟨rfl, hb3⟩
      have S3 := Lib.hid (S2.out.step hb3)
      clear hb3
      cases hmu : mayK u with
      | false =>
        clear hmu
        go_wp2_with fail
        refine (live17_c _).mono ?_
        rintro e wz ⟨rfl, hbz⟩
        go_wp2_with fail
        go_ret
        exact ⟨rfl, S3.out.2.trans (hbz.mono S3.out.2.size)⟩
      | true =>
        have Mu := Lib.hid (mayK_iff.1 hmu)
        clear hmu
        obtain ⟨J, hJ⟩ : ∃ J, joinK v x = J := ⟨_, rfl⟩
        have hjl := joinK_len v x
        rw [hJ] at hjl
        have HJ := Lib.hid hJ
        have HF := Lib.hid (join_facts Mv.out Mx.out Mu.out hJ)
        have HJL := Lib.hid (show J.length ≤ 120 by omega)
        clear hJ hjl
        go_wp2_with fail
        refine (kjoin_k HJ.out (by omega) N1.out (S3.out.1.at (A := A1) (l := v) (by simp)) (S3.out.1.at (A := A2) (l := x) (by simp))).mono ?_
        rintro e w4 ⟨Aj, cAj, rfl, ho4, hb4⟩
        have S4 := Lib.hid ((S3.out.step hb4).add (own_atK ho4))
        have NAj := Lib.hid (own_noneK ho4)
        have CAj := Lib.hid (own_capK ho4)
        clear ho4 hb4
        go_wp2_with fail
        refine (kmay_k (q := true) HF.out.1 (by have := HJL.out; omega) (S4.out.1.at (A := Aj) (l := J) (by simp))).mono ?_
        rintro e w5 ⟨rfl, hb5⟩
        have S5 := Lib.hid (S4.out.step hb5)
        clear hb5
        go_wp2_with fail
        refine (kbelow_k (q := true) HF.out.2.1 (by omega) (by have := HJL.out; omega) (S5.out.1.at (A := A1) (l := v) (by simp)) (S5.out.1.at (A := Aj) (l := J) (by simp))).mono ?_
        rintro e w6 ⟨rfl, hb6⟩
        have S6 := Lib.hid (S5.out.step hb6)
        clear hb6
        go_wp2_with fail
        refine (kbelow_k (q := true) HF.out.2.2.1 (by omega) (by have := HJL.out; omega) (S6.out.1.at (A := A2) (l := x) (by simp)) (S6.out.1.at (A := Aj) (l := J) (by simp))).mono ?_
        rintro e w7 ⟨rfl, hb7⟩
        have S7 := Lib.hid (S6.out.step hb7)
        clear hb7
        go_wp2_with fail
        refine (kjoin_k HF.out.2.2.2.1 (by omega) N2.out (S7.out.1.at (A := A2) (l := x) (by simp)) (S7.out.1.at (A := A1) (l := v) (by simp))).mono ?_
        rintro e w8 ⟨Ak, cAk, rfl, ho8, hb8⟩
        have S8 := Lib.hid ((S7.out.step hb8).add (own_atK ho8))
        have NAk := Lib.hid (own_noneK ho8)
        have CAk := Lib.hid (own_capK ho8)
        clear ho8 hb8
        go_wp2_with fail
        refine (same17_k (q := true) (by simp) (by have := HJL.out; omega) (by have := HJL.out; omega) (S8.out.1.at (A := Aj) (l := J) (by simp)) (S8.out.1.at (A := Ak) (l := J) (by simp))).mono ?_
        rintro e w9 ⟨rfl, hb9⟩
        have S9 := Lib.hid (S8.out.step hb9)
        clear hb9
        go_wp2_with fail
        refine (kjoin_k HF.out.2.2.2.2.1 (by omega) N1.out (S9.out.1.at (A := A1) (l := v) (by simp)) (S9.out.1.at (A := A1) (l := v) (by simp))).mono ?_
        rintro e w10 ⟨Al, cAl, rfl, ho10, hb10⟩
        have S10 := Lib.hid ((S9.out.step hb10).add (own_atK ho10))
        have NAl := Lib.hid (own_noneK ho10)
        have CAl := Lib.hid (own_capK ho10)
        clear ho10 hb10
        go_wp2_with fail
        refine (same17_k (q := true) (by simp) (by omega) (by omega) (S10.out.1.at (A := Al) (l := v) (by simp)) (S10.out.1.at (A := A1) (l := v) (by simp))).mono ?_
        rintro e w11 ⟨rfl, hb11⟩
        have S11 := Lib.hid (S10.out.step hb11)
        clear hb11
        go_wp2_with fail
        refine (kbelow_k (q := belowK v u) rfl (by omega) (by omega) (S11.out.1.at (A := A1) (l := v) (by simp)) (S11.out.1.at (A := A3) (l := u) (by simp))).mono ?_
        rintro e w12 ⟨rfl, hb12⟩
        have S12 := Lib.hid (S11.out.step hb12)
        clear hb12
        cases b1 : belowK v u with
        | false =>
          clear b1
          obtain ⟨K, hK⟩ : ∃ K, joinK J u = K := ⟨_, rfl⟩
          obtain ⟨M, hM⟩ : ∃ M, joinK x u = M := ⟨_, rfl⟩
          have hkl := joinK_len J u
          have hml := joinK_len x u
          rw [hK] at hkl
          rw [hM] at hml
          have HKL := Lib.hid (show K.length ≤ 180 by have := HJL.out; omega)
          have HML := Lib.hid (show M.length ≤ 120 by omega)
          have HVM := Lib.hid (show joinK v M = K by rw [← hM, ← hK]; exact HF.out.2.2.2.2.2.2.1)
          have HK := Lib.hid hK
          have HM := Lib.hid hM
          clear hK hM hkl hml
          go_wp2_with fail
          refine (kjoin_k HK.out (by have := HJL.out; omega) NAj.out (S12.out.1.at (A := Aj) (l := J) (by simp)) (S12.out.1.at (A := A3) (l := u) (by simp))).mono ?_
          rintro e w13 ⟨Am, cAm, rfl, ho13, hb13⟩
          have S13 := Lib.hid ((S12.out.step hb13).add (own_atK ho13))
          have NAm := Lib.hid (own_noneK ho13)
          have CAm := Lib.hid (own_capK ho13)
          clear ho13 hb13
          go_wp2_with fail
          refine (kjoin_k HM.out (by omega) N2.out (S13.out.1.at (A := A2) (l := x) (by simp)) (S13.out.1.at (A := A3) (l := u) (by simp))).mono ?_
          rintro e w14 ⟨An, cAn, rfl, ho14, hb14⟩
          have S14 := Lib.hid ((S13.out.step hb14).add (own_atK ho14))
          have NAn := Lib.hid (own_noneK ho14)
          have CAn := Lib.hid (own_capK ho14)
          clear ho14 hb14
          go_wp2_with fail
          refine (kjoin_k HVM.out (by have := HML.out; omega) N1.out (S14.out.1.at (A := A1) (l := v) (by simp)) (S14.out.1.at (A := An) (l := M) (by simp))).mono ?_
          rintro e w15 ⟨Ao, cAo, rfl, ho15, hb15⟩
          have S15 := Lib.hid ((S14.out.step hb15).add (own_atK ho15))
          have NAo := Lib.hid (own_noneK ho15)
          have CAo := Lib.hid (own_capK ho15)
          clear ho15 hb15
          go_wp2_with fail
          refine (same17_k (q := true) (by simp) (by have := HKL.out; omega) (by have := HKL.out; omega) (S15.out.1.at (A := Am) (l := K) (by simp)) (S15.out.1.at (A := Ao) (l := K) (by simp))).mono ?_
          rintro e w16 ⟨rfl, hb16⟩
          have S16 := Lib.hid (S15.out.step hb16)
          clear hb16
          go_wp2_with fail
          refine (kbelow_k (q := belowK v x) rfl (by omega) (by omega) (S16.out.1.at (A := A1) (l := v) (by simp)) (S16.out.1.at (A := A2) (l := x) (by simp))).mono ?_
          rintro e w17 ⟨rfl, hb17⟩
          have S17 := Lib.hid (S16.out.step hb17)
          clear hb17
          go_wp2_with fail
          refine (same17_k (q := belowK v x) HF.out.2.2.2.2.2.2.2 (by have := HJL.out; omega) (by omega) (S17.out.1.at (A := Aj) (l := J) (by simp)) (S17.out.1.at (A := A2) (l := x) (by simp))).mono ?_
          rintro e w18 ⟨rfl, hb18⟩
          have S18 := Lib.hid (S17.out.step hb18)
          clear hb18
          obtain ⟨q, hq⟩ : ∃ q, belowK v x = q := ⟨_, rfl⟩
          have hqq : (q == q) = true := by cases q <;> rfl
          rw [hq]
          clear hq
          go_wp2_with fail
          refine (live17_c _).mono ?_
          rintro e wz ⟨rfl, hbz⟩
          go_wp2_with fail
          go_ret
          exact ⟨rfl, S18.out.2.trans (hbz.mono S18.out.2.size)⟩
        | true =>
          have B1 := Lib.hid b1
          clear b1
          go_wp2_with fail
          refine (kbelow_k (q := belowK x u) rfl (by omega) (by omega) (S12.out.1.at (A := A2) (l := x) (by simp)) (S12.out.1.at (A := A3) (l := u) (by simp))).mono ?_
          rintro e w13 ⟨rfl, hb13⟩
          have S13 := Lib.hid (S12.out.step hb13)
          clear hb13
          cases b2 : belowK x u with
          | false =>
            clear b2
            obtain ⟨K, hK⟩ : ∃ K, joinK J u = K := ⟨_, rfl⟩
            obtain ⟨M, hM⟩ : ∃ M, joinK x u = M := ⟨_, rfl⟩
            have hkl := joinK_len J u
            have hml := joinK_len x u
            rw [hK] at hkl
            rw [hM] at hml
            have HKL := Lib.hid (show K.length ≤ 180 by have := HJL.out; omega)
            have HML := Lib.hid (show M.length ≤ 120 by omega)
            have HVM := Lib.hid (show joinK v M = K by rw [← hM, ← hK]; exact HF.out.2.2.2.2.2.2.1)
            have HK := Lib.hid hK
            have HM := Lib.hid hM
            clear hK hM hkl hml
            go_wp2_with fail
            refine (kjoin_k HK.out (by have := HJL.out; omega) NAj.out (S13.out.1.at (A := Aj) (l := J) (by simp)) (S13.out.1.at (A := A3) (l := u) (by simp))).mono ?_
            rintro e w14 ⟨Am, cAm, rfl, ho14, hb14⟩
            have S14 := Lib.hid ((S13.out.step hb14).add (own_atK ho14))
            have NAm := Lib.hid (own_noneK ho14)
            have CAm := Lib.hid (own_capK ho14)
            clear ho14 hb14
            go_wp2_with fail
            refine (kjoin_k HM.out (by omega) N2.out (S14.out.1.at (A := A2) (l := x) (by simp)) (S14.out.1.at (A := A3) (l := u) (by simp))).mono ?_
            rintro e w15 ⟨An, cAn, rfl, ho15, hb15⟩
            have S15 := Lib.hid ((S14.out.step hb15).add (own_atK ho15))
            have NAn := Lib.hid (own_noneK ho15)
            have CAn := Lib.hid (own_capK ho15)
            clear ho15 hb15
            go_wp2_with fail
            refine (kjoin_k HVM.out (by have := HML.out; omega) N1.out (S15.out.1.at (A := A1) (l := v) (by simp)) (S15.out.1.at (A := An) (l := M) (by simp))).mono ?_
            rintro e w16 ⟨Ao, cAo, rfl, ho16, hb16⟩
            have S16 := Lib.hid ((S15.out.step hb16).add (own_atK ho16))
            have NAo := Lib.hid (own_noneK ho16)
            have CAo := Lib.hid (own_capK ho16)
            clear ho16 hb16
            go_wp2_with fail
            refine (same17_k (q := true) (by simp) (by have := HKL.out; omega) (by have := HKL.out; omega) (S16.out.1.at (A := Am) (l := K) (by simp)) (S16.out.1.at (A := Ao) (l := K) (by simp))).mono ?_
            rintro e w17 ⟨rfl, hb17⟩
            have S17 := Lib.hid (S16.out.step hb17)
            clear hb17
            go_wp2_with fail
            refine (kbelow_k (q := belowK v x) rfl (by omega) (by omega) (S17.out.1.at (A := A1) (l := v) (by simp)) (S17.out.1.at (A := A2) (l := x) (by simp))).mono ?_
            rintro e w18 ⟨rfl, hb18⟩
            have S18 := Lib.hid (S17.out.step hb18)
            clear hb18
            go_wp2_with fail
            refine (same17_k (q := belowK v x) HF.out.2.2.2.2.2.2.2 (by have := HJL.out; omega) (by omega) (S18.out.1.at (A := Aj) (l := J) (by simp)) (S18.out.1.at (A := A2) (l := x) (by simp))).mono ?_
            rintro e w19 ⟨rfl, hb19⟩
            have S19 := Lib.hid (S18.out.step hb19)
            clear hb19
            obtain ⟨q, hq⟩ : ∃ q, belowK v x = q := ⟨_, rfl⟩
            have hqq : (q == q) = true := by cases q <;> rfl
            rw [hq]
            clear hq
            go_wp2_with fail
            refine (live17_c _).mono ?_
            rintro e wz ⟨rfl, hbz⟩
            go_wp2_with fail
            go_ret
            exact ⟨rfl, S19.out.2.trans (hbz.mono S19.out.2.size)⟩
          | true =>
            have B2 := Lib.hid (HF.out.2.2.2.2.2.1 B1.out b2)
            clear b2
            go_wp2_with fail
            refine (kbelow_k (q := true) B2.out (by have := HJL.out; omega) (by omega) (S13.out.1.at (A := Aj) (l := J) (by simp)) (S13.out.1.at (A := A3) (l := u) (by simp))).mono ?_
            rintro e w14 ⟨rfl, hb14⟩
            have S14 := Lib.hid (S13.out.step hb14)
            clear hb14
            obtain ⟨K, hK⟩ : ∃ K, joinK J u = K := ⟨_, rfl⟩
            obtain ⟨M, hM⟩ : ∃ M, joinK x u = M := ⟨_, rfl⟩
            have hkl := joinK_len J u
            have hml := joinK_len x u
            rw [hK] at hkl
            rw [hM] at hml
            have HKL := Lib.hid (show K.length ≤ 180 by have := HJL.out; omega)
            have HML := Lib.hid (show M.length ≤ 120 by omega)
            have HVM := Lib.hid (show joinK v M = K by rw [← hM, ← hK]; exact HF.out.2.2.2.2.2.2.1)
            have HK := Lib.hid hK
            have HM := Lib.hid hM
            clear hK hM hkl hml
            go_wp2_with fail
            refine (kjoin_k HK.out (by have := HJL.out; omega) NAj.out (S14.out.1.at (A := Aj) (l := J) (by simp)) (S14.out.1.at (A := A3) (l := u) (by simp))).mono ?_
            rintro e w15 ⟨Am, cAm, rfl, ho15, hb15⟩
            have S15 := Lib.hid ((S14.out.step hb15).add (own_atK ho15))
            have NAm := Lib.hid (own_noneK ho15)
            have CAm := Lib.hid (own_capK ho15)
            clear ho15 hb15
            go_wp2_with fail
            refine (kjoin_k HM.out (by omega) N2.out (S15.out.1.at (A := A2) (l := x) (by simp)) (S15.out.1.at (A := A3) (l := u) (by simp))).mono ?_
            rintro e w16 ⟨An, cAn, rfl, ho16, hb16⟩
            have S16 := Lib.hid ((S15.out.step hb16).add (own_atK ho16))
            have NAn := Lib.hid (own_noneK ho16)
            have CAn := Lib.hid (own_capK ho16)
            clear ho16 hb16
            go_wp2_with fail
            refine (kjoin_k HVM.out (by have := HML.out; omega) N1.out (S16.out.1.at (A := A1) (l := v) (by simp)) (S16.out.1.at (A := An) (l := M) (by simp))).mono ?_
            rintro e w17 ⟨Ao, cAo, rfl, ho17, hb17⟩
            have S17 := Lib.hid ((S16.out.step hb17).add (own_atK ho17))
            have NAo := Lib.hid (own_noneK ho17)
            have CAo := Lib.hid (own_capK ho17)
            clear ho17 hb17
            go_wp2_with fail
            refine (same17_k (q := true) (by simp) (by have := HKL.out; omega) (by have := HKL.out; omega) (S17.out.1.at (A := Am) (l := K) (by simp)) (S17.out.1.at (A := Ao) (l := K) (by simp))).mono ?_
            rintro e w18 ⟨rfl, hb18⟩
            have S18 := Lib.hid (S17.out.step hb18)
            clear hb18
            go_wp2_with fail
            refine (kbelow_k (q := belowK v x) rfl (by omega) (by omega) (S18.out.1.at (A := A1) (l := v) (by simp)) (S18.out.1.at (A := A2) (l := x) (by simp))).mono ?_
            rintro e w19 ⟨rfl, hb19⟩
            have S19 := Lib.hid (S18.out.step hb19)
            clear hb19
            go_wp2_with fail
            refine (same17_k (q := belowK v x) HF.out.2.2.2.2.2.2.2 (by have := HJL.out; omega) (by omega) (S19.out.1.at (A := Aj) (l := J) (by simp)) (S19.out.1.at (A := A2) (l := x) (by simp))).mono ?_
            rintro e w20 ⟨rfl, hb20⟩
            have S20 := Lib.hid (S19.out.step hb20)
            clear hb20
            obtain ⟨q, hq⟩ : ∃ q, belowK v x = q := ⟨_, rfl⟩
            have hqq : (q == q) = true := by cases q <;> rfl
            rw [hq]
            clear hq
            go_wp2_with fail
            refine (live17_c _).mono ?_
            rintro e wz ⟨rfl, hbz⟩
            go_wp2_with fail
            go_ret
            exact ⟨rfl, S20.out.2.trans (hbz.mono S20.out.2.size)⟩
end marksJoin
end Go.Proofs.Ytbhejaokkkggjaa
