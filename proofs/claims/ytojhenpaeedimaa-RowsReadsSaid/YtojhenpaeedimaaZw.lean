/-
 The moves of any bytes: a walk.
-/
import Derived.Test.YtojhenpaeedimaaYa
namespace Go.Proofs.Ytojhenpaeedimaa
open Go.RowKit Go.IntWalk
open Pk Ck Rf Fl Wd
set_option maxRecDepth 100000
attribute [local go_sem] Oper.semAt_some
namespace rowsReads
set_option maxHeartbeats 16000000 in
theorem walk (f : List UInt8) (_hf : f.length ≤ maxLen) (w : World) :
  Calls Try.prog 4 #[.string (ba f)] w fun e w' => e = .returned (.bool true) ∧ Below w.heap.size w w' := by
 have hbs := ba_size f
 by_cases hbig : 1000 < f.length
 ·have hb1 : (1000 : Int) < (f.length : Int) := by omega
  go_enter Try.func4, Try.ntmps4
  go_wp2_with fail
  refine (live21_c _).mono ?_
  rintro e w1 ⟨rfl, hb⟩
  go_wp2_with fail
  go_ret
  exact ⟨rfl, hb⟩
 ·have hb1 : ¬ (1000 : Int) < (f.length : Int) := by omega
  obtain ⟨S, hS⟩ : ∃ S, ba (startB ++ f) = S := ⟨_, rfl⟩
  have hadd : ∀ w : World, (Op.stringOp .add (⟨#[66, 78, 83, 73, 1]⟩ : ByteArray) (ba f)).run Try.prog w = .ok (.string S) w := fun w => by
   rw [← hS]; exact hadd_v startB f (by rw [show startB.length = 5 from rfl]; omega) w
  obtain ⟨⟨l1, x1⟩, h1⟩ : ∃ q, decR f = q := ⟨_, rfl⟩
  obtain ⟨⟨l2, x2⟩, h2⟩ : ∃ q, decR (startB ++ f) = q := ⟨_, rfl⟩
  have hfl : (startB ++ f).length ≤ 100000000 := by rw [List.length_append, show startB.length = 5 from rfl]; omega
  have HS := Lib.hid hS
  have H1 := Lib.hid h1
  have H2 := Lib.hid h2
  have HFL := Lib.hid hfl
  have HFF := Lib.hid (show f.length ≤ 100000000 by omega)
  clear hS h1 h2 hfl hbig
  go_enter Try.func4, Try.ntmps4
  go_wp2_with fail
  refine (pdec_v rfl HFF.out H1.out _).mono ?_
  rintro e w1 ⟨A1, c1, rfl, a1, hb⟩
  have P1 := Lib.hid a1
  have B1 := Lib.hid hb
  clear a1 hb
  go_wp2_with fail
  refine (rdec_v rfl HFF.out H1.out _).mono ?_
  rintro e w2 ⟨A2, c2, m1, rfl, hs, a1, hb⟩
  have P2 := Lib.hid (P1.out.keep hb)
  have Q2 := Lib.hid a1
  have S1 := Lib.hid hs
  have B2 := Lib.hid (B1.out.trans (hb.mono B1.out.size))
  clear a1 hb hs
  go_wp2_with fail
  refine (pdec_v HS.out HFL.out H2.out _).mono ?_
  rintro e w3 ⟨A3, c3, rfl, a1, hb⟩
  have P3 := Lib.hid (P2.out.keep hb)
  have Q3 := Lib.hid (Q2.out.keep hb)
  have R3 := Lib.hid a1
  have B3 := Lib.hid (B2.out.trans (hb.mono B2.out.size))
  clear a1 hb
  go_wp2_with fail
  refine (rdec_v HS.out HFL.out H2.out _).mono ?_
  rintro e w4 ⟨A4, c4, m2, rfl, hs, a1, hb⟩
  have P4 := Lib.hid (P3.out.keep hb)
  have Q4 := Lib.hid (Q3.out.keep hb)
  have R4 := Lib.hid (R3.out.keep hb)
  have T4 := Lib.hid a1
  have S2 := Lib.hid hs
  have B4 := Lib.hid (B3.out.trans (hb.mono B3.out.size))
  clear a1 hb hs
  have hs1 : sameM l1 m1 = true := by rw [S1.out.same]; exact sameM_refl _
  have hs2 : sameM l2 m2 = true := by rw [S2.out.same]; exact sameM_refl _
  have hl1 := (dec_names H1.out).2
  have hl2 := (dec_names H2.out).2
  have hm1 := S1.out.len
  have hm2 := S2.out.len
  have N1 := Lib.hid (show l1.length ≤ maxLen by unfold maxLen; omega)
  have N2 := Lib.hid (show l2.length ≤ maxLen by unfold maxLen; omega)
  have N3 := Lib.hid (show m1.length ≤ maxLen by unfold maxLen; omega)
  have N4 := Lib.hid (show m2.length ≤ maxLen by unfold maxLen; omega)
  have HS1 := Lib.hid hs1
  have HS2 := Lib.hid hs2
  clear hs1 hs2 hm1 hm2 hl1 hl2
  go_wp2_with fail
  refine (rmsame_v HS1.out rfl rfl N1.out N3.out (dec_moves H1.out) (sim_moves H1.out S1.out) P4.out Q4.out).mono ?_
  rintro e w5 ⟨rfl, hb⟩
  have R5 := Lib.hid (R4.out.keep hb)
  have T5 := Lib.hid (T4.out.keep hb)
  have B5 := Lib.hid (B4.out.trans (hb.mono B4.out.size))
  clear hb
  go_wp2_with fail
  refine (rmsame_v HS2.out rfl rfl N2.out N4.out (dec_moves H2.out) (sim_moves H2.out S2.out) R5.out T5.out).mono ?_
  rintro e w6 ⟨rfl, hb⟩
  have B6 := Lib.hid (B5.out.trans (hb.mono B5.out.size))
  clear hb
  go_wp2_with fail
  refine (live21_c _).mono ?_
  rintro e w7 ⟨rfl, hb⟩
  have B7 := Lib.hid (B6.out.trans (hb.mono B6.out.size))
  clear hb
  go_wp2_with fail
  go_ret
  exact ⟨rfl, B7.out⟩
end rowsReads
end Go.Proofs.Ytojhenpaeedimaa
