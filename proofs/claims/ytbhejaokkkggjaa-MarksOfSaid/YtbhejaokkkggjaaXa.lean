/-
  The walk of MarksOf.
-/
import Derived.Test.YtbhejaokkkggjaaAl
import Derived.Test.YtbhejaokkkggjaaUl
namespace Go.Proofs.Ytbhejaokkkggjaa
open Go.RowKit Go.IntWalk
set_option maxRecDepth 100000
attribute [local go_sem] Oper.semAt_some

namespace marksOf
set_option maxHeartbeats 4000000 in
theorem walk (A : Option Addr) (cap : Nat) (l : List Mv) (hl : l.length ≤ maxLen) (w : World) (hc : At w w.heap.size A (mvs l)) :
    Calls Try.prog 8 #[.slice A l.length cap] w fun e w' => e = .returned (.bool true) ∧ Below w.heap.size w w' := by
  have H1 := Lib.hid hc
  have HL := Lib.hid hl
  clear hc hl
  go_enter Try.func8, Try.ntmps8
  go_wp2_with fail
  refine (rmfew_c A cap l 60 HL.out (by decide) _ H1.out).mono ?_
  rintro e w1 ⟨rfl, rfl⟩
  cases hf : fewM l 60 with
  | false =>
    clear hf
    go_wp2_with fail
    refine (live17_c _).mono ?_
    rintro e w2 ⟨rfl, hb⟩
    go_wp2_with fail
    go_ret
    exact ⟨rfl, hb⟩
  | true =>
    obtain ⟨hl60, -⟩ := fewM_in hf
    have hol := ofK_len l
    have HOL := Lib.hid hol
    clear hf hol
    go_wp2_with fail
    refine (kof_c A cap l (by omega) _ H1.out).mono ?_
    rintro e w2 ⟨A2, c2, rfl, ho2, hb2⟩
    have H2 := Lib.hid (own_atK ho2)
    have HB2 := Lib.hid hb2
    clear ho2 hb2
    go_wp2_with fail
    refine (rkof_c A cap l (by omega) _ (H1.out.keep HB2.out)).mono ?_
    rintro e w3 ⟨A3, c3, rfl, h3, -, -, hb3⟩
    have H3 := Lib.hid h3
    have H23 := Lib.hid (H2.out.keep hb3)
    have HB3 := Lib.hid (HB2.out.trans (hb3.mono HB2.out.size))
    clear h3 hb3
    go_wp2_with fail
    refine (same17_k (q := true) (by simp) (by have := HOL.out; omega) (by have := HOL.out; omega) H23.out H3.out).mono ?_
    rintro e w4 ⟨rfl, hb4⟩
    have HB4 := Lib.hid (HB3.out.trans (hb4.mono HB3.out.size))
    clear hb4
    go_wp2_with fail
    refine (live17_c _).mono ?_
    rintro e w5 ⟨rfl, hb5⟩
    go_wp2_with fail
    go_ret
    exact ⟨rfl, HB4.out.trans (hb5.mono HB4.out.size)⟩
end marksOf
end Go.Proofs.Ytbhejaokkkggjaa
