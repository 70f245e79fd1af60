/-
 Contract of the document's Take.
-/
import Derived.Test.YtojhenpaeedimaaEe
import Derived.Deep.QuietTactic
import Derived.BigQuiet
namespace Go.Proofs.Ytojhenpaeedimaa
open Go.RowKit
open Wd Pk
set_option maxRecDepth 100000
theorem refS_err0 {w : World} {g : Nat} {l : List UInt8} {s : St} (h : Ref w g l s) : w.cell? ⟨g, 2, none⟩ = some (.int .i64 s.e) := by
 obtain ⟨k, _, _, h3⟩ := h
 exact ref_e h3
theorem refS_at0 {w : World} {g : Nat} {l : List UInt8} {s : St} (h : Ref w g l s) : w.cell? ⟨g, 1, none⟩ = some (.int .i64 ((l.length : Int) - (s.l.length : Int))) := by
 obtain ⟨k, h1, h2, h3⟩ := h
 have hd := drop_at h2
 rw [ref_at h3]
 congr 2
 omega
theorem refS_drewN0 {w : World} {g : Nat} {l : List UInt8} {s : St} (h : Ref w g l s) (n : Nat) : Ref (w.drewN n) g l s := h
set_option maxHeartbeats 4000000 in
theorem rtake_w (l : List UInt8) (hl : l.length ≤ 140737488351232) (at_ most : Int) (hm : most ≤ 9223372036854775807) (w : World) :
  Calls Try.prog 35 #[.string (ba l), .int .i64 at_, .int .i64 most] w fun e w' => Tk l at_ most e ∧ Below w.heap.size w w' := by
 have hs := ba_size l
 by_cases ha : at_ < 0 ∨ (l.length : Int) < at_
 ·have HK := Lib.hid (tk_arg (most := most) ha)
  rcases ha with ha | ha
  all_goals
   go_enter Try.func35, Try.ntmps35
   go_wp2
   go_ret3
   exact ⟨tk_mk HK.out, Below.refl _ _⟩
 ·obtain ⟨k, rfl⟩ := Int.eq_ofNat_of_zero_le (show 0 ≤ at_ by omega)
  have hk : k ≤ l.length := by omega
  clear ha
  obtain ⟨L, hL⟩ : ∃ L, L = l.drop k := ⟨_, rfl⟩
  obtain ⟨st, hst⟩ : ∃ st, st = numS ⟨L, 0⟩ := ⟨_, rfl⟩
  obtain ⟨v, hv⟩ : ∃ v, v = numV ⟨L, 0⟩ := ⟨_, rfl⟩
  have hsl : st.l.length ≤ l.length := by
   have h1 := numS_len ⟨L, 0⟩
   rw [← hst] at h1
   simp only [hL, List.length_drop] at h1
   omega
  have HREF : Hid (Ref (w.alloc (.cells #[.string (ba l), .int .i64 (k : Int), .int .i64 0] 64)) w.heap.size l ⟨L, 0⟩) := by
   unfold Hid
   exact ⟨k, hk, hL.symm, is_new w 64 [.string (ba l), .int .i64 (k : Int), .int .i64 0]⟩
  have HS := Lib.hid hst
  have HV := Lib.hid hv
  have HS2 : Hid (st = numS ⟨l.drop k, 0⟩) := by unfold Hid; rw [← hL]; exact hst
  have HV2 : Hid (v = numV ⟨l.drop k, 0⟩) := by unfold Hid; rw [← hL]; exact hv
  clear hL hst hv
  rcases way l most st v with h1 | ⟨h1, h2⟩ | ⟨m, h1, rfl, h2⟩ | ⟨m, h1, rfl, h2, h3⟩ | ⟨m, h1, rfl, h2, h3, h4⟩ | ⟨m, h1, rfl, h2, h3, h4⟩
  ·have HK := Lib.hid (tk_err (most := most) hk HS2.out h1)
   have t1 : (st.e != 0) = true := by simpa using h1
   clear h1
   go_enter Try.func35, Try.ntmps35
   go_wp2_with fail
   refine (rnum_m w.heap.size l ⟨L, 0⟩ hl _ HREF.out).mono ?_
   rintro e w2 ⟨rfl, hr2, ho2⟩
   rw [← HV.out]
   rw [← HS.out] at hr2
   have hb2 := below_only ((Below.refl w.heap.size w).alloc (Nat.le_refl _) _) ho2 ((Below.refl w.heap.size w).alloc (Nat.le_refl _) _).size (Nat.le_refl _)
   clear ho2
   have hce := refS_err0 hr2
   go_wp2_with fail
   go_quiet (fail)
   go_wp2
   go_ret3
   exact ⟨tk_mk HK.out, below_drewN hb2 _⟩
  ·have HK := Lib.hid (tk_big hk HS2.out HV2.out h1 (.inl h2))
   have t1 : (st.e != 0) = false := by rw [h1]; rfl
   clear h1
   go_enter Try.func35, Try.ntmps35
   go_wp2_with fail
   refine (rnum_m w.heap.size l ⟨L, 0⟩ hl _ HREF.out).mono ?_
   rintro e w2 ⟨rfl, hr2, ho2⟩
   rw [← HV.out]
   rw [← HS.out] at hr2
   have hb2 := below_only ((Below.refl w.heap.size w).alloc (Nat.le_refl _) _) ho2 ((Below.refl w.heap.size w).alloc (Nat.le_refl _) _).size (Nat.le_refl _)
   clear ho2
   have hce := refS_err0 hr2
   go_wp2_with fail
   go_ret3
   exact ⟨tk_mk HK.out, hb2⟩
  ·have HK := Lib.hid (tk_big (most := (m : Int)) hk HS2.out HV2.out h1 (.inr (by omega)))
   have t1 : (st.e != 0) = false := by rw [h1]; rfl
   clear h1
   go_enter Try.func35, Try.ntmps35
   go_wp2_with fail
   refine (rnum_m w.heap.size l ⟨L, 0⟩ hl _ HREF.out).mono ?_
   rintro e w2 ⟨rfl, hr2, ho2⟩
   rw [← HV.out]
   rw [← HS.out] at hr2
   have hb2 := below_only ((Below.refl w.heap.size w).alloc (Nat.le_refl _) _) ho2 ((Below.refl w.heap.size w).alloc (Nat.le_refl _) _).size (Nat.le_refl _)
   clear ho2
   have hce := refS_err0 hr2
   go_wp2_with fail
   go_ret3
   exact ⟨tk_mk HK.out, hb2⟩
  ·have HK := Lib.hid (tk_cut (most := (m : Int)) hk HS2.out HV2.out h1 (by omega) h3)
   have t1 : (st.e != 0) = false := by rw [h1]; rfl
   clear h1
   go_enter Try.func35, Try.ntmps35
   go_wp2_with fail
   refine (rnum_m w.heap.size l ⟨L, 0⟩ hl _ HREF.out).mono ?_
   rintro e w2 ⟨rfl, hr2, ho2⟩
   rw [← HV.out]
   rw [← HS.out] at hr2
   have hb2 := below_only ((Below.refl w.heap.size w).alloc (Nat.le_refl _) _) ho2 ((Below.refl w.heap.size w).alloc (Nat.le_refl _) _).size (Nat.le_refl _)
   clear ho2
   have hce := refS_err0 hr2
   go_wp2_with fail
   refine (rleft_m w.heap.size l st hl _ hr2).mono ?_
   rintro e w3 ⟨rfl, nq, rfl⟩
   go_wp2_with fail
   go_ret3
   exact ⟨tk_mk HK.out, below_drewN hb2 _⟩
  ·have HK := Lib.hid (tk_text (most := (m : Int)) hk HS2.out HV2.out h1 (by omega) (by omega) h4)
   have hq := take_ok (n := (v : Int)) h1 (by omega)
   have HQ := Lib.hid hq
   have t1 : (st.e != 0) = false := by rw [h1]; rfl
   have hv63 : v ≤ 9223372036854775807 := by omega
   have htl : (st.l.take v).length ≤ 140737488351232 := by rw [List.length_take]; omega
   clear h1 hq
   go_enter Try.func35, Try.ntmps35
   go_wp2_with fail
   refine (rnum_m w.heap.size l ⟨L, 0⟩ hl _ HREF.out).mono ?_
   rintro e w2 ⟨rfl, hr2, ho2⟩
   rw [← HV.out]
   rw [← HS.out] at hr2
   have hb2 := below_only ((Below.refl w.heap.size w).alloc (Nat.le_refl _) _) ho2 ((Below.refl w.heap.size w).alloc (Nat.le_refl _) _).size (Nat.le_refl _)
   clear ho2
   have hce := refS_err0 hr2
   go_wp2_with fail
   refine (rleft_m w.heap.size l st hl _ hr2).mono ?_
   rintro e w3 ⟨rfl, nq, rfl⟩
   go_wp2_with fail
   refine (rtake_m w.heap.size (v : Int) l st hl _ (refS_drewN0 hr2 nq)).mono ?_
   rintro e w4 ⟨rfl, hr4, ho4⟩
   rw [HQ.out.1]
   rw [HQ.out.2] at hr4
   have hb4 := below_only (below_drewN hb2 nq) ho4 hb2.size (Nat.le_refl _)
   clear ho4 hr2 hce
   go_wp2_with (go_at_call 61; refine (rValid_c _ htl _).mono ?_; rintro e wz ⟨rfl, rfl⟩)
   go_ret3
   exact ⟨tk_mk HK.out, hb4⟩
  ·have HK := Lib.hid (tk_ok (most := (m : Int)) hk HS2.out HV2.out h1 (by omega) (by omega) h4)
   have hq := take_ok (n := (v : Int)) h1 (by omega)
   have HQ := Lib.hid hq
   have t1 : (st.e != 0) = false := by rw [h1]; rfl
   have hv63 : v ≤ 9223372036854775807 := by omega
   have htl : (st.l.take v).length ≤ 140737488351232 := by rw [List.length_take]; omega
   have hdl : (st.l.drop v).length ≤ l.length := by rw [List.length_drop]; omega
   clear h1 hq
   go_enter Try.func35, Try.ntmps35
   go_wp2_with fail
   refine (rnum_m w.heap.size l ⟨L, 0⟩ hl _ HREF.out).mono ?_
   rintro e w2 ⟨rfl, hr2, ho2⟩
   rw [← HV.out]
   rw [← HS.out] at hr2
   have hb2 := below_only ((Below.refl w.heap.size w).alloc (Nat.le_refl _) _) ho2 ((Below.refl w.heap.size w).alloc (Nat.le_refl _) _).size (Nat.le_refl _)
   clear ho2
   have hce := refS_err0 hr2
   go_wp2_with fail
   refine (rleft_m w.heap.size l st hl _ hr2).mono ?_
   rintro e w3 ⟨rfl, nq, rfl⟩
   go_wp2_with fail
   refine (rtake_m w.heap.size (v : Int) l st hl _ (refS_drewN0 hr2 nq)).mono ?_
   rintro e w4 ⟨rfl, hr4, ho4⟩
   rw [HQ.out.1]
   rw [HQ.out.2] at hr4
   have hb4 := below_only (below_drewN hb2 nq) ho4 hb2.size (Nat.le_refl _)
   have hca := refS_at0 hr4
   clear ho4 hr2 hce
   go_wp2_with (go_at_call 61; refine (rValid_c _ htl _).mono ?_; rintro e wz ⟨rfl, rfl⟩)
   go_quiet (fail)
   go_wp2
   go_ret3
   exact ⟨tk_mk (by rw [HK.out, List.length_drop]), below_drewN hb4 _⟩
end Go.Proofs.Ytojhenpaeedimaa
