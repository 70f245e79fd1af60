/-
 Moves as a file, read as they were; a file that is read, as it was; a file cut short: a walk.
-/
import Derived.Test.YtojhenpaeedimaaYa
import Derived.Test.YtojhenpaeedimaaZx
namespace Go.Proofs.Ytojhenpaeedimaa
open Go.RowKit Go.IntWalk
open Pk Ck Rf Fl Wd
set_option maxRecDepth 100000
attribute [local go_sem] Oper.semAt_some
theorem pver_v {f : List UInt8} {S : ByteArray} {v x : Int} (hS : ba f = S) (hf : f.length ≤ 100000000) (h1 : verV f = v) (h2 : verE f = x) (w : World) :
  Calls Try.prog 17 #[.string S] w fun e w' => e = .returned (.tuple #[.int .i64 v, .int .i64 x]) ∧ w = w' := by
 subst hS h1 h2
 exact version_c f (by omega) w
namespace rowsBack
set_option maxHeartbeats 32000000 in
theorem walk (A : Option Addr) (cap : Nat) (l : List Mv) (f : List UInt8) (at_ : Int) (hl : l.length ≤ maxLen) (hm : Moves_ l) (_hf : f.length ≤ maxLen) (w : World) (hc : At w w.heap.size A (mvs l)) :
  Calls Try.prog 5 #[.slice A l.length cap, .string (ba f), .int .i64 at_] w fun e w' => e = .returned (.bool true) ∧ Below w.heap.size w w' := by
 have HC := Lib.hid hc
 have HM := Lib.hid hm
 have hbs := ba_size f
 clear hc hm
 obtain ⟨q, hq⟩ : ∃ q, fewM l 40 = q := ⟨_, rfl⟩
 have HQ := Lib.hid hq
 clear hq
 obtain ⟨⟨l2, x2⟩, h2⟩ : ∃ q, decR f = q := ⟨_, rfl⟩
 have H2 := Lib.hid h2
 clear h2
 go_enter Try.func5, Try.ntmps5
 go_wp2_with fail
 refine (few_z HQ.out rfl (by omega) hl HC.out).mono ?_
 rintro e w1 ⟨rfl, rfl⟩
 cases q with
 | false =>
  go_wp2_with fail
  refine (live21_c _).mono ?_
  rintro e w2 ⟨rfl, hb⟩
  have HZ := Lib.hid ((Below.refl w.heap.size w).trans (hb.mono (Below.refl w.heap.size w).size))
  clear hb
  go_wp2_with fail
  go_ret
  exact ⟨rfl, HZ.out⟩
 | true =>
  have hl40 := (fewM_in HQ.out).1
  have HOK := Lib.hid (few_mok HQ.out HM.out)
  by_cases hbig : 1000 < f.length
  ·have hb1 : (1000 : Int) < (f.length : Int) := by omega
   go_wp2_with fail
   refine (live21_c _).mono ?_
   rintro e w2 ⟨rfl, hb⟩
   have HZ := Lib.hid ((Below.refl w.heap.size w).trans (hb.mono (Below.refl w.heap.size w).size))
   clear hb
   go_wp2_with fail
   go_ret
   exact ⟨rfl, HZ.out⟩
  ·have hb1 : ¬ (1000 : Int) < (f.length : Int) := by omega
   have HFF := Lib.hid (show f.length ≤ 100000000 by omega)
   have hln : l.length ≤ 10000 := by omega
   have HLN := Lib.hid hln
   obtain ⟨qm, hqm⟩ : ∃ q, mayM l = q := ⟨_, rfl⟩
   have HQM := Lib.hid hqm
   clear hqm hbig hln
   cases qm with
   | false =>
    have he := encT_not HQM.out
    have HE := Lib.hid (show ba (encT l) = ⟨#[]⟩ by rw [he.1]; rfl)
    have HX := Lib.hid he.2
    clear he
    go_wp2_with fail
    refine (pencode_v rfl HE.out HX.out HLN.out HOK.out HC.out).mono ?_
    rintro e w2 ⟨rfl, hb⟩
    have HC2 := Lib.hid (HC.out.keep hb)
    have HB2 := Lib.hid hb
    clear hb
    go_wp2_with fail
    refine (rmay_q HQM.out hl HM.out HC2.out).mono ?_
    rintro e w3 ⟨rfl, hb⟩
    have HB3 := Lib.hid (HB2.out.trans (hb.mono HB2.out.size))
    clear hb
    go_wp2_with fail
    refine (pdec_v rfl HFF.out H2.out _).mono ?_
    rintro e wd ⟨A2, c2, rfl, a2, hb⟩
    have HD := Lib.hid (HB3.out.trans (hb.mono HB3.out.size))
    have P2 := Lib.hid a2
    clear a2 hb
    by_cases hx2 : x2 = 0
    ·have hb2 := decR_back (by rw [H2.out, hx2])
     have he2 := encT_may hb2.2
     have hx2a : (x2 != 0) = false := by rw [hx2]; rfl
     have hx2b : (x2 == 0) = true := by rw [hx2]; rfl
     have HE2 := Lib.hid (show ba (encT l2) = ba f by rw [he2.1, ← hb2.1])
     have HE3 := Lib.hid he2.2
     have HL2 := Lib.hid (show l2.length ≤ 10000 by have := (dec_names H2.out).2; omega)
     clear hx2 hb2 he2
     go_wp2_with fail
     refine (pencode_v rfl HE2.out HE3.out HL2.out (dec_mok H2.out) P2.out).mono ?_
     rintro e we ⟨rfl, hb⟩
     have HE := Lib.hid (HD.out.trans (hb.mono HD.out.size))
     clear hb
     go_wp2_with fail
     refine (live21_c _).mono ?_
     rintro e wf ⟨rfl, hb⟩
     have HZ := Lib.hid (HE.out.trans (hb.mono HE.out.size))
     clear hb
     go_wp2_with fail
     go_ret
     exact ⟨rfl, HZ.out⟩
    ·have hx2a : (x2 != 0) = true := by simpa using hx2
     have hx2b : (x2 == 0) = false := by simpa using hx2
     have hn2 : l2 = [] := by have h := decR_none (f := f) (by rw [H2.out]; exact hx2); rw [H2.out] at h; exact h
     have hz2 : l2.length = 0 := by rw [hn2]; rfl
     clear hx2 hn2 P2
     go_wp2_with fail
     refine (live21_c _).mono ?_
     rintro e wf ⟨rfl, hb⟩
     have HZ := Lib.hid (HD.out.trans (hb.mono HD.out.size))
     clear hb
     go_wp2_with fail
     go_ret
     exact ⟨rfl, HZ.out⟩
   | true =>
    have he := encT_may HQM.out
    obtain ⟨S, hS⟩ : ∃ S, ba (encB l) = S := ⟨_, rfl⟩
    have HS := Lib.hid hS
    have HE := Lib.hid (show ba (encT l) = S by rw [he.1]; exact hS)
    have HX := Lib.hid he.2
    have hlen := encB_few (fewM_in HQ.out).2 (by omega)
    obtain ⟨n, hn⟩ : ∃ n, (encB l).length = n := ⟨_, rfl⟩
    rw [hn] at hlen
    have hsz : S.size = n := by rw [← hS, ba_size, hn]
    have HLE := Lib.hid (show (encB l).length ≤ 100000000 by omega)
    have HDE := Lib.hid (decR_enc l HQM.out (fun m hm => (HM.out m hm).1))
    have HV := Lib.hid (encB_ver l)
    have HSB := Lib.hid (same_bk (fun m hm => (HM.out m hm).1))
    have HN := Lib.hid hn
    clear he hS hn
    go_wp2_with fail
    refine (pencode_v rfl HE.out HX.out HLN.out HOK.out HC.out).mono ?_
    rintro e w2 ⟨rfl, hb⟩
    have HC2 := Lib.hid (HC.out.keep hb)
    have HB2 := Lib.hid hb
    clear hb
    go_wp2_with fail
    refine (rmay_q HQM.out hl HM.out HC2.out).mono ?_
    rintro e w3 ⟨rfl, hb⟩
    have HC3 := Lib.hid (HC2.out.keep hb)
    have HB3 := Lib.hid (HB2.out.trans (hb.mono HB2.out.size))
    clear hb
    go_wp2_with fail
    refine (pdec_v HS.out HLE.out HDE.out _).mono ?_
    rintro e w4 ⟨A4, c4, rfl, a4, hb⟩
    have HC4 := Lib.hid (HC3.out.keep hb)
    have HB4 := Lib.hid (HB3.out.trans (hb.mono HB3.out.size))
    have P4 := Lib.hid a4
    clear a4 hb
    go_wp2_with fail
    refine (pver_v HS.out HLE.out HV.out.2 HV.out.1 _).mono ?_
    rintro e w5 ⟨rfl, hw5⟩
    subst hw5
    go_wp2_with fail
    refine (rmsame_v HSB.out (List.length_map ..) rfl (by rw [List.length_map]; exact hl) hl (bk_moves HM.out) HM.out P4.out HC4.out).mono ?_
    rintro e w6 ⟨rfl, hb⟩
    have HB6 := Lib.hid (HB4.out.trans (hb.mono HB4.out.size))
    clear hb
    rcases Int.lt_or_le at_ 0 with hneg | hpos
    ·have hq0 : decide ((0 : Int) ≤ at_) = false := decide_eq_false (by omega)
     clear hneg
     go_wp2_with fail
     refine (pdec_v rfl HFF.out H2.out _).mono ?_
     rintro e wd ⟨A2, c2, rfl, a2, hb⟩
     have HD := Lib.hid (HB6.out.trans (hb.mono HB6.out.size))
     have P2 := Lib.hid a2
     clear a2 hb
     by_cases hx2 : x2 = 0
     ·have hb2 := decR_back (by rw [H2.out, hx2])
      have he2 := encT_may hb2.2
      have hx2a : (x2 != 0) = false := by rw [hx2]; rfl
      have hx2b : (x2 == 0) = true := by rw [hx2]; rfl
      have HE2 := Lib.hid (show ba (encT l2) = ba f by rw [he2.1, ← hb2.1])
      have HE3 := Lib.hid he2.2
      have HL2 := Lib.hid (show l2.length ≤ 10000 by have := (dec_names H2.out).2; omega)
      clear hx2 hb2 he2
      go_wp2_with fail
      refine (pencode_v rfl HE2.out HE3.out HL2.out (dec_mok H2.out) P2.out).mono ?_
      rintro e we ⟨rfl, hb⟩
      have HE := Lib.hid (HD.out.trans (hb.mono HD.out.size))
      clear hb
      go_wp2_with fail
      refine (live21_c _).mono ?_
      rintro e wf ⟨rfl, hb⟩
      have HZ := Lib.hid (HE.out.trans (hb.mono HE.out.size))
      clear hb
      go_wp2_with fail
      go_ret
      exact ⟨rfl, HZ.out⟩
     ·have hx2a : (x2 != 0) = true := by simpa using hx2
      have hx2b : (x2 == 0) = false := by simpa using hx2
      have hn2 : l2 = [] := by have h := decR_none (f := f) (by rw [H2.out]; exact hx2); rw [H2.out] at h; exact h
      have hz2 : l2.length = 0 := by rw [hn2]; rfl
      clear hx2 hn2 P2
      go_wp2_with fail
      refine (live21_c _).mono ?_
      rintro e wf ⟨rfl, hb⟩
      have HZ := Lib.hid (HD.out.trans (hb.mono HD.out.size))
      clear hb
      go_wp2_with fail
      go_ret
      exact ⟨rfl, HZ.out⟩
    ·have hq0 : decide ((0 : Int) ≤ at_) = true := decide_eq_true (by omega)
     rcases Int.lt_or_le at_ (n : Int) with hlt | hge
     ·have hq1 : decide (at_ < (n : Int)) = true := decide_eq_true hlt
      obtain ⟨k, rfl⟩ := Int.eq_ofNat_of_zero_le hpos
      have hkn : k < n := by omega
      have hcut := decR_cut HQM.out (fun m hm => (HM.out m hm).1) (k := k) (by rw [HN.out]; exact hkn)
      obtain ⟨⟨l3, x3⟩, h3⟩ : ∃ q, decR ((encB l).take k) = q := ⟨_, rfl⟩
      rw [h3] at hcut
      have hx3 : x3 ≠ 0 := hcut
      have hn3 : l3 = [] := by have h := decR_none (f := (encB l).take k) (by rw [h3]; exact hx3); rw [h3] at h; exact h
      subst hn3
      obtain ⟨S3, hS3⟩ : ∃ S, ba ((encB l).take k) = S := ⟨_, rfl⟩
      have hex : S.extract 0 k = S3 := by rw [← HS.out, ← hS3]; exact extract_take _ _
      have hx3a : (x3 == 0) = false := by simpa using hx3
      have H3 := Lib.hid h3
      have HS3 := Lib.hid hS3
      have HT3 := Lib.hid (show ((encB l).take k).length ≤ 100000000 by rw [List.length_take, HN.out]; omega)
      have hk0 : (0 : Int) ≤ (k : Int) := by omega
      have hkn' : (k : Int) ≤ (n : Int) := by omega
      clear hcut h3 hS3 hx3 hkn hpos
      go_wp2_with fail
      refine (pdec_v HS3.out HT3.out H3.out _).mono ?_
      rintro e w7 ⟨A7, c7, rfl, -, hb⟩
      have HB7 := Lib.hid (HB6.out.trans (hb.mono HB6.out.size))
      clear hb
      go_wp2_with fail
      refine (pdec_v rfl HFF.out H2.out _).mono ?_
      rintro e wd ⟨A2, c2, rfl, a2, hb⟩
      have HD := Lib.hid (HB7.out.trans (hb.mono HB7.out.size))
      have P2 := Lib.hid a2
      clear a2 hb
      by_cases hx2 : x2 = 0
      ·have hb2 := decR_back (by rw [H2.out, hx2])
       have he2 := encT_may hb2.2
       have hx2a : (x2 != 0) = false := by rw [hx2]; rfl
       have hx2b : (x2 == 0) = true := by rw [hx2]; rfl
       have HE2 := Lib.hid (show ba (encT l2) = ba f by rw [he2.1, ← hb2.1])
       have HE3 := Lib.hid he2.2
       have HL2 := Lib.hid (show l2.length ≤ 10000 by have := (dec_names H2.out).2; omega)
       clear hx2 hb2 he2
       go_wp2_with fail
       refine (pencode_v rfl HE2.out HE3.out HL2.out (dec_mok H2.out) P2.out).mono ?_
       rintro e we ⟨rfl, hb⟩
       have HE := Lib.hid (HD.out.trans (hb.mono HD.out.size))
       clear hb
       go_wp2_with fail
       refine (live21_c _).mono ?_
       rintro e wf ⟨rfl, hb⟩
       have HZ := Lib.hid (HE.out.trans (hb.mono HE.out.size))
       clear hb
       go_wp2_with fail
       go_ret
       exact ⟨rfl, HZ.out⟩
      ·have hx2a : (x2 != 0) = true := by simpa using hx2
       have hx2b : (x2 == 0) = false := by simpa using hx2
       have hn2 : l2 = [] := by have h := decR_none (f := f) (by rw [H2.out]; exact hx2); rw [H2.out] at h; exact h
       have hz2 : l2.length = 0 := by rw [hn2]; rfl
       clear hx2 hn2 P2
       go_wp2_with fail
       refine (live21_c _).mono ?_
       rintro e wf ⟨rfl, hb⟩
       have HZ := Lib.hid (HD.out.trans (hb.mono HD.out.size))
       clear hb
       go_wp2_with fail
       go_ret
       exact ⟨rfl, HZ.out⟩
     ·have hq1 : decide (at_ < (n : Int)) = false := decide_eq_false (by omega)
      clear hge hpos
      go_wp2_with fail
      refine (pdec_v rfl HFF.out H2.out _).mono ?_
      rintro e wd ⟨A2, c2, rfl, a2, hb⟩
      have HD := Lib.hid (HB6.out.trans (hb.mono HB6.out.size))
      have P2 := Lib.hid a2
      clear a2 hb
      by_cases hx2 : x2 = 0
      ·have hb2 := decR_back (by rw [H2.out, hx2])
       have he2 := encT_may hb2.2
       have hx2a : (x2 != 0) = false := by rw [hx2]; rfl
       have hx2b : (x2 == 0) = true := by rw [hx2]; rfl
       have HE2 := Lib.hid (show ba (encT l2) = ba f by rw [he2.1, ← hb2.1])
       have HE3 := Lib.hid he2.2
       have HL2 := Lib.hid (show l2.length ≤ 10000 by have := (dec_names H2.out).2; omega)
       clear hx2 hb2 he2
       go_wp2_with fail
       refine (pencode_v rfl HE2.out HE3.out HL2.out (dec_mok H2.out) P2.out).mono ?_
       rintro e we ⟨rfl, hb⟩
       have HE := Lib.hid (HD.out.trans (hb.mono HD.out.size))
       clear hb
       go_wp2_with fail
       refine (live21_c _).mono ?_
       rintro e wf ⟨rfl, hb⟩
       have HZ := Lib.hid (HE.out.trans (hb.mono HE.out.size))
       clear hb
       go_wp2_with fail
       go_ret
       exact ⟨rfl, HZ.out⟩
      ·have hx2a : (x2 != 0) = true := by simpa using hx2
       have hx2b : (x2 == 0) = false := by simpa using hx2
       have hn2 : l2 = [] := by have h := decR_none (f := f) (by rw [H2.out]; exact hx2); rw [H2.out] at h; exact h
       have hz2 : l2.length = 0 := by rw [hn2]; rfl
       clear hx2 hn2 P2
       go_wp2_with fail
       refine (live21_c _).mono ?_
       rintro e wf ⟨rfl, hb⟩
       have HZ := Lib.hid (HD.out.trans (hb.mono HD.out.size))
       clear hb
       go_wp2_with fail
       go_ret
       exact ⟨rfl, HZ.out⟩
end rowsBack
end Go.Proofs.Ytojhenpaeedimaa
