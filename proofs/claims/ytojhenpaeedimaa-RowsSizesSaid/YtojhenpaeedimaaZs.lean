/-
 Decode: the document's.
-/
import Derived.Test.YtojhenpaeedimaaZt
import Derived.Test.YtojhenpaeedimaaZl
import Derived.Test.YtojhenpaeedimaaEf
import Derived.Test.YtojhenpaeedimaaBl
import Derived.Test.YtojhenpaeedimaaUg
import Derived.Test.YtojhenpaeedimaaUh
import Derived.Test.YtojhenpaeedimaaUk
import Derived.Test.YtojhenpaeedimaaCue
namespace Go.Proofs.Ytojhenpaeedimaa
open Go.RowKit Go.IntWalk
open Pk Ck Rf Fl Wd
set_option maxRecDepth 100000
attribute [local go_sem] Oper.semAt_some
theorem at_boxD (w : World) (m : Mv) : At (w.alloc (.cells #[.int .i64 (mc m), .int .i64 (mr m), .int .i64 (pa (mw m)), .int .i64 (ch (mw m)), .string (ba (nm (mw m))), .float .f64 (rk (mw m))] 30)) (w.heap.size + 1) (some ⟨w.heap.size, 0, none⟩) (mvs [m]) := fun i v hv =>
 ⟨w.heap.size, 0, rfl, Nat.lt_succ_self _, by rw [Nat.zero_add]; exact (is_cell (is_new w 30 (mvs [m])) i).trans hv⟩
theorem is_grownD {w1 w2 : World} {B n size : Nat} {e t : TypeId} {v : Value} {xs vs : List Value} (h : Is w1 B t vs) (hown : w1.ownsRow (B + 1) e size v n xs) (hg : w1.grownBy w2 v.ownBlock) : Is w2 B t vs := by
 refine (hg.block B (is_lt h) (fun e => ?_)).trans h
 have := (hown.lt B e.symm).1
 omega
def RDecEnd (f : List UInt8) (w : World) (e : Ending) (w' : World) : Prop :=
 Below w.heap.size w w' ∧ ∃ (A : Option Addr) (cap : Nat) (l : List Mv), e = .returned (.tuple #[.slice A l.length cap, .int .i64 (decR f).2]) ∧ SimL l (decR f).1 ∧ At w' w'.heap.size A (mvs l)
theorem rdec_none {f : List UInt8} {w w' : World} {x : Int} (hb : Below w.heap.size w w') (h : decR f = ([], x)) : RDecEnd f w (.returned (.tuple #[.slice none 0 0, .int .i64 x])) w' := by
 unfold RDecEnd
 rw [h]
 exact ⟨hb, none, 0, [], rfl, trivial, At.nil _ _ _⟩
/-- the loop of the document's Decode, behind k moves -/
structure DLi (w : World) (f : List UInt8) (g : Nat) (W : World) (k : Nat) (c r : Int) (s : St) (v : Value) (done out : List Mv) : Prop where
 rdr : Ref W g f s
 row : W.ownsRow (g + 1) 30 6 v k (mvs out)
 own : Below w.heap.size w W
 gl : w.heap.size ≤ g
 lt : g < W.heap.size
 len : out.length = k
 sim : SimL out done
 last : k ≠ 0 → ∃ m, out[k - 1]? = some m ∧ mc m = c ∧ mr m = r
theorem ref_is {W : World} {g : Nat} {f : List UInt8} {s : St} (h : Ref W g f s) : ∃ k : Nat, k ≤ f.length ∧ f.drop k = s.l ∧ RefAt W g f k s.e := h
theorem own_not {W : World} {g : Nat} {v : Value} {k : Nat} {xs : List Value} {e : TypeId} {n : Nat} (h : W.ownsRow (g + 1) e n v k xs) : v.ownBlock = none ∨ v.ownBlock ≠ some g := by
 cases hv : v.ownBlock with
 | none => exact .inl rfl
 | some b => right; intro e; have := (h.lt b hv).1; injection e; omega
theorem DLi.grow {w W W' : World} {f : List UInt8} {g k : Nat} {c r : Int} {s s' : St} {v : Value} {done out : List Mv} (h : DLi w f g W k c r s v done out) (hr : Ref W' g f s') (hk : W.grownBy W' (some g)) : DLi w f g W' k c r s' v done out :=
 ⟨hr, h.row.kept hk (own_not h.row), below_only h.own hk (by have := h.lt; have := h.gl; omega) h.gl, h.gl, Nat.lt_of_lt_of_le h.lt hk.size, h.len, h.sim, h.last⟩
theorem ref_keep {W W' : World} {g : Nat} {f : List UInt8} {s : St} (h : Ref W g f s) (hl : g < W.heap.size) (hb : Below W.heap.size W W') : Ref W' g f s := by
 obtain ⟨k, h1, h2, h3⟩ := h
 exact ⟨k, h1, h2, is_below h3 hb hl⟩
theorem DLi.below {w W W' : World} {f : List UInt8} {g k : Nat} {c r : Int} {s : St} {v : Value} {done out : List Mv} (h : DLi w f g W k c r s v done out) (hb : Below W.heap.size W W') : DLi w f g W' k c r s v done out :=
 ⟨ref_keep h.rdr h.lt hb, below_ownI h.row hb, h.own.trans (hb.mono (by have := h.own.size; omega)), h.gl, Nat.lt_of_lt_of_le h.lt hb.size, h.len, h.sim, h.last⟩
set_option maxHeartbeats 16000000 in
theorem rdecode_d (f : List UInt8) (hf : f.length ≤ 100000000) (w : World) :
  Calls Try.prog 14 #[.string (ba f)] w (RDecEnd f w) := by
 have hbs := ba_size f
 have hl64 : f.length ≤ 140737488351232 := by omega
 obtain ⟨ve, hve⟩ : ∃ ve, verE f = ve := ⟨_, rfl⟩
 obtain ⟨vv, hvv⟩ : ∃ vv, verV f = vv := ⟨_, rfl⟩
 have hver := rversion_c f (by omega) w
 unfold VerEnd at hver
 rw [hve, hvv] at hver
 have HV := Lib.hid hver
 have HVE := Lib.hid hve
 have HVV := Lib.hid hvv
 clear hver hve hvv
 go_enter Try.func14, Try.ntmps14
 go_wp2_with fail
 refine HV.out.mono ?_
 rintro e W1 ⟨rfl, hb1⟩
 have HB1 : Hid (Below w.heap.size w W1) := Lib.hid (by rw [← hb1]; exact Below.refl _ _)
 clear hb1
 by_cases he : ve = 0
 ·subst he
  by_cases h1 : vv = 1
  ·subst h1
   have hlen : 5 ≤ f.length := by
    have h := HVE.out
    unfold verE at h
    split at h
    ·cases h
    ·split at h
     ·cases h
     ·omega
   obtain ⟨s1, hs1⟩ : ∃ s1, numS ⟨f.drop 5, 0⟩ = s1 := ⟨_, rfl⟩
   obtain ⟨n, hn⟩ : ∃ n, numV ⟨f.drop 5, 0⟩ = n := ⟨_, rfl⟩
   have HD := Lib.hid (decR_rest HVE.out HVV.out hs1 hn)
   obtain ⟨g, hg⟩ : ∃ g, W1.heap.size = g := ⟨_, rfl⟩
   obtain ⟨W2, hW2⟩ : ∃ W2, W2 = W1.alloc (.cells #[.string (ba f), .int .i64 5, .int .i64 0] 64) := ⟨_, rfl⟩
   have hr2 : Ref W2 g f ⟨f.drop 5, 0⟩ := ⟨5, hlen, rfl, by rw [hW2, ← hg]; exact is_new W1 64 [.string (ba f), .int .i64 (5 : Int), .int .i64 0]⟩
   have b2 : Below w.heap.size w W2 := by rw [hW2]; exact HB1.out.alloc HB1.out.size _
   have hwg : w.heap.size ≤ g := by rw [← hg]; exact HB1.out.size
   have hg2 : g < W2.heap.size := by rw [hW2, size_alloc, hg]; omega
   have hnum := rnum_m g f ⟨f.drop 5, 0⟩ hl64 W2 hr2
   rw [hs1, hn] at hnum
   have HN := Lib.hid hnum
   have H2 := Lib.hid hW2
   have B2 := Lib.hid b2
   clear hnum hW2 b2 hr2 hs1 hlen
   go_wp2_with fail
   rw [← H2.out]
   refine HN.out.mono ?_
   rintro e W3 ⟨rfl, hr3, hk3⟩
   have b3 : Below w.heap.size w W3 := below_only B2.out hk3 B2.out.size hwg
   have hg3 : g < W3.heap.size := Nat.lt_of_lt_of_le hg2 hk3.size
   obtain ⟨k3, -, -, ha3⟩ := ref_is hr3
   have y2 := ref_e ha3
   have B3 := Lib.hid b3
   have R3 := Lib.hid hr3
   clear b3 hk3 hr3 ha3 hg2
   by_cases hse : s1.e = 0
   ·rw [hse] at y2
    by_cases hb : 2000 < n
    ·have hbi : (2000 : Int) < (n : Int) := by omega
     go_wp2_with fail
     go_ret2
     exact rdec_none B3.out (by rw [HD.out, if_neg (by simp [hse]), if_pos hb])
    ·have hbi : ¬ ((2000 : Int) < (n : Int)) := by omega
     have hwn : IntKind.i64.wrap (n : Int) = (n : Int) := IntWalk.i64_in _ (by omega)
     have M3 : Hid (DLi w f g W3 0 0 0 s1 (.slice none 0 0) [] []) := Lib.hid ⟨R3.out, World.ownsRow_nil _ _ _ _, B3.out, hwg, hg3, rfl, trivial, fun h => absurd rfl h⟩
     have HDD := Lib.hid (show decR f = if (rdL f n 0 0 s1).2.1 ≠ 0 then ([], (rdL f n 0 0 s1).2.1) else if doneV (rdL f n 0 0 s1).2.2 ≠ 0 then ([], doneV (rdL f n 0 0 s1).2.2) else ((rdL f n 0 0 s1).1, 0) by rw [HD.out, if_neg (by simp [hse]), if_neg hb])
     clear HD HN R3 B3 B2 H2 hn
     go_wp2_with fail
     clear y2 hbi hb hg
     go_loopw [8, 9] (fun v i wr => ∃ (k : Nat) (c r : Int) (sk : St) (done out : List Mv), i = .int .i64 (k : Int) ∧ k ≤ n ∧ sk.e = 0 ∧ Lst f n s1 k c r sk done ∧ (k = 0 → c = 0 ∧ r = 0) ∧ DLi w f g wr k c r sk v done out) (fun _ i _ => n - (Go.RowKit.intOf i).toNat)
     case atStart => exact ⟨0, 0, 0, s1, [], [], rfl, Nat.zero_le _, hse, Lst.start f n s1, fun _ => ⟨rfl, rfl⟩, M3.out⟩
     case round =>
      clear M3
      obtain ⟨k, c, r, sk, done, out, rfl, hk, hske, hlst, hcr, hli⟩ := hrel
      have HSKE := Lib.hid hske
      have HCR := Lib.hid hcr
      clear hske hcr
      have HL := Lib.hid hlst
      have M0 := Lib.hid hli
      clear hlst hli
      by_cases hlt : k < n
      ·have hki : (0 : Int) ≤ (k : Int) := by omega
       have hkn : (k : Int) < (n : Int) := by omega
       obtain ⟨s2, hs2⟩ : ∃ s2, numS sk = s2 := ⟨_, rfl⟩
       obtain ⟨s3, hs3⟩ : ∃ s3, numS s2 = s3 := ⟨_, rfl⟩
       obtain ⟨s4, hs4⟩ : ∃ s4, numS s3 = s4 := ⟨_, rfl⟩
       obtain ⟨s5, hs5⟩ : ∃ s5, numS s4 = s5 := ⟨_, rfl⟩
       obtain ⟨n1, hn1⟩ : ∃ n1, numV sk = n1 := ⟨_, rfl⟩
       obtain ⟨n2, hn2⟩ : ∃ n2, numV s2 = n2 := ⟨_, rfl⟩
       obtain ⟨n3, hn3⟩ : ∃ n3, numV s3 = n3 := ⟨_, rfl⟩
       obtain ⟨n4, hn4⟩ : ∃ n4, numV s4 = n4 := ⟨_, rfl⟩
       have l1 : n1 < 18446744073709551616 := by rw [← hn1]; exact numV_lt _
       have l2 : n2 < 18446744073709551616 := by rw [← hn2]; exact numV_lt _
       have l3 : n3 < 18446744073709551616 := by rw [← hn3]; exact numV_lt _
       have l4 : n4 < 18446744073709551616 := by rw [← hn4]; exact numV_lt _
       have HL4 := Lib.hid (And.intro l1 (And.intro l2 (And.intro l3 l4)))
       have HS2 := Lib.hid hs2
       have HS3 := Lib.hid hs3
       have HS4 := Lib.hid hs4
       have HS5 := Lib.hid hs5
       have HN1 := Lib.hid hn1
       have HN2 := Lib.hid hn2
       have HN3 := Lib.hid hn3
       have HN4 := Lib.hid hn4
       clear l1 l2 l3 l4 hs2 hs3 hs4 hs5 hn1 hn2 hn3 hn4
       go_wp2_with fail
       refine (rnum_m g f sk hl64 _ M0.out.rdr).mono ?_
       rintro e w1 ⟨rfl, hr, hk1⟩
       rw [HS2.out] at hr
       rw [HN1.out]
       have M1 := Lib.hid (M0.out.grow hr hk1)
       clear hr hk1
       go_wp2_with fail
       refine (rnum_m g f s2 hl64 _ M1.out.rdr).mono ?_
       rintro e w2 ⟨rfl, hr, hk1⟩
       rw [HS3.out] at hr
       rw [HN2.out]
       have M2 := Lib.hid (M1.out.grow hr hk1)
       clear hr hk1
       go_wp2_with fail
       refine (rnum_m g f s3 hl64 _ M2.out.rdr).mono ?_
       rintro e w3 ⟨rfl, hr, hk1⟩
       rw [HS4.out] at hr
       rw [HN3.out]
       have M3 := Lib.hid (M2.out.grow hr hk1)
       clear hr hk1
       go_wp2_with fail
       refine (rnum_m g f s4 hl64 _ M3.out.rdr).mono ?_
       rintro e w4 ⟨rfl, hr, hk1⟩
       rw [HS5.out] at hr
       rw [HN4.out]
       have M4 := Lib.hid (M3.out.grow hr hk1)
       clear hr hk1
       obtain ⟨K, hK, hdK, haK⟩ := M4.out.rdr
       have HK := Lib.hid hK
       have HDK := Lib.hid hdK
       have HAK := Lib.hid haK
       have y1 := ref_at haK
       have y2 := ref_e haK
       have hat : (f.length : Int) - (s5.l.length : Int) = (K : Int) := by rw [← hdK, List.length_drop]; omega
       have HAT := Lib.hid hat
       clear hK hdK haK hat
       by_cases h5 : s5.e = 0
       ·rw [h5] at y2
        obtain ⟨tn, to, te, ht⟩ : ∃ tn to te, tk f (K : Int) 64 = (tn, to, te) := ⟨_, _, _, rfl⟩
        have HT := Lib.hid ht
        clear ht
        go_wp2_with fail
        refine (rtake_w f hl64 (K : Int) 64 (by omega) _).mono ?_
        rintro e w5 ⟨htk, hb5⟩
        unfold Tk at htk
        rw [HT.out] at htk
        simp only at htk
        subst htk
        have M5 := Lib.hid (M4.out.below hb5)
        have hak := is_below HAK.out hb5 M4.out.lt
        have z1 := ref_at hak
        have f1 := is_free hak 1
        have HAK5 := Lib.hid hak
        clear hb5 y1 y2 hak
        by_cases hte : te = 0
        ·subst hte
         obtain ⟨T, rfl, hT, hdT, heT, htl⟩ := take_tk HK.out HDK.out h5 HT.out
         obtain ⟨s6, hs6⟩ : ∃ s6, takeS ((T : Int) - (K : Int)) s5 = s6 := ⟨_, rfl⟩
         obtain ⟨s7, hs7⟩ : ∃ s7, fixS s6 = s7 := ⟨_, rfl⟩
         obtain ⟨u, hu⟩ : ∃ u, fixV s6 = u := ⟨_, rfl⟩
         rw [hs6] at hdT heT
         obtain ⟨W6, hW6⟩ : ∃ W6, W6 = w5.setCell ⟨g, 1, none⟩ (.int .i64 (T : Int)) := ⟨_, rfl⟩
         have hr6 : Ref W6 g f s6 := ⟨T, hT, hdT, by rw [heT, hW6]; have h := HAK5.out; rw [h5] at h; exact ref_setAt h _ T rfl⟩
         have M6 := Lib.hid (M5.out.grow hr6 (by rw [hW6]; exact only_set _ _ _ _))
         have hmm := rdM_doc (tn := tn) (to := (T : Int)) (te := 0) HS2.out HS3.out HS4.out HS5.out (by rw [HAT.out]; exact HT.out) (by rw [HAT.out]; exact hs6) hs7
         rw [if_neg (show ¬ s5.e ≠ 0 by simp [h5]), if_neg (show ¬ ((0 : Int) ≠ 0) by simp), HN1.out, HN2.out, HN3.out, HN4.out, hu] at hmm
         have hul : u < 18446744073709551616 := by rw [← hu]; exact fixV_lt _
         have HU := Lib.hid hu
         have HS7 := Lib.hid hs7
         have HM0 := Lib.hid hmm
         have H6 := Lib.hid hW6
         have HTL := Lib.hid htl
         clear hmm hs6 hs7 hu hdT heT hr6 hW6 hT htl
         go_wp2_with fail
         rw [← H6.out]
         refine (rfix_m g f s6 hl64 _ M6.out.rdr).mono ?_
         rintro e w7 ⟨rfl, hr, hk1⟩
         rw [HS7.out] at hr
         rw [HU.out]
         have M7 := Lib.hid (M6.out.grow hr hk1)
         obtain ⟨K7, -, -, ha7⟩ := ref_is hr
         have y2 := ref_e ha7
         clear hr hk1 z1 f1 ha7
         by_cases h7 : s7.e = 0
         ·rw [h7] at y2
          have HM1 := HM0.out
          rw [if_neg (show ¬ s7.e ≠ 0 by simp [h7])] at HM1
          have HMH := Lib.hid HM1
          have H7 := Lib.hid h7
          clear HM1
          cases hc : cn u with
          | false =>
           have HMM := Lib.hid (show rdM f sk = (zM, 5, s7) by rw [HMH.out, hc]; rfl)
           have HC := Lib.hid hc
           clear hc
           go_wp2_with fail
           refine (rCanon_c u hul _).mono ?_
           rintro e w8 ⟨rfl, hw8⟩
           subst hw8
           rw [HC.out]
           go_wp2_with fail
           go_ret2
           exact rdec_none M7.out.own (by rw [HDD.out, HL.out.err hlt HMM.out (by simp), if_pos (by simp)])
          | true =>
           have HC := Lib.hid hc
           clear hc
           --TAIL
           go_wp2_with fail
           refine (rCanon_c u hul _).mono ?_
           rintro e w8 ⟨rfl, hw8⟩
           subst hw8
           rw [HC.out]
           by_cases b0 : 9223372036854775808 ≤ n1
           ·have HB := i64_neg b0 HL4.out.1
            have q0 : decide ((9223372036854775808 : Int) ≤ (n1 : Int)) = true := decide_eq_true (by omega)
            clear b0
            have HMM := Lib.hid (show rdM f sk = (zM, 5, s7) by rw [HMH.out, oneM_neg (.inl HB)]; simp)
            clear HB
            go_wp2_with fail
            go_ret2
            exact rdec_none M7.out.own (by rw [HDD.out, HL.out.err hlt HMM.out (by simp), if_pos (by simp)])
           have q0 : decide ((9223372036854775808 : Int) ≤ (n1 : Int)) = false := decide_eq_false (by omega)
           have I0 := Lib.hid (i64_nat b0)
           have x0 : IntKind.i64.wrap (n1 : Int) = (n1 : Int) ∧ Go.RowKit.wrap64 (n1 : Int) = (n1 : Int) := by
            rw [i64_wrap HL4.out.1]
            exact ⟨I0.out, wrap64_in _ (by omega)⟩
           have X0 := Lib.hid x0
           clear b0 x0
           by_cases b1 : 9223372036854775808 ≤ n2
           ·have HB := i64_neg b1 HL4.out.2.1
            have q1 : decide ((9223372036854775808 : Int) ≤ (n2 : Int)) = true := decide_eq_true (by omega)
            clear b1
            have HMM := Lib.hid (show rdM f sk = (zM, 5, s7) by rw [HMH.out, oneM_neg (.inr (.inl HB))]; simp)
            clear HB
            go_wp2_with fail
            go_ret2
            exact rdec_none M7.out.own (by rw [HDD.out, HL.out.err hlt HMM.out (by simp), if_pos (by simp)])
           have q1 : decide ((9223372036854775808 : Int) ≤ (n2 : Int)) = false := decide_eq_false (by omega)
           have I1 := Lib.hid (i64_nat b1)
           have x1 : IntKind.i64.wrap (n2 : Int) = (n2 : Int) ∧ Go.RowKit.wrap64 (n2 : Int) = (n2 : Int) := by
            rw [i64_wrap HL4.out.2.1]
            exact ⟨I1.out, wrap64_in _ (by omega)⟩
           have X1 := Lib.hid x1
           clear b1 x1
           by_cases b2 : 9223372036854775808 ≤ n3
           ·have HB := i64_neg b2 HL4.out.2.2.1
            have q2 : decide ((9223372036854775808 : Int) ≤ (n3 : Int)) = true := decide_eq_true (by omega)
            clear b2
            have HMM := Lib.hid (show rdM f sk = (zM, 5, s7) by rw [HMH.out, oneM_neg (.inr (.inr (.inr HB)))]; simp)
            clear HB
            go_wp2_with fail
            go_ret2
            exact rdec_none M7.out.own (by rw [HDD.out, HL.out.err hlt HMM.out (by simp), if_pos (by simp)])
           have q2 : decide ((9223372036854775808 : Int) ≤ (n3 : Int)) = false := decide_eq_false (by omega)
           have I2 := Lib.hid (i64_nat b2)
           have x2 : IntKind.i64.wrap (n3 : Int) = (n3 : Int) ∧ Go.RowKit.wrap64 (n3 : Int) = (n3 : Int) := by
            rw [i64_wrap HL4.out.2.2.1]
            exact ⟨I2.out, wrap64_in _ (by omega)⟩
           have X2 := Lib.hid x2
           clear b2 x2
           by_cases b3 : 9223372036854775808 ≤ n4
           ·have HB := i64_neg b3 HL4.out.2.2.2
            have q3 : decide ((9223372036854775808 : Int) ≤ (n4 : Int)) = true := decide_eq_true (by omega)
            clear b3
            have HMM := Lib.hid (show rdM f sk = (zM, 5, s7) by rw [HMH.out, oneM_neg (.inr (.inr (.inl HB)))]; simp)
            clear HB
            go_wp2_with fail
            go_ret2
            exact rdec_none M7.out.own (by rw [HDD.out, HL.out.err hlt HMM.out (by simp), if_pos (by simp)])
           have q3 : decide ((9223372036854775808 : Int) ≤ (n4 : Int)) = false := decide_eq_false (by omega)
           have I3 := Lib.hid (i64_nat b3)
           have x3 : IntKind.i64.wrap (n4 : Int) = (n4 : Int) ∧ Go.RowKit.wrap64 (n4 : Int) = (n4 : Int) := by
            rw [i64_wrap HL4.out.2.2.2]
            exact ⟨I3.out, wrap64_in _ (by omega)⟩
           have X3 := Lib.hid x3
           clear b3 x3
           have HM3 := HMH.out
           rw [I0.out, I1.out, I2.out, I3.out, HC.out, Bool.true_and] at HM3
           have HM4 := Lib.hid HM3
           clear HM3 HMH
           go_wp2_with fail
           obtain ⟨x0, v0⟩ := X0.out
           obtain ⟨x1, v1⟩ := X1.out
           obtain ⟨x2, v2⟩ := X2.out
           obtain ⟨x3, v3⟩ := X3.out
           refine (rFloat_c u hul _).mono ?_
           rintro e w9 ⟨y, rfl, hrf, hb9⟩
           have M9 := Lib.hid (M7.out.below hb9)
           have hcy := rf_cb hul HC.out hrf
           have HCY := Lib.hid hcy
           have HYL := Lib.hid hrf.1
           clear hb9 hrf hcy q0 q1 q2 q3 y2
           obtain ⟨m, hm⟩ : ∃ m : Mv, m = ((n1 : Int), (n2 : Int), (n4 : Int), (n3 : Int), tn, y) := ⟨_, rfl⟩
           have hone : ∀ W, Calls Try.prog 39 #[.agg #[.int .i64 (n1 : Int), .int .i64 (n2 : Int), .int .i64 (n3 : Int), .int .i64 (n4 : Int), .string (ba tn), .float .f64 y]] W fun e w' => e = .returned (.bool (oneM ((n1 : Int), (n2 : Int), (n4 : Int), (n3 : Int), tn, y))) ∧ Below W.heap.size W w' := fun W => rmone_c ((n1 : Int), (n2 : Int), (n4 : Int), (n3 : Int), tn, y) (show tn.length ≤ maxLen by have := HTL.out; unfold maxLen; omega) W
           have HONE := Lib.hid hone
           have HM := Lib.hid hm
           clear hone hm
           obtain ⟨b, ho⟩ : ∃ b, oneM ((n1 : Int), (n2 : Int), (n4 : Int), (n3 : Int), tn, y) = b := ⟨_, rfl⟩
           have HO := Lib.hid ho
           clear ho
           go_wp2_with fail
           with_reducible refine (HONE.out _).mono ?_
           rintro e w11 ⟨rfl, hb11⟩
           rw [HO.out]
           have hb9 : Below w9.heap.size w9 w11 := ((Below.refl _ _).alloc (Nat.le_refl _) _).trans (hb11.mono (by simp))
           have M11 := Lib.hid (M9.out.below hb9)
           have hbox := is_below (is_new w9 30 [.int .i64 (n1 : Int), .int .i64 (n2 : Int), .int .i64 (n3 : Int), .int .i64 (n4 : Int), .string (ba tn), .float .f64 y]) hb11 (by simp)
           have HBOX := Lib.hid hbox
           clear hbox hb11 hb9 x0 x1 x2 x3 v0 v1 v2 v3
           cases b with
           | false =>
            have HMM := Lib.hid (show rdM f sk = (zM, 5, s7) by rw [HM4.out, show oneM ((n1 : Int), (n2 : Int), (n4 : Int), (n3 : Int), tn, fl u) = false from HO.out]; rfl)
            go_wp2_with fail
            go_ret2
            exact rdec_none M11.out.own (by rw [HDD.out, HL.out.err hlt HMM.out (by simp), if_pos (by simp)])
           | true =>
            have HMM := Lib.hid (show rdM f sk = (((n1 : Int), (n2 : Int), (n4 : Int), (n3 : Int), tn, fl u), 0, s7) by rw [HM4.out, show oneM ((n1 : Int), (n2 : Int), (n4 : Int), (n3 : Int), tn, fl u) = true from HO.out]; rfl)
            have HSIM : Hid (SimM ((n1 : Int), (n2 : Int), (n4 : Int), (n3 : Int), tn, y) ((n1 : Int), (n2 : Int), (n4 : Int), (n3 : Int), tn, fl u)) := Lib.hid ⟨rfl, rfl, rfl, rfl, rfl, HYL.out, by rw [HCY.out, cb_fl_cn hul HC.out]⟩
            obtain ⟨G, hG⟩ : ∃ G, w9.heap.size = G := ⟨_, rfl⟩
            have hgG : g < G := by rw [← hG]; exact M9.out.lt
            have HB0 := HBOX.out
            rw [hG] at HB0
            have HBG := Lib.hid HB0
            rw [hG]
            clear HB0 HBOX hG
            by_cases hk0 : k = 0
            ·have hkz : decide ((0 : Int) < (k : Int)) = false := decide_eq_false (by omega)
             have hkz2 : decide (0 < k) = false := decide_eq_false (by omega)
             have hbf : c < (n1 : Int) ∨ c = (n1 : Int) ∧ r < (n2 : Int) := by
              obtain ⟨a, b⟩ := HCR.out hk0
              have h1 : (1 : Int) ≤ (n1 : Int) := (oneM_facts HO.out).1.1
              rw [a]; omega
             have HBF := Lib.hid hbf
             clear hbf hk0
             go_wp2_with fail
             go_quiet (fail)
             obtain ⟨W12, hW12⟩ : ∃ W12, W12 = w11.drewN nq := ⟨_, rfl⟩
             rw [← hW12]
             have M12 := Lib.hid (show DLi w f g W12 k c r s7 u8 done out by rw [hW12]; exact M11.out.below (below_drewN (Below.refl _ _) _))
             have HBH := HBG.out
             have HBG := Lib.hid (show Is W12 G 30 [.int .i64 (n1 : Int), .int .i64 (n2 : Int), .int .i64 (n3 : Int), .int .i64 (n4 : Int), .string (ba tn), .float .f64 y] by rw [hW12]; exact HBH)
             clear HBH hW12 hkz hkz2
             have HST := Lib.hid (HL.out.step hlt HMM.out HBF.out)
             have hbx := HBG.out
             have d0 := is_cell hbx 0
             have d1 := is_cell hbx 1
             have d2 := is_cell hbx 2
             have d3 := is_cell hbx 3
             have d4 := is_cell hbx 4
             have d5 := is_cell hbx 5
             simp only [List.getElem?_cons_zero, List.getElem?_cons_succ] at d0 d1 d2 d3 d4 d5
             clear hbx
             obtain ⟨WA, hWA⟩ : ∃ WA, WA = W12.alloc (.cells #[.int .i64 (n1 : Int), .int .i64 (n2 : Int), .int .i64 (n3 : Int), .int .i64 (n4 : Int), .string (ba tn), .float .f64 y] 30) := ⟨_, rfl⟩
             have MA := Lib.hid (show DLi w f g WA k c r s7 u8 done out by rw [hWA]; exact M12.out.below ((Below.refl _ _).alloc (Nat.le_refl _) _))
             have HA1 := Lib.hid (show At WA (W12.heap.size + 1) (some ⟨W12.heap.size, 0, none⟩) (mvs [((n1 : Int), (n2 : Int), (n4 : Int), (n3 : Int), tn, y)]) by rw [hWA]; exact at_boxD W12 ((n1 : Int), (n2 : Int), (n4 : Int), (n3 : Int), tn, y))
             have hsz : WA.heap.size = W12.heap.size + 1 := by rw [hWA, size_alloc]
             have hgW : g < W12.heap.size := M12.out.lt
             have hkk : k ≤ 2000 := by omega
             have HWA := Lib.hid hWA
             have HSZ := Lib.hid hsz
             clear hWA hsz
             go_wp2_with (at_builtin; rw [← HWA.out]; refine append_optM _ rfl _ _ rfl (g + 1) _ _ _ rfl MA.out.row (some ⟨W12.heap.size, 0, none⟩) 1 [((n1 : Int), (n2 : Int), (n4 : Int), (n3 : Int), tn, y)] rfl (fun h => by cases h) (by simp) (W12.heap.size + 1) HA1.out (by simp <;> omega) (by rw [HSZ.out]; omega) ?_)
             intro v2 w2 hown2 hgrow
             have hgrow : WA.grownBy w2 u8.ownBlock := by first | exact hgrow | (rw [HV9.out]; exact hgrow)
             have hb2 : Below w.heap.size w w2 := below_own MA.out.own MA.out.own.size (ownsRow_low MA.out.row (Nat.le_succ_of_le M0.out.gl)) hgrow
             have hr2 : Ref w2 g f s7 := by
              obtain ⟨kk, r1, r2, r3⟩ := MA.out.rdr
              exact ⟨kk, r1, r2, is_grownD r3 MA.out.row hgrow⟩
             have HO2 := Lib.hid hown2
             have HB2 := Lib.hid hb2
             have HR2 := Lib.hid hr2
             have HG2 := Lib.hid (Nat.lt_of_lt_of_le MA.out.lt hgrow.size)
             clear hown2 hgrow hb2 hr2
             go_wp2_with fail
             go_roundw
             case rel =>
              refine ⟨k + 1, (n1 : Int), (n2 : Int), s7, done ++ [((n1 : Int), (n2 : Int), (n4 : Int), (n3 : Int), tn, fl u)], out ++ [((n1 : Int), (n2 : Int), (n4 : Int), (n3 : Int), tn, y)], by go_num, by omega, H7.out, HST.out, fun h => by omega, ?_⟩
              refine ⟨HR2.out, HO2.out, HB2.out, M0.out.gl, HG2.out, by rw [List.length_append, M0.out.len]; rfl, M0.out.sim.snoc HSIM.out, fun _ => ⟨((n1 : Int), (n2 : Int), (n4 : Int), (n3 : Int), tn, y), ?_, rfl, rfl⟩⟩
              rw [Nat.add_sub_cancel, ← M0.out.len, List.getElem?_concat_length]
             case measure => simp only [Go.RowKit.intOf]; omega
            ·obtain ⟨j, hj⟩ : ∃ j, k = j + 1 := ⟨k - 1, by omega⟩
             obtain ⟨xm, hxm, hxc, hxr⟩ := M0.out.last hk0
             have hkz : decide ((0 : Int) < (k : Int)) = true := decide_eq_true (by omega)
             have hkz2 : decide (0 < k) = true := decide_eq_true (by omega)
             have hsub : IntKind.i64.wrap ((k : Int) - 1) = (j : Int) := by rw [IntWalk.i64_in _ (by omega)]; omega
             have hsub2 : Go.RowKit.wrap64 ((k : Int) - 1) = (j : Int) := by rw [wrap64_in _ (by omega)]; omega
             have hj0 : (0 : Int) ≤ (j : Int) := by omega
             have hjk : (j : Int) < (k : Int) := by omega
             rw [show k - 1 = j by omega] at hxm
             obtain ⟨A, cap, hv, hat, -, hcap⟩ := own_at M11.out.row
             obtain ⟨bx, ox, hA, hbx, c0, c1, -⟩ := move_cells hat hxm
             have hbef := fun W => rbef_k (c1 := c) (r1 := r) (c2 := (n1 : Int)) (r2 := (n2 : Int)) (b := befT c r (n1 : Int) (n2 : Int)) rfl W
             rw [hxc] at c0
             rw [hxr] at c1
             subst hA
             obtain ⟨bq, hbq⟩ : ∃ bq, befT c r (n1 : Int) (n2 : Int) = bq := ⟨_, rfl⟩
             rw [hbq] at hbef
             have HBQ := Lib.hid hbq
             have HBE := Lib.hid hbef
             have HJ := Lib.hid hj
             have HBX := Lib.hid hbx
             have hG2 : G < w11.heap.size := is_lt HBG.out
             have HC0 := Lib.hid c0
             have HC1 := Lib.hid c1
             have HV9 := Lib.hid hv
             have hkcap : (k : Int) ≤ (cap : Int) := by omega
             rw [hv]
             clear hbq hbef hxc hxr hxm hat c0 c1 hk0 hj hbx hcap
             go_wp2_with fail
             refine quiet_held (fun W' => Below w11.heap.size w11 W') (by kernel_rfl) (by kernel_rfl) (Below.refl _ _).drew ?_
             repeat (first
              | go_big_quiet_skip
              | (simp only [hsub])
              | (simp only [hkz])
              | (go_big_quiet_want; go_big_quiet_op; go_big_quiet_on)
              | (go_big_quiet_want; apply Exists.intro; refine ⟨fun wq hq => ?_, ?_⟩; (focus (have z0 : wq.cell? ⟨bx, ox + j * 6, none⟩ = some (.int .i64 c) := (hq.cell (p := ⟨bx, ox + j * 6, none⟩) HBX.out).trans HC0.out; have z1 : wq.cell? ⟨bx, ox + j * 6 + 1, none⟩ = some (.int .i64 r) := (hq.cell (p := ⟨bx, ox + j * 6 + 1, none⟩) HBX.out).trans HC1.out; have hg := is_below HBG.out hq hG2; have g0 : wq.cell? ⟨G, 0, none⟩ = some (.int .i64 (n1 : Int)) := is_cell hg 0; have g1 : wq.cell? ⟨G, 1, none⟩ = some (.int .i64 (n2 : Int)) := is_cell hg 1; unfold Oper.quietAt; go_simp; all_goals (first | rfl | exact ⟨rfl, rfl⟩ | (with_reducible refine (HBE.out _).mono ?_; rintro e w5 ⟨rfl, hbn⟩; exact ⟨rfl, hq.trans (hbn.mono hq.size)⟩)))); simp only [Act.put, List.setIfInBounds_toArray, List.set_cons_zero, List.set_cons_succ]; go_big_quiet_on))
             refine wpQuiet_nil ?_
             intro W12 hb12
             have M12 := Lib.hid (M11.out.below hb12)
             have HBH := is_below HBG.out hb12 hG2
             have HBG := Lib.hid HBH
             clear HBH hb12 hkz hkz2 hsub hsub2 hG2
             rw [← HV9.out]
             cases bq with
             | false =>
              have hnb : ¬ (c < (n1 : Int) ∨ c = (n1 : Int) ∧ r < (n2 : Int)) := by
               intro h
               have := HBQ.out
               unfold befT at this
               simp at this
               omega
              have HNB := Lib.hid hnb
              clear hnb
              go_wp2_with fail
              go_ret2
              exact rdec_none M12.out.own (by rw [HDD.out, HL.out.order hlt HMM.out HNB.out, if_pos (by simp)])
             | true =>
              have hbf : c < (n1 : Int) ∨ c = (n1 : Int) ∧ r < (n2 : Int) := by
               have := HBQ.out
               unfold befT at this
               simpa using this
              have HBF := Lib.hid hbf
              clear hbf
              have HST := Lib.hid (HL.out.step hlt HMM.out HBF.out)
              have hbx := HBG.out
              have d0 := is_cell hbx 0
              have d1 := is_cell hbx 1
              have d2 := is_cell hbx 2
              have d3 := is_cell hbx 3
              have d4 := is_cell hbx 4
              have d5 := is_cell hbx 5
              simp only [List.getElem?_cons_zero, List.getElem?_cons_succ] at d0 d1 d2 d3 d4 d5
              clear hbx
              obtain ⟨WA, hWA⟩ : ∃ WA, WA = W12.alloc (.cells #[.int .i64 (n1 : Int), .int .i64 (n2 : Int), .int .i64 (n3 : Int), .int .i64 (n4 : Int), .string (ba tn), .float .f64 y] 30) := ⟨_, rfl⟩
              have MA := Lib.hid (show DLi w f g WA k c r s7 u8 done out by rw [hWA]; exact M12.out.below ((Below.refl _ _).alloc (Nat.le_refl _) _))
              have HA1 := Lib.hid (show At WA (W12.heap.size + 1) (some ⟨W12.heap.size, 0, none⟩) (mvs [((n1 : Int), (n2 : Int), (n4 : Int), (n3 : Int), tn, y)]) by rw [hWA]; exact at_boxD W12 ((n1 : Int), (n2 : Int), (n4 : Int), (n3 : Int), tn, y))
              have hsz : WA.heap.size = W12.heap.size + 1 := by rw [hWA, size_alloc]
              have hgW : g < W12.heap.size := M12.out.lt
              have hkk : k ≤ 2000 := by omega
              have HWA := Lib.hid hWA
              have HSZ := Lib.hid hsz
              clear hWA hsz
              go_wp2_with (at_builtin; rw [← HWA.out]; refine append_optM _ rfl _ _ rfl (g + 1) _ _ _ rfl MA.out.row (some ⟨W12.heap.size, 0, none⟩) 1 [((n1 : Int), (n2 : Int), (n4 : Int), (n3 : Int), tn, y)] rfl (fun h => by cases h) (by simp) (W12.heap.size + 1) HA1.out (by simp <;> omega) (by rw [HSZ.out]; omega) ?_)
              intro v2 w2 hown2 hgrow
              have hgrow : WA.grownBy w2 u8.ownBlock := by first | exact hgrow | (rw [HV9.out]; exact hgrow)
              have hb2 : Below w.heap.size w w2 := below_own MA.out.own MA.out.own.size (ownsRow_low MA.out.row (Nat.le_succ_of_le M0.out.gl)) hgrow
              have hr2 : Ref w2 g f s7 := by
               obtain ⟨kk, r1, r2, r3⟩ := MA.out.rdr
               exact ⟨kk, r1, r2, is_grownD r3 MA.out.row hgrow⟩
              have HO2 := Lib.hid hown2
              have HB2 := Lib.hid hb2
              have HR2 := Lib.hid hr2
              have HG2 := Lib.hid (Nat.lt_of_lt_of_le MA.out.lt hgrow.size)
              clear hown2 hgrow hb2 hr2
              go_wp2_with fail
              go_roundw
              case rel =>
               refine ⟨k + 1, (n1 : Int), (n2 : Int), s7, done ++ [((n1 : Int), (n2 : Int), (n4 : Int), (n3 : Int), tn, fl u)], out ++ [((n1 : Int), (n2 : Int), (n4 : Int), (n3 : Int), tn, y)], by go_num, by omega, H7.out, HST.out, fun h => by omega, ?_⟩
               refine ⟨HR2.out, HO2.out, HB2.out, M0.out.gl, HG2.out, by rw [List.length_append, M0.out.len]; rfl, M0.out.sim.snoc HSIM.out, fun _ => ⟨((n1 : Int), (n2 : Int), (n4 : Int), (n3 : Int), tn, y), ?_, rfl, rfl⟩⟩
               rw [Nat.add_sub_cancel, ← M0.out.len, List.getElem?_concat_length]
              case measure => simp only [Go.RowKit.intOf]; omega
           --END
         ·have hq1 : (s7.e != 0) = true := by simpa using h7
          have hq2 : (s7.e == 0) = false := by simpa using h7
          have HMM := Lib.hid (show rdM f sk = (zM, s7.e, s7) by rw [HM0.out, if_pos h7])
          go_wp2_with fail
          go_quiet (fail)
          go_wp2
          go_ret2
          exact rdec_none (below_drewN M7.out.own _) (by rw [HDD.out, HL.out.err hlt HMM.out h7, if_pos h7])
        ·have hq1 : (te != 0) = true := by simpa using hte
         have hq2 : (te == 0) = false := by simpa using hte
         have HMM := Lib.hid (show rdM f sk = (zM, te, s5) by
          rw [rdM_doc (tn := tn) (to := to) (te := te) HS2.out HS3.out HS4.out HS5.out (by rw [HAT.out]; exact HT.out) rfl rfl, if_neg (by simp [h5]), if_pos hte])
         go_wp2_with fail
         go_ret2
         exact rdec_none M5.out.own (by rw [HDD.out, HL.out.err hlt HMM.out hte, if_pos hte])
       ·have hq1 : (s5.e != 0) = true := by simpa using h5
        have hq2 : (s5.e == 0) = false := by simpa using h5
        have HMM := Lib.hid (show rdM f sk = (zM, s5.e, s5) by
         obtain ⟨tn, to, te, ht⟩ : ∃ tn to te, tk f ((f.length : Int) - (s5.l.length : Int)) 64 = (tn, to, te) := ⟨_, _, _, rfl⟩
         rw [rdM_doc HS2.out HS3.out HS4.out HS5.out ht rfl rfl, if_pos h5])
        go_wp2_with fail
        go_quiet (fail)
        go_wp2
        go_ret2
        exact rdec_none (below_drewN M4.out.own _) (by rw [HDD.out, HL.out.err hlt HMM.out h5, if_pos h5])
      ·obtain rfl : k = n := by omega
       have hlast := HL.out.last
       go_wp2_with fail
       refine (rleft_m g f sk hl64 _ M0.out.rdr).mono ?_
       rintro e w1 ⟨rfl, q, rfl⟩
       by_cases hll : sk.l.length = 0
       ·have hd0 : decide ((0 : Int) < (sk.l.length : Int)) = false := decide_eq_false (by omega)
        have hd1 : decide (0 < sk.l.length) = false := decide_eq_false (by omega)
        have HLL := Lib.hid hll
        have HLA := Lib.hid hlast
        have hlen := M0.out.len
        obtain ⟨A, cap, rfl, hat, -, -⟩ := own_at M0.out.row
        have HA := Lib.hid hat
        have HLEN := Lib.hid hlen
        clear hll hlast hlen hat
        go_wp2_with fail
        go_ret2
        have hx : decR f = (done, 0) := by rw [HDD.out, HLA.out]; simp only; rw [if_neg (show ¬ ((0 : Int) ≠ 0) by simp), if_neg (show ¬ (doneV sk ≠ 0) by unfold doneV; rw [if_pos HSKE.out, if_neg (by have := HLL.out; omega)]; simp)]
        unfold RDecEnd
        rw [hx]
        exact ⟨below_drewN M0.out.own _, A, cap, out, by rw [HLEN.out]; rfl, M0.out.sim, HA.out⟩
       ·have hd0 : decide ((0 : Int) < (sk.l.length : Int)) = true := decide_eq_true (by omega)
        have hd1 : decide (0 < sk.l.length) = true := decide_eq_true (by omega)
        have hdn : doneV sk = 5 := by unfold doneV; rw [if_pos HSKE.out, if_pos (by omega)]
        have HDN := Lib.hid hdn
        have HLA := Lib.hid hlast
        clear hlast hdn hll
        go_wp2_with fail
        go_ret2
        exact rdec_none (below_drewN M0.out.own _) (by rw [HDD.out, HLA.out]; simp only; rw [if_neg (by simp), HDN.out, if_pos (by simp)])
   ·have hq1 : (s1.e != 0) = true := by simpa using hse
    have hq2 : (s1.e == 0) = false := by simpa using hse
    go_wp2_with fail
    go_quiet (fail)
    go_wp2
    go_ret2
    exact rdec_none (below_drewN B3.out _) (by rw [HD.out, if_pos hse])
  ·have hq1 : (vv != 1) = true := by simpa using h1
   have hq2 : (vv == 1) = false := by simpa using h1
   go_wp2_with fail
   go_ret2
   exact rdec_none HB1.out (decR_two HVE.out (by rw [HVV.out]; exact h1))
 ·have hq1 : (ve != 0) = true := by simpa using he
  have hq2 : (ve == 0) = false := by simpa using he
  go_wp2_with fail
  go_ret2
  exact rdec_none HB1.out (by rw [← HVE.out]; exact decR_one (by rw [HVE.out]; exact he))
end Go.Proofs.Ytojhenpaeedimaa
