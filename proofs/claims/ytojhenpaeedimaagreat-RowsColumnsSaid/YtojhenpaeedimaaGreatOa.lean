/-
 What One tells is read again. No Go.
 What Encode tells is read again. No Go.
 What is read is what One tells of it. No Go.
 A file that is read is what Encode tells. No Go.
 A file cut short is none. No Go.
 Plain mathematics of layer 21: lists of moves that are alike but for what no number's bits are; what Decode tells, case by case. No Go.
 Plain mathematics of layer 19: a text behind its length; ranks as bytes. No Go.
-/
import Derived.Test.YtojhenpaeedimaaGreatUg
import Derived.Test.YtojhenpaeedimaaGreatZg
import Derived.Test.YtojhenpaeedimaaGreatTl
import Derived.Test.YtojhenpaeedimaaGreatNb
import Derived.Test.YtojhenpaeedimaaGreatJk
import Derived.Test.YtojhenpaeedimaaGreatHh
import Derived.Test.YtojhenpaeedimaaGreatPi
section
namespace Go.Proofs.YtojhenpaeedimaaGreat.Rf
open Pk Ck Fl Wd
set_option maxRecDepth 100000
/-- a move as it comes back -/
def bkM (m : Mv) : Mv := (mc m, mr m, ch (mw m), pa (mw m), nm (mw m), fl (cb (rk (mw m))))
theorem oneM_facts {m : Mv} (h : oneM m = true) : (1 ≤ mc m ∧ mc m ≤ 4611686018427387903) ∧ (1 ≤ mr m ∧ mr m ≤ 255) ∧ (1 ≤ ch (mw m) ∧ ch (mw m) ≤ 2147483647) ∧ (0 ≤ pa (mw m) ∧ pa (mw m) ≤ 2147483647) ∧ (nm (mw m)).length ≤ 64 ∧ valid (nm (mw m)) = true := by
 unfold oneM oneP at h
 simp only [Bool.and_eq_true, decide_eq_true_eq] at h
 obtain ⟨a, b, c, d, e, f, g, i, j, k⟩ := h
 exact ⟨⟨a, b⟩, ⟨c, d⟩, ⟨e, f⟩, ⟨g, i⟩, j, k⟩
theorem oneM_bk (m : Mv) : oneM (bkM m) = oneM m := rfl
theorem rdM_one (f P R : List UInt8) (m : Mv) (hm : oneM m = true) (hr : rk (mw m) < 18446744073709551616) (hf : f = P ++ (oneB m ++ R)) :
  rdM f ⟨oneB m ++ R, 0⟩ = (bkM m, 0, ⟨R, 0⟩) := by
 obtain ⟨⟨a1, a2⟩, ⟨b1, b2⟩, ⟨c1, c2⟩, ⟨d1, d2⟩, hn, hv⟩ := oneM_facts hm
 obtain ⟨N, hN⟩ : ∃ N, N = nm (mw m) := ⟨_, rfl⟩
 obtain ⟨Z, hZ⟩ : ∃ Z, Z = fixed 8 (cb (rk (mw m))) ++ R := ⟨_, rfl⟩
 have e0 : oneB m ++ R = put (u64 (mc m)) ++ (put (u64 (mr m)) ++ (put (u64 (pa (mw m))) ++ (put (u64 (ch (mw m))) ++ (put N.length ++ (N ++ Z))))) := by
  rw [hZ, hN]; unfold oneB; simp only [List.append_assoc]
 have h1 := num_put (u64_lt (mc m)) (put (u64 (mr m)) ++ (put (u64 (pa (mw m))) ++ (put (u64 (ch (mw m))) ++ (put N.length ++ (N ++ Z)))))
 have h2 := num_put (u64_lt (mr m)) (put (u64 (pa (mw m))) ++ (put (u64 (ch (mw m))) ++ (put N.length ++ (N ++ Z))))
 have h3 := num_put (u64_lt (pa (mw m))) (put (u64 (ch (mw m))) ++ (put N.length ++ (N ++ Z)))
 have h4 := num_put (u64_lt (ch (mw m))) (put N.length ++ (N ++ Z))
 rw [← hN] at hn hv
 have h5 := num_put (n := N.length) (by omega) (N ++ Z)
 obtain ⟨K, hK⟩ : ∃ K, K = f.length - (put N.length ++ (N ++ Z)).length := ⟨_, rfl⟩
 have hfd : f = (P ++ (put (u64 (mc m)) ++ (put (u64 (mr m)) ++ (put (u64 (pa (mw m))) ++ put (u64 (ch (mw m))))))) ++ (put N.length ++ (N ++ Z)) := by
  rw [hf, e0]; simp only [List.append_assoc]
 have hKl : (P ++ (put (u64 (mc m)) ++ (put (u64 (mr m)) ++ (put (u64 (pa (mw m))) ++ put (u64 (ch (mw m))))))).length = K := by
  rw [hK]; have := congrArg List.length hfd; rw [List.length_append] at this; omega
 have hdr : f.drop K = put N.length ++ (N ++ Z) := by rw [hfd, ← hKl, List.drop_left]
 have hle : K ≤ f.length := by omega
 have hat : (f.length : Int) - ((put N.length ++ (N ++ Z)).length : Int) = (K : Int) := by
  have : (put N.length ++ (N ++ Z)).length ≤ f.length := by have := congrArg List.length hfd; rw [List.length_append] at this; omega
  omega
 have ht := tk_ok (l := f) (k := K) (v := N.length) (most := 64) (st := ⟨N ++ Z, 0⟩) hle (by rw [hdr]; exact h5.2.symm) (by rw [hdr]; exact h5.1.symm) rfl (by omega) (by simp) (by rw [List.take_left]; exact hv)
 rw [List.take_left, List.drop_left] at ht
 have htk : takeS ((f.length : Int) - (Z.length : Int) - (K : Int)) ⟨put N.length ++ (N ++ Z), 0⟩ = ⟨Z, 0⟩ := by
  have hlen : (f.length : Int) - (Z.length : Int) - (K : Int) = ((put N.length).length + N.length : Nat) := by
   rw [← hat]; simp only [List.length_append]; omega
  rw [hlen]
  have := take_ok (n := ((put N.length).length + N.length : Nat)) (s := ⟨put N.length ++ (N ++ Z), 0⟩) rfl (by simp only [List.length_append]; omega)
  rw [this.2]
  simp only [Int.toNat_natCast]
  rw [← List.append_assoc, ← List.length_append, List.drop_left]
 have hc : cb (rk (mw m)) < 18446744073709551616 := cb_lt _ hr
 have h6 := fix_fixed hc R
 rw [← hZ] at h6
 have hnam : namR f ⟨put N.length ++ (N ++ Z), 0⟩ = (N, 0, ⟨Z, 0⟩) := by
  unfold namR
  simp only
  rw [hat, ht]
  simp only
  rw [if_neg (by simp), htk]
 rw [e0, rdM_nam f _ _ _ _ _ _ _ N 0 h1.2 h2.2 h3.2 h4.2 hnam h6.2, h1.1, h2.1, h3.1, h4.1, h6.1]
 rw [if_neg (by simp), if_neg (by simp), if_neg (by simp)]
 rw [i64_u64 (by omega) (by omega), i64_u64 (by omega) (by omega), i64_u64 (by omega) (by omega), i64_u64 (by omega) (by omega), hN]
 rw [cn_cb hr, show (mc m, mr m, ch (mw m), pa (mw m), nm (mw m), fl (cb (rk (mw m)))) = bkM m from rfl, oneM_bk, hm]
 rfl
end Go.Proofs.YtojhenpaeedimaaGreat.Rf
end
section
namespace Go.Proofs.YtojhenpaeedimaaGreat.Rf
open Pk Ck Fl Wd
set_option maxRecDepth 100000
theorem rdL_all (f R : List UInt8) : ∀ (l : List Mv) (P : List UInt8) (p : Option Mv) (c r : Int), resM p l = true → (∀ m ∈ l, rk (mw m) < 18446744073709551616) → (p = none → c = 0 ∧ r = 0) → (∀ q, p = some q → c = mc q ∧ r = mr q) →
  f = P ++ (l.flatMap oneB ++ R) → rdL f l.length c r ⟨l.flatMap oneB ++ R, 0⟩ = (l.map bkM, 0, ⟨R, 0⟩)
 | [], P, p, c, r, _, _, _, _, _ => by simp [rdL]
 | m :: t, P, p, c, r, hres, hrk, h0, hq, hf => by
  simp only [resM, Bool.and_eq_true] at hres
  obtain ⟨hm, hb, ht⟩ := hres
  have hx := oneM_facts hm
  have e0 : (m :: t).flatMap oneB ++ R = oneB m ++ (t.flatMap oneB ++ R) := by simp [List.flatMap_cons]
  rw [e0] at hf ⊢
  have h1 := rdM_one f P (t.flatMap oneB ++ R) m hm (hrk m (List.mem_cons_self ..)) hf
  have hbef : c < mc m ∨ c = mc m ∧ r < mr m := by
   cases p with
   | none => have := h0 rfl; omega
   | some q =>
    have hh := hq q rfl
    have hb2 : bm q m = true := hb
    rw [bm_iff] at hb2
    unfold MLt at hb2
    rw [hh.1, hh.2]; exact hb2
  have hr := rdL_all f R t (P ++ oneB m) (some m) (mc m) (mr m) ht (fun x hx => hrk x (List.mem_cons_of_mem _ hx)) (fun h => by cases h) (fun q h => by cases h; exact ⟨rfl, rfl⟩) (by rw [hf]; simp only [List.append_assoc])
  rw [List.length_cons]
  simp only [rdL, h1]
  have e1 : mc (bkM m) = mc m := rfl
  have e2 : mr (bkM m) = mr m := rfl
  rw [if_neg (by simp), e1, e2, if_pos hbef, hr]
  simp
theorem decR_enc (l : List Mv) (h : mayM l = true) (hrk : ∀ m ∈ l, rk (mw m) < 18446744073709551616) : decR (encB l) = (l.map bkM, 0) := by
 have hm := h
 unfold mayM mayL at hm
 simp only [Bool.and_eq_true, decide_eq_true_eq] at hm
 obtain ⟨hl, hres⟩ := hm
 have hv : verE (encB l) = 0 := by
  have hlen : 5 ≤ (encB l).length := by show 5 ≤ (startB ++ _).length; rw [List.length_append]; show 5 ≤ 5 + _; omega
  unfold verE
  rw [if_neg (by rw [show (encB l).take 4 = magic from rfl]; simp), if_neg (by omega)]
 have hvv : verV (encB l) = 1 := by unfold verV; rw [if_pos hv]; rfl
 have hd : (encB l).drop 5 = put l.length ++ (l.flatMap oneB ++ []) := by rw [List.append_nil]; rfl
 have hn := num_put (n := l.length) (by omega) (l.flatMap oneB ++ [])
 have hall := rdL_all (encB l) [] l (startB ++ put l.length) none 0 0 hres hrk (fun _ => ⟨rfl, rfl⟩) (fun q h => by cases h) (by unfold encB; simp only [List.append_nil, List.append_assoc])
 unfold decR
 rw [if_neg (by rw [hv]; simp), if_neg (by rw [hvv]; simp)]
 simp only [hd, hn.1, hn.2, hall]
 rw [if_neg (by simp), if_neg (by omega), if_neg (by simp), if_neg (by simp [doneV])]
end Go.Proofs.YtojhenpaeedimaaGreat.Rf
end
section
namespace Go.Proofs.YtojhenpaeedimaaGreat.Rf
open Pk Ck Fl Wd
set_option maxRecDepth 100000
theorem num_split {s : St} (h : (numS s).e = 0) : s.e = 0 ∧ s.l = put (numV s) ++ (numS s).l := by
 by_cases he : s.e = 0
 ·refine ⟨he, ?_⟩
  cases hr : rd s.l with
  | cut => rw [(num_cut he hr).2] at h; simp at h
  | long => rw [(num_long he hr).2] at h; simp at h
  | ok n u =>
   obtain ⟨h1, _⟩ := rd_inv hr
   rw [(num_ok he hr).1, (num_ok he hr).2, ← h1]
   simp
 ·rw [(num_err he).2] at h; exact absurd h he
theorem fix_split {s : St} (h : (fixS s).e = 0) : s.e = 0 ∧ s.l = fixed 8 (fixV s) ++ (fixS s).l := by
 by_cases he : s.e = 0
 ·refine ⟨he, ?_⟩
  by_cases hl : 8 ≤ s.l.length
  ·rw [(fix_ok he hl).1, (fix_ok he hl).2]
   have hh := fixed_num8 (s.l.take 8)
   rw [List.length_take, Nat.min_eq_left hl] at hh
   rw [hh]; simp
  ·rw [(fix_cut he (by omega)).2] at h; simp at h
 ·rw [(fix_err he).2] at h; exact absurd h he
theorem tk_split {f : List UInt8} {K : Nat} {most : Int} {N : List UInt8} {to : Int} (hK : K ≤ f.length) (h : tk f (K : Int) most = (N, to, 0)) :
  ∃ R, f.drop K = put N.length ++ (N ++ R) ∧ to = (f.length : Int) - (R.length : Int) ∧ valid N = true ∧ (N.length : Int) ≤ most := by
 unfold tk at h
 rw [if_neg (by omega), show ((K : Int)).toNat = K from rfl] at h
 split at h
 ·rename_i he; injection h with _ h; injection h with _ h; exact absurd h he
 ·rename_i he
  have hs := num_split (s := ⟨f.drop K, 0⟩) (by simpa using he)
  split at h
  ·injection h with _ h; injection h with _ h; simp at h
  ·split at h
   ·injection h with _ h; injection h with _ h; simp at h
   ·split at h
    ·rename_i h1 h2 h3
     injection h with a h
     injection h with b _
     have hlen : N.length = numV ⟨f.drop K, 0⟩ := by rw [← a, List.length_take]; omega
     refine ⟨(numS ⟨f.drop K, 0⟩).l.drop (numV ⟨f.drop K, 0⟩), ?_, b.symm, by rw [← a]; exact h3, by rw [hlen]; omega⟩
     rw [hlen, ← a, List.take_append_drop]
     exact hs.2
    ·injection h with _ h; injection h with _ h; simp at h
theorem nam_split {f P : List UInt8} {s s' : St} {N : List UInt8} (he : s.e = 0) (hf : f = P ++ s.l) (h : namR f s = (N, 0, s')) : s.l = put N.length ++ (N ++ s'.l) ∧ s'.e = 0 := by
 have hl : f.length = P.length + s.l.length := by rw [hf, List.length_append]
 have hat : (f.length : Int) - (s.l.length : Int) = (P.length : Int) := by omega
 have hdr : f.drop P.length = s.l := by rw [hf, List.drop_left]
 unfold namR at h
 rw [hat] at h
 split at h
 ·rename_i h0; injection h with _ h; injection h with h _; exact absurd h h0
 ·rename_i h0
  injection h with a h
  injection h with _ b
  obtain ⟨R, q1, q2, q3, q4⟩ := tk_split (f := f) (K := P.length) (most := 64) (N := N) (to := (tk f (P.length : Int) 64).2.1) (by omega) (by rw [← a]; exact Prod.ext rfl (Prod.ext rfl (by simpa using h0)))
  rw [hdr] at q1
  have hlen := congrArg List.length q1
  simp only [List.length_append] at hlen
  have hto : (tk f (P.length : Int) 64).2.1 - (P.length : Int) = ((put N.length).length + N.length : Nat) := by rw [q2]; omega
  rw [hto] at b
  have ht := take_ok (n := ((put N.length).length + N.length : Nat)) (s := s) he (by omega)
  rw [ht.2] at b
  simp only [Int.toNat_natCast] at b
  rw [← b]
  refine ⟨?_, rfl⟩
  have hd2 : s.l.drop ((put N.length).length + N.length) = R := by
   rw [q1, ← List.append_assoc, ← List.length_append, List.drop_left]
  simp only [hd2]
  exact q1
theorem rdM_back {f P : List UInt8} {s s' : St} {m : Mv} (hf : f = P ++ s.l) (h : rdM f s = (m, 0, s')) : s.l = oneB m ++ s'.l ∧ s'.e = 0 ∧ oneM m = true := by
 obtain ⟨⟨N, ne, s5⟩, hn⟩ : ∃ x, namR f (numS (numS (numS (numS s)))) = x := ⟨_, rfl⟩
 rw [rdM_nam f s _ _ _ _ s5 _ N ne rfl rfl rfl rfl hn rfl] at h
 split at h
 ·rename_i h4; injection h with _ h; injection h with h _; exact absurd h h4
 ·rename_i h4
  have h4 : (numS (numS (numS (numS s)))).e = 0 := by simpa using h4
  split at h
  ·rename_i h5; injection h with _ h; injection h with h _; exact absurd h h5
  ·rename_i h5
   obtain rfl : ne = 0 := by simpa using h5
   split at h
   ·rename_i h6; injection h with _ h; injection h with h _; exact absurd h h6
   ·rename_i h6
    split at h
    ·rename_i hc
     rw [Bool.and_eq_true] at hc
     injection h with hm h
     injection h with _ hs
     have d4 := num_split h4
     have d3 := num_split d4.1
     have d2 := num_split d3.1
     have d1 := num_split d2.1
     have dn := nam_split (P := P ++ (put (numV s) ++ (put (numV (numS s)) ++ (put (numV (numS (numS s))) ++ put (numV (numS (numS (numS s)))))))) h4 (by
      rw [hf, d1.2, d2.2, d3.2, d4.2]; simp only [List.append_assoc]) hn
     have d6 := fix_split (s := s5) (by simpa using h6)
     subst hs
     refine ⟨?_, by simpa using h6, by rw [← hm]; exact hc.2⟩
     rw [← hm]
     unfold oneB
     show s.l = put (u64 (i64 (numV s))) ++ (put (u64 (i64 (numV (numS s)))) ++ (put (u64 (i64 (numV (numS (numS s))))) ++ (put (u64 (i64 (numV (numS (numS (numS s)))))) ++ (put N.length ++ N ++ fixed 8 (cb (fl (fixV s5))))))) ++ (fixS s5).l
     rw [u64_i64 (numV_lt _), u64_i64 (numV_lt _), u64_i64 (numV_lt _), u64_i64 (numV_lt _), cb_fl_cn (fixV_lt _) hc.1]
     simp only [List.append_assoc]
     rw [← d6.2, ← dn.1, ← d4.2, ← d3.2, ← d2.2, ← d1.2]
    ·injection h with _ h; injection h with h _; simp at h
end Go.Proofs.YtojhenpaeedimaaGreat.Rf
end
section
namespace Go.Proofs.YtojhenpaeedimaaGreat.Rf
open Pk Ck Fl Wd
set_option maxRecDepth 100000
theorem rdL_back (f : List UInt8) : ∀ (n : Nat) (P : List UInt8) (p : Option Mv) (c r : Int) (s s' : St) (l : List Mv), (p = none → c = 0 ∧ r = 0) → (∀ q, p = some q → c = mc q ∧ r = mr q) → s.e = 0 →
  f = P ++ s.l → rdL f n c r s = (l, 0, s') → s.l = l.flatMap oneB ++ s'.l ∧ s'.e = 0 ∧ l.length = n ∧ resM p l = true
 | 0, P, p, c, r, s, s', l, _, _, he, _, h => by
  simp only [rdL] at h
  injection h with a h
  injection h with _ b
  subst a b
  exact ⟨rfl, he, rfl, rfl⟩
 | n + 1, P, p, c, r, s, s', l, h0, hq, he, hf, h => by
  obtain ⟨⟨m, e, s1⟩, hm⟩ : ∃ x, rdM f s = x := ⟨_, rfl⟩
  simp only [rdL, hm] at h
  split at h
  ·rename_i hx; injection h with _ h; injection h with h _; exact absurd h hx
  ·rename_i hx
   obtain rfl : e = 0 := by simpa using hx
   split at h
   ·rename_i hb
    obtain ⟨d1, d2, d3⟩ := rdM_back hf hm
    split at h
    ·rename_i hy; injection h with _ h; injection h with h _; exact absurd h hy
    ·rename_i hy
     injection h with a h
     injection h with _ b
     have hrec := rdL_back f n (P ++ oneB m) (some m) (mc m) (mr m) s1 s' (rdL f n (mc m) (mr m) s1).1 (fun h => by cases h) (fun q h => by cases h; exact ⟨rfl, rfl⟩) d2 (by rw [hf, d1, List.append_assoc])
      (Prod.ext rfl (Prod.ext (by simpa using hy) b))
     obtain ⟨g1, g2, g3, g4⟩ := hrec
     rw [← a]
     refine ⟨?_, g2, by rw [List.length_cons, g3], ?_⟩
     ·rw [d1, List.flatMap_cons, List.append_assoc, ← g1]
     ·simp only [resM, Bool.and_eq_true]
      refine ⟨d3, ?_, g4⟩
      cases p with
      | none => rfl
      | some q =>
       have hh := hq q rfl
       show bm q m = true
       rw [bm_iff]
       unfold MLt
       rw [← hh.1, ← hh.2]; exact hb
   ·injection h with _ h; injection h with h _; simp at h
theorem decR_back {f : List UInt8} {l : List Mv} (h : decR f = (l, 0)) : f = encB l ∧ mayM l = true := by
 unfold decR at h
 split at h
 ·rename_i hx; injection h with _ h; exact absurd h hx
 ·rename_i hv
  have hv : verE f = 0 := by simpa using hv
  split at h
  ·injection h with _ h; simp at h
  ·rename_i h1
   have h1 : verV f = 1 := by simpa using h1
   simp only at h
   split at h
   ·rename_i hx; injection h with _ h; exact absurd h hx
   ·rename_i hn
    have hn := num_split (s := ⟨f.drop 5, 0⟩) (by simpa using hn)
    have hne : (numS ⟨f.drop 5, 0⟩).e = 0 := by rename_i hn0; simpa using hn0
    split at h
    ·injection h with _ h; simp at h
    ·rename_i h2
     split at h
     ·rename_i hx; injection h with _ h; exact absurd h hx
     ·rename_i h3
      split at h
      ·rename_i hx; injection h with _ h; exact absurd h hx
      ·rename_i h4
       injection h with a _
       have hb := ver_back hv
       rw [h1] at hb
       have hst : f = startB ++ f.drop 5 := by have := hb.1; exact this
       have hrec := rdL_back f (numV ⟨f.drop 5, 0⟩) (startB ++ put (numV ⟨f.drop 5, 0⟩)) none 0 0 (numS ⟨f.drop 5, 0⟩) _ l (fun _ => ⟨rfl, rfl⟩) (fun q h => by cases h) hne
        (by rw [List.append_assoc, ← hn.2]; exact hst) (Prod.ext a (Prod.ext (by simpa using h3) rfl))
       obtain ⟨g1, g2, g3, g4⟩ := hrec
       have hz : (rdL f (numV ⟨f.drop 5, 0⟩) 0 0 (numS ⟨f.drop 5, 0⟩)).2.2.l = [] := by
        have h4 : doneV (rdL f (numV ⟨f.drop 5, 0⟩) 0 0 (numS ⟨f.drop 5, 0⟩)).2.2 = 0 := by simpa using h4
        unfold doneV at h4
        rw [if_pos g2] at h4
        split at h4
        ·simp at h4
        ·rename_i hl; exact List.eq_nil_of_length_eq_zero (by omega)
       rw [hz, List.append_nil] at g1
       refine ⟨?_, ?_⟩
       ·unfold encB
        rw [g3, ← g1, ← hn.2]; exact hst
       ·unfold mayM mayL
        rw [g4, Bool.and_true, decide_eq_true_eq]; omega
end Go.Proofs.YtojhenpaeedimaaGreat.Rf
end
section
namespace Go.Proofs.YtojhenpaeedimaaGreat.Rf
open Pk Ck Fl Wd
set_option maxRecDepth 100000
theorem mayM_facts {l : List Mv} (h : mayM l = true) : l.length ≤ 2000 ∧ resM none l = true := by
 unfold mayM mayL at h
 simpa only [Bool.and_eq_true, decide_eq_true_eq] using h
theorem rdL_rk (f : List UInt8) (hfl : ∀ u, u < 18446744073709551616 → fl u < 18446744073709551616) : ∀ (n : Nat) (c r : Int) (s : St), ∀ m ∈ (rdL f n c r s).1, rk (mw m) < 18446744073709551616
 | 0, _, _, _ => by simp [rdL]
 | n + 1, c, r, s => by
  have hz : ∀ s, rk (mw (rdM f s).1) < 18446744073709551616 := by
   intro s
   obtain ⟨⟨N, ne, s5⟩, hn⟩ : ∃ x, namR f (numS (numS (numS (numS s)))) = x := ⟨_, rfl⟩
   rw [rdM_nam f s _ _ _ _ s5 _ N ne rfl rfl rfl rfl hn rfl]
   split
   ·show (0 : Nat) < _; omega
   ·split
    ·show (0 : Nat) < _; omega
    ·split
     ·show (0 : Nat) < _; omega
     ·split
      ·exact hfl _ (fixV_lt _)
      ·show (0 : Nat) < _; omega
  intro m hm
  simp only [rdL] at hm
  split at hm
  ·simp at hm
  ·split at hm
   ·split at hm
    ·simp at hm
    ·rcases List.mem_cons.1 hm with rfl | hm
     ·exact hz s
     ·exact rdL_rk f hfl n _ _ _ m hm
   ·simp at hm
theorem decR_rk (f : List UInt8) : ∀ m ∈ (decR f).1, rk (mw m) < 18446744073709551616 := by
 have h := rdL_rk f fl_lt
 intro m hm
 unfold decR at hm
 split at hm
 ·simp at hm
 ·split at hm
  ·simp at hm
  ·simp only at hm
   split at hm
   ·simp at hm
   ·split at hm
    ·simp at hm
    ·split at hm
     ·simp at hm
     ·split at hm
      ·simp at hm
      ·exact h _ _ _ _ m hm
end Go.Proofs.YtojhenpaeedimaaGreat.Rf
end
section
namespace Go.Proofs.YtojhenpaeedimaaGreat.Rf
open Pk Ck Fl Wd
set_option maxRecDepth 100000
/-- two moves are alike but for a rank that is no number -/
def SimM (a b : Mv) : Prop := mc a = mc b ∧ mr a = mr b ∧ ch (mw a) = ch (mw b) ∧ pa (mw a) = pa (mw b) ∧ nm (mw a) = nm (mw b) ∧ rk (mw a) < 18446744073709551616 ∧ cb (rk (mw a)) = cb (rk (mw b))
def SimL : List Mv → List Mv → Prop
 | [], [] => True
 | a :: l, b :: m => SimM a b ∧ SimL l m
 | _, _ => False
theorem SimL.len : ∀ {l m : List Mv}, SimL l m → l.length = m.length
 | [], [], _ => rfl
 | _ :: l, _ :: m, h => by rw [List.length_cons, List.length_cons, SimL.len (l := l) (m := m) h.2]
theorem sim_alike {a b c : Mv} (h : SimM a b) : alikeM c a = alikeM c b := by
 obtain ⟨h1, h2, h3, h4, h5, -, h7⟩ := h
 unfold alikeM timeEq alikeP
 rw [h1, h2, h3, h4, h5, h7]
theorem SimL.same : ∀ {x l m : List Mv}, SimL l m → sameM x l = sameM x m
 | [], [], [], _ => rfl
 | _ :: _, [], [], _ => rfl
 | [], _ :: _, _ :: _, _ => rfl
 | a :: x, _ :: l, _ :: m, h => by
  unfold sameM
  rw [sim_alike h.1, SimL.same h.2]
theorem SimL.mem : ∀ {l m : List Mv} {a : Mv}, SimL l m → a ∈ l → ∃ b ∈ m, SimM a b
 | x :: l, y :: m, a, h, hm => by
  rcases List.mem_cons.1 hm with rfl | hm
  ·exact ⟨y, List.mem_cons_self, h.1⟩
  ·obtain ⟨b, hb, hs⟩ := SimL.mem h.2 hm
   exact ⟨b, List.mem_cons_of_mem _ hb, hs⟩
theorem decR_none {f : List UInt8} (h : (decR f).2 ≠ 0) : (decR f).1 = [] := by
 unfold decR at h ⊢
 by_cases a : verE f ≠ 0
 ·rw [if_pos a]
 ·rw [if_neg a] at h ⊢
  by_cases b : verV f ≠ 1
  ·rw [if_pos b]
  ·rw [if_neg b] at h ⊢
   simp only at h ⊢
   split
   ·rfl
   ·rename_i h1; rw [if_neg h1] at h
    split
    ·rfl
    ·rename_i h2; rw [if_neg h2] at h
     split
     ·rfl
     ·rename_i h3; rw [if_neg h3] at h
      split
      ·rfl
      ·rename_i h4; rw [if_neg h4] at h; exact absurd rfl h
end Go.Proofs.YtojhenpaeedimaaGreat.Rf
end
section
namespace Go.Proofs.YtojhenpaeedimaaGreat.Ol
open Pk Wd Fl
set_option maxRecDepth 100000
/-- P19.1 -/
def prt (s : List UInt8) : List UInt8 := put s.length ++ s
def cutP (s : List UInt8) : List UInt8 × List UInt8 × Int :=
 if (numS ⟨s, 0⟩).e ≠ 0 then ([], [], (numS ⟨s, 0⟩).e)
 else if (numS ⟨s, 0⟩).l.length < numV ⟨s, 0⟩ then ([], [], 2)
 else ((numS ⟨s, 0⟩).l.take (numV ⟨s, 0⟩), (numS ⟨s, 0⟩).l.drop (numV ⟨s, 0⟩), 0)
theorem cutP_part {a : List UInt8} (b : List UInt8) (h : a.length < 18446744073709551616) : cutP (prt a ++ b) = (a, b, 0) := by
 have h1 := num_put h (a ++ b)
 unfold cutP prt
 rw [List.append_assoc, h1.1, h1.2, if_neg (by simp), if_neg (by simp)]
 simp
theorem cutP_back {s a b : List UInt8} (h : cutP s = (a, b, 0)) : s = prt a ++ b ∧ a.length < 18446744073709551616 := by
 unfold cutP at h
 split at h
 ·rename_i he; injection h with _ h; injection h with _ h; exact absurd h he
 ·rename_i he
  have hs := Rf.num_split (s := ⟨s, 0⟩) (by simpa using he)
  split at h
  ·injection h with _ h; injection h with _ h; simp at h
  ·rename_i hl
   injection h with h1 h; injection h with h2 _
   have hlen : a.length = numV ⟨s, 0⟩ := by rw [← h1, List.length_take]; omega
   refine ⟨?_, by rw [hlen]; exact numV_lt _⟩
   unfold prt
   rw [hlen, ← h1, ← h2, List.append_assoc, List.take_append_drop]
   exact hs.2
theorem numS_leP (s : St) : (numS s).l.length ≤ s.l.length := by
 unfold numS
 split
 ·split <;> simp
 ·exact Nat.le_refl _
theorem cutP_len (s : List UInt8) : (cutP s).1.length ≤ s.length ∧ (cutP s).2.1.length ≤ s.length := by
 have h := numS_leP ⟨s, 0⟩
 unfold cutP
 split
 ·simp
 ·split
  ·simp
  ·simp only [List.length_take, List.length_drop]
   simp only at h
   omega
/-- which ranks are nought -/
def nz (u : Nat) : Bool := u != 0
/-- P19.2, of ranks by their bits -/
def rkU (us : List Nat) : List UInt8 := prt (encF (us.map nz)) ++ Re.encR (us.filter nz)
def mrg : List Bool → List Nat → List Nat
 | [], _ => []
 | false :: f, r => 0 :: mrg f r
 | true :: f, [] => 0 :: mrg f []
 | true :: f, x :: r => x :: mrg f r
def takeU (s : List UInt8) (n : Int) : List Nat × Int :=
 if (cutP s).2.2 ≠ 0 then ([], (cutP s).2.2)
 else if (decF (cutP s).1 n).2 ≠ 0 then ([], (decF (cutP s).1 n).2)
 else if (Re.decR (cutP s).2.1 (Fg.cnt (decF (cutP s).1 n).1 : Int)).2 ≠ 0 then ([], (Re.decR (cutP s).2.1 (Fg.cnt (decF (cutP s).1 n).1 : Int)).2)
 else if (Re.decR (cutP s).2.1 (Fg.cnt (decF (cutP s).1 n).1 : Int)).1.any (fun u => !nz u) = true then ([], 5)
 else (mrg (decF (cutP s).1 n).1 (Re.decR (cutP s).2.1 (Fg.cnt (decF (cutP s).1 n).1 : Int)).1, 0)
theorem mrg_back : ∀ us : List Nat, mrg (us.map nz) (us.filter nz) = us
 | [] => rfl
 | u :: us => by
  by_cases h : u = 0
  ·subst h
   have e : nz 0 = false := rfl
   rw [List.map_cons, e, List.filter_cons, e, if_neg (by simp)]
   unfold mrg
   rw [mrg_back us]
  ·have e : nz u = true := by simp [nz, h]
   rw [List.map_cons, e, List.filter_cons, e, if_pos rfl]
   unfold mrg
   rw [mrg_back us]
theorem mrg_len : ∀ (f : List Bool) (r : List Nat), (mrg f r).length = f.length
 | [], _ => rfl
 | false :: f, r => by unfold mrg; rw [List.length_cons, List.length_cons, mrg_len f r]
 | true :: f, [] => by unfold mrg; rw [List.length_cons, List.length_cons, mrg_len f []]
 | true :: f, _ :: r => by unfold mrg; rw [List.length_cons, List.length_cons, mrg_len f r]
theorem cnt_nz : ∀ us : List Nat, Fg.cnt (us.map nz) = (us.filter nz).length
 | [] => rfl
 | u :: us => by
  have ih := cnt_nz us
  unfold Fg.cnt at ih ⊢
  rw [List.map_cons, List.count_cons, List.filter_cons, ih]
  cases nz u <;> simp
theorem mrg_fwd : ∀ (f : List Bool) (r : List Nat), r.length = Fg.cnt f → (∀ u ∈ r, nz u = true) → (mrg f r).map nz = f ∧ (mrg f r).filter nz = r
 | [], r, h, _ => by
  have : r = [] := List.eq_nil_of_length_eq_zero (by simpa [Fg.cnt] using h)
  subst this
  exact ⟨rfl, rfl⟩
 | false :: f, r, h, hn => by
  have ih := mrg_fwd f r (by simpa [Fg.cnt] using h) hn
  have e : nz 0 = false := rfl
  unfold mrg
  rw [List.map_cons, List.filter_cons, e, ih.1, if_neg (by simp), ih.2]
  exact ⟨rfl, rfl⟩
 | true :: f, [], h, _ => by simp [Fg.cnt] at h
 | true :: f, x :: r, h, hn => by
  have ih := mrg_fwd f r (by simpa [Fg.cnt] using h) (fun u hu => hn u (List.mem_cons_of_mem _ hu))
  have e := hn x (List.mem_cons_self ..)
  unfold mrg
  rw [List.map_cons, List.filter_cons, e, ih.1, if_pos rfl, ih.2]
  exact ⟨rfl, rfl⟩
theorem good_filter {us : List Nat} (h : Re.Good us) : Re.Good (us.filter nz) := fun u hu => h u ((List.mem_filter.1 hu).1)
theorem encF_small {l : List Bool} (hl : l.length ≤ 100000) : (encF l).length < 18446744073709551616 := by
 have := Fg.encF_len hl
 omega
theorem takeU_rkU {us : List Nat} (hg : Re.Good us) (hl : us.length ≤ 4096) : takeU (rkU us) us.length = (us, 0) := by
 have h1 := cutP_part (a := encF (us.map nz)) (Re.encR (us.filter nz)) (encF_small (by rw [List.length_map]; omega))
 have h2 : decF (encF (us.map nz)) (us.length : Int) = (us.map nz, 0) := by
  have := decF_enc (l := us.map nz) (by rw [List.length_map]; exact hl)
  rw [List.length_map] at this
  exact this
 have h3 := Re.decR_enc (us.filter nz) (good_filter hg)
 unfold takeU rkU
 rw [h1, if_neg (by simp)]
 simp only
 rw [h2, if_neg (by simp)]
 simp only
 rw [cnt_nz, h3, if_neg (by simp), if_neg (by simp), mrg_back]
theorem takeU_none {s : List UInt8} {n : Int} (h : (takeU s n).2 ≠ 0) : (takeU s n).1 = [] := by
 unfold takeU at h ⊢
 repeat' split
 all_goals first | rfl | skip
 rename_i h1 h2 h3 h4
 rw [if_neg h1, if_neg h2, if_neg h3, if_neg h4] at h
 exact absurd rfl h
theorem takeU_back {s : List UInt8} {n : Int} {us : List Nat} (h : takeU s n = (us, 0)) : rkU us = s ∧ (us.length : Int) = n ∧ Re.Good us := by
 unfold takeU at h
 split at h
 ·rename_i he; injection h with _ h; exact absurd h he
 ·rename_i hc
  split at h
  ·rename_i he; injection h with _ h; exact absurd h he
  ·rename_i hf
   split at h
   ·rename_i he; injection h with _ h; exact absurd h he
   ·rename_i hr
    split at h
    ·injection h with _ h; simp at h
    ·rename_i hz
     injection h with h _
     obtain ⟨⟨a, b, e⟩, hab⟩ : ∃ q, cutP s = q := ⟨_, rfl⟩
     rw [hab] at hc hf hr hz h
     simp only at hc hf hr hz h
     have he : e = 0 := by simpa using hc
     subst he
     have hs := cutP_back hab
     have hf' : (decF a n).2 = 0 := by simpa using hf
     have hr' : (Re.decR b (Fg.cnt (decF a n).1 : Int)).2 = 0 := by simpa using hr
     have f1 := decF_dec hf'
     have r1 := Re.enc_decR hr'
     have g1 := Re.decR_good b (Fg.cnt (decF a n).1 : Int)
     have hlen : (Re.decR b (Fg.cnt (decF a n).1 : Int)).1.length = Fg.cnt (decF a n).1 := by have := r1.1; omega
     have hnz : ∀ u ∈ (Re.decR b (Fg.cnt (decF a n).1 : Int)).1, nz u = true := by
      intro u hu
      cases hq : nz u with
      | true => rfl
      | false => exact absurd (List.any_eq_true.2 ⟨u, hu, by rw [hq]; rfl⟩) hz
     have m1 := mrg_fwd _ _ hlen hnz
     rw [h] at m1
     refine ⟨?_, ?_, ?_⟩
     ·unfold rkU
      rw [m1.1, m1.2, f1.1, r1.2]
      exact hs.1.symm
     ·rw [← h, mrg_len]; exact f1.2
     ·intro u hu
      cases hq : nz u with
      | true =>
       have : u ∈ us.filter nz := List.mem_filter.2 ⟨hu, hq⟩
       rw [m1.2] at this
       exact g1 u this
      | false =>
       have : u = 0 := by simpa [nz] using hq
       subst this
       exact ⟨by decide, by decide⟩
end Go.Proofs.YtojhenpaeedimaaGreat.Ol
end
