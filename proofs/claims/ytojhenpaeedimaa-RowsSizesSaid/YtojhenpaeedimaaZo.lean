/-
 What One tells is read again. No Go.
 What Encode tells is read again. No Go.
 What is read is what One tells of it. No Go.
-/
import Derived.Test.YtojhenpaeedimaaZf
import Derived.Test.YtojhenpaeedimaaZg
section
namespace Go.Proofs.Ytojhenpaeedimaa.Rf
open Pk Ck Fl Wd
set_option maxRecDepth 100000
/-- a move as it comes back -/
def bkM (m : Mv) : Mv := (mc m, mr m, ch (mw m), pa (mw m), nm (mw m), fl (cb (rk (mw m))))
theorem oneM_facts {m : Mv} (h : oneM m = true) : (1 ≤ mc m ∧ mc m ≤ 4611686018427387903) ∧ (1 ≤ mr m ∧ mr m ≤ 255) ∧ (1 ≤ ch (mw m) ∧ ch (mw m) ≤ 2147483647) ∧ (0 ≤ pa (mw m) ∧ pa (mw m) ≤ 2147483647) ∧ (nm (mw m)).length ≤ 64 ∧ valid (nm (mw m)) = true := by
 unfold oneM oneP at h
 simp only [Bool.and_eq_true, decide_eq_true_eq] at h
 obtain ⟨a, b, c, d, e, f, g, i, j, k⟩ := h
 exact ⟨⟨a, b⟩, ⟨c, d⟩, ⟨e, f⟩, ⟨g, i⟩, j, k⟩
theorem oneM_bk (m : Mv) : oneM (bkM m) = oneM m := rfl
theorem rdM_one (f P R : List UInt8) (m : Mv) (hm : oneM m = true) (hr : rk (mw m) < 18446744073709551616) (hf : f = P ++ (oneB m ++ R)) :
  rdM f ⟨oneB m ++ R, 0⟩ = (bkM m, 0, ⟨R, 0⟩) := by
 obtain ⟨⟨a1, a2⟩, ⟨b1, b2⟩, ⟨c1, c2⟩, ⟨d1, d2⟩, hn, hv⟩ := oneM_facts hm
 obtain ⟨N, hN⟩ : ∃ N, N = nm (mw m) := ⟨_, rfl⟩
 obtain ⟨Z, hZ⟩ : ∃ Z, Z = fixed 8 (cb (rk (mw m))) ++ R := ⟨_, rfl⟩
 have e0 : oneB m ++ R = put (u64 (mc m)) ++ (put (u64 (mr m)) ++ (put (u64 (pa (mw m))) ++ (put (u64 (ch (mw m))) ++ (put N.length ++ (N ++ Z))))) := by
  rw [hZ, hN]; unfold oneB; simp only [List.append_assoc]
 have h1 := num_put (u64_lt (mc m)) (put (u64 (mr m)) ++ (put (u64 (pa (mw m))) ++ (put (u64 (ch (mw m))) ++ (put N.length ++ (N ++ Z)))))
 have h2 := num_put (u64_lt (mr m)) (put (u64 (pa (mw m))) ++ (put (u64 (ch (mw m))) ++ (put N.length ++ (N ++ Z))))
 have h3 := num_put (u64_lt (pa (mw m))) (put (u64 (ch (mw m))) ++ (put N.length ++ (N ++ Z)))
 have h4 := num_put (u64_lt (ch (mw m))) (put N.length ++ (N ++ Z))
 rw [← hN] at hn hv
 have h5 := num_put (n := N.length) (by omega) (N ++ Z)
 obtain ⟨K, hK⟩ : ∃ K, K = f.length - (put N.length ++ (N ++ Z)).length := ⟨_, rfl⟩
 have hfd : f = (P ++ (put (u64 (mc m)) ++ (put (u64 (mr m)) ++ (put (u64 (pa (mw m))) ++ put (u64 (ch (mw m))))))) ++ (put N.length ++ (N ++ Z)) := by
  rw [hf, e0]; simp only [List.append_assoc]
 have hKl : (P ++ (put (u64 (mc m)) ++ (put (u64 (mr m)) ++ (put (u64 (pa (mw m))) ++ put (u64 (ch (mw m))))))).length = K := by
  rw [hK]; have := congrArg List.length hfd; rw [List.length_append] at this; omega
 have hdr : f.drop K = put N.length ++ (N ++ Z) := by rw [hfd, ← hKl, List.drop_left]
 have hle : K ≤ f.length := by omega
 have hat : (f.length : Int) - ((put N.length ++ (N ++ Z)).length : Int) = (K : Int) := by
  have : (put N.length ++ (N ++ Z)).length ≤ f.length := by have := congrArg List.length hfd; rw [List.length_append] at this; omega
  omega
 have ht := tk_ok (l := f) (k := K) (v := N.length) (most := 64) (st := ⟨N ++ Z, 0⟩) hle (by rw [hdr]; exact h5.2.symm) (by rw [hdr]; exact h5.1.symm) rfl (by omega) (by simp) (by rw [List.take_left]; exact hv)
 rw [List.take_left, List.drop_left] at ht
 have htk : takeS ((f.length : Int) - (Z.length : Int) - (K : Int)) ⟨put N.length ++ (N ++ Z), 0⟩ = ⟨Z, 0⟩ := by
  have hlen : (f.length : Int) - (Z.length : Int) - (K : Int) = ((put N.length).length + N.length : Nat) := by
   rw [← hat]; simp only [List.length_append]; omega
  rw [hlen]
  have := take_ok (n := ((put N.length).length + N.length : Nat)) (s := ⟨put N.length ++ (N ++ Z), 0⟩) rfl (by simp only [List.length_append]; omega)
  rw [this.2]
  simp only [Int.toNat_natCast]
  rw [← List.append_assoc, ← List.length_append, List.drop_left]
 have hc : cb (rk (mw m)) < 18446744073709551616 := cb_lt _ hr
 have h6 := fix_fixed hc R
 rw [← hZ] at h6
 have hnam : namR f ⟨put N.length ++ (N ++ Z), 0⟩ = (N, 0, ⟨Z, 0⟩) := by
  unfold namR
  simp only
  rw [hat, ht]
  simp only
  rw [if_neg (by simp), htk]
 rw [e0, rdM_nam f _ _ _ _ _ _ _ N 0 h1.2 h2.2 h3.2 h4.2 hnam h6.2, h1.1, h2.1, h3.1, h4.1, h6.1]
 rw [if_neg (by simp), if_neg (by simp), if_neg (by simp)]
 rw [i64_u64 (by omega) (by omega), i64_u64 (by omega) (by omega), i64_u64 (by omega) (by omega), i64_u64 (by omega) (by omega), hN]
 rw [cn_cb hr, show (mc m, mr m, ch (mw m), pa (mw m), nm (mw m), fl (cb (rk (mw m)))) = bkM m from rfl, oneM_bk, hm]
 rfl
end Go.Proofs.Ytojhenpaeedimaa.Rf
end
section
namespace Go.Proofs.Ytojhenpaeedimaa.Rf
open Pk Ck Fl Wd
set_option maxRecDepth 100000
theorem rdL_all (f R : List UInt8) : ∀ (l : List Mv) (P : List UInt8) (p : Option Mv) (c r : Int), resM p l = true → (∀ m ∈ l, rk (mw m) < 18446744073709551616) → (p = none → c = 0 ∧ r = 0) → (∀ q, p = some q → c = mc q ∧ r = mr q) →
  f = P ++ (l.flatMap oneB ++ R) → rdL f l.length c r ⟨l.flatMap oneB ++ R, 0⟩ = (l.map bkM, 0, ⟨R, 0⟩)
 | [], P, p, c, r, _, _, _, _, _ => by simp [rdL]
 | m :: t, P, p, c, r, hres, hrk, h0, hq, hf => by
  simp only [resM, Bool.and_eq_true] at hres
  obtain ⟨hm, hb, ht⟩ := hres
  have hx := oneM_facts hm
  have e0 : (m :: t).flatMap oneB ++ R = oneB m ++ (t.flatMap oneB ++ R) := by simp [List.flatMap_cons]
  rw [e0] at hf ⊢
  have h1 := rdM_one f P (t.flatMap oneB ++ R) m hm (hrk m (List.mem_cons_self ..)) hf
  have hbef : c < mc m ∨ c = mc m ∧ r < mr m := by
   cases p with
   | none => have := h0 rfl; omega
   | some q =>
    have hh := hq q rfl
    have hb2 : bm q m = true := hb
    rw [bm_iff] at hb2
    unfold MLt at hb2
    rw [hh.1, hh.2]; exact hb2
  have hr := rdL_all f R t (P ++ oneB m) (some m) (mc m) (mr m) ht (fun x hx => hrk x (List.mem_cons_of_mem _ hx)) (fun h => by cases h) (fun q h => by cases h; exact ⟨rfl, rfl⟩) (by rw [hf]; simp only [List.append_assoc])
  rw [List.length_cons]
  simp only [rdL, h1]
  have e1 : mc (bkM m) = mc m := rfl
  have e2 : mr (bkM m) = mr m := rfl
  rw [if_neg (by simp), e1, e2, if_pos hbef, hr]
  simp
theorem decR_enc (l : List Mv) (h : mayM l = true) (hrk : ∀ m ∈ l, rk (mw m) < 18446744073709551616) : decR (encB l) = (l.map bkM, 0) := by
 have hm := h
 unfold mayM mayL at hm
 simp only [Bool.and_eq_true, decide_eq_true_eq] at hm
 obtain ⟨hl, hres⟩ := hm
 have hv : verE (encB l) = 0 := by
  have hlen : 5 ≤ (encB l).length := by show 5 ≤ (startB ++ _).length; rw [List.length_append]; show 5 ≤ 5 + _; omega
  unfold verE
  rw [if_neg (by rw [show (encB l).take 4 = magic from rfl]; simp), if_neg (by omega)]
 have hvv : verV (encB l) = 1 := by unfold verV; rw [if_pos hv]; rfl
 have hd : (encB l).drop 5 = put l.length ++ (l.flatMap oneB ++ []) := by rw [List.append_nil]; rfl
 have hn := num_put (n := l.length) (by omega) (l.flatMap oneB ++ [])
 have hall := rdL_all (encB l) [] l (startB ++ put l.length) none 0 0 hres hrk (fun _ => ⟨rfl, rfl⟩) (fun q h => by cases h) (by unfold encB; simp only [List.append_nil, List.append_assoc])
 unfold decR
 rw [if_neg (by rw [hv]; simp), if_neg (by rw [hvv]; simp)]
 simp only [hd, hn.1, hn.2, hall]
 rw [if_neg (by simp), if_neg (by omega), if_neg (by simp), if_neg (by simp [doneV])]
end Go.Proofs.Ytojhenpaeedimaa.Rf
end
section
namespace Go.Proofs.Ytojhenpaeedimaa.Rf
open Pk Ck Fl Wd
set_option maxRecDepth 100000
theorem num_split {s : St} (h : (numS s).e = 0) : s.e = 0 ∧ s.l = put (numV s) ++ (numS s).l := by
 by_cases he : s.e = 0
 ·refine ⟨he, ?_⟩
  cases hr : rd s.l with
  | cut => rw [(num_cut he hr).2] at h; simp at h
  | long => rw [(num_long he hr).2] at h; simp at h
  | ok n u =>
   obtain ⟨h1, _⟩ := rd_inv hr
   rw [(num_ok he hr).1, (num_ok he hr).2, ← h1]
   simp
 ·rw [(num_err he).2] at h; exact absurd h he
theorem fix_split {s : St} (h : (fixS s).e = 0) : s.e = 0 ∧ s.l = fixed 8 (fixV s) ++ (fixS s).l := by
 by_cases he : s.e = 0
 ·refine ⟨he, ?_⟩
  by_cases hl : 8 ≤ s.l.length
  ·rw [(fix_ok he hl).1, (fix_ok he hl).2]
   have hh := fixed_num8 (s.l.take 8)
   rw [List.length_take, Nat.min_eq_left hl] at hh
   rw [hh]; simp
  ·rw [(fix_cut he (by omega)).2] at h; simp at h
 ·rw [(fix_err he).2] at h; exact absurd h he
theorem tk_split {f : List UInt8} {K : Nat} {most : Int} {N : List UInt8} {to : Int} (hK : K ≤ f.length) (h : tk f (K : Int) most = (N, to, 0)) :
  ∃ R, f.drop K = put N.length ++ (N ++ R) ∧ to = (f.length : Int) - (R.length : Int) ∧ valid N = true ∧ (N.length : Int) ≤ most := by
 unfold tk at h
 rw [if_neg (by omega), show ((K : Int)).toNat = K from rfl] at h
 split at h
 ·rename_i he; injection h with _ h; injection h with _ h; exact absurd h he
 ·rename_i he
  have hs := num_split (s := ⟨f.drop K, 0⟩) (by simpa using he)
  split at h
  ·injection h with _ h; injection h with _ h; simp at h
  ·split at h
   ·injection h with _ h; injection h with _ h; simp at h
   ·split at h
    ·rename_i h1 h2 h3
     injection h with a h
     injection h with b _
     have hlen : N.length = numV ⟨f.drop K, 0⟩ := by rw [← a, List.length_take]; omega
     refine ⟨(numS ⟨f.drop K, 0⟩).l.drop (numV ⟨f.drop K, 0⟩), ?_, b.symm, by rw [← a]; exact h3, by rw [hlen]; omega⟩
     rw [hlen, ← a, List.take_append_drop]
     exact hs.2
    ·injection h with _ h; injection h with _ h; simp at h
theorem nam_split {f P : List UInt8} {s s' : St} {N : List UInt8} (he : s.e = 0) (hf : f = P ++ s.l) (h : namR f s = (N, 0, s')) : s.l = put N.length ++ (N ++ s'.l) ∧ s'.e = 0 := by
 have hl : f.length = P.length + s.l.length := by rw [hf, List.length_append]
 have hat : (f.length : Int) - (s.l.length : Int) = (P.length : Int) := by omega
 have hdr : f.drop P.length = s.l := by rw [hf, List.drop_left]
 unfold namR at h
 rw [hat] at h
 split at h
 ·rename_i h0; injection h with _ h; injection h with h _; exact absurd h h0
 ·rename_i h0
  injection h with a h
  injection h with _ b
  obtain ⟨R, q1, q2, q3, q4⟩ := tk_split (f := f) (K := P.length) (most := 64) (N := N) (to := (tk f (P.length : Int) 64).2.1) (by omega) (by rw [← a]; exact Prod.ext rfl (Prod.ext rfl (by simpa using h0)))
  rw [hdr] at q1
  have hlen := congrArg List.length q1
  simp only [List.length_append] at hlen
  have hto : (tk f (P.length : Int) 64).2.1 - (P.length : Int) = ((put N.length).length + N.length : Nat) := by rw [q2]; omega
  rw [hto] at b
  have ht := take_ok (n := ((put N.length).length + N.length : Nat)) (s := s) he (by omega)
  rw [ht.2] at b
  simp only [Int.toNat_natCast] at b
  rw [← b]
  refine ⟨?_, rfl⟩
  have hd2 : s.l.drop ((put N.length).length + N.length) = R := by
   rw [q1, ← List.append_assoc, ← List.length_append, List.drop_left]
  simp only [hd2]
  exact q1
theorem rdM_back {f P : List UInt8} {s s' : St} {m : Mv} (hf : f = P ++ s.l) (h : rdM f s = (m, 0, s')) : s.l = oneB m ++ s'.l ∧ s'.e = 0 ∧ oneM m = true := by
 obtain ⟨⟨N, ne, s5⟩, hn⟩ : ∃ x, namR f (numS (numS (numS (numS s)))) = x := ⟨_, rfl⟩
 rw [rdM_nam f s _ _ _ _ s5 _ N ne rfl rfl rfl rfl hn rfl] at h
 split at h
 ·rename_i h4; injection h with _ h; injection h with h _; exact absurd h h4
 ·rename_i h4
  have h4 : (numS (numS (numS (numS s)))).e = 0 := by simpa using h4
  split at h
  ·rename_i h5; injection h with _ h; injection h with h _; exact absurd h h5
  ·rename_i h5
   obtain rfl : ne = 0 := by simpa using h5
   split at h
   ·rename_i h6; injection h with _ h; injection h with h _; exact absurd h h6
   ·rename_i h6
    split at h
    ·rename_i hc
     rw [Bool.and_eq_true] at hc
     injection h with hm h
     injection h with _ hs
     have d4 := num_split h4
     have d3 := num_split d4.1
     have d2 := num_split d3.1
     have d1 := num_split d2.1
     have dn := nam_split (P := P ++ (put (numV s) ++ (put (numV (numS s)) ++ (put (numV (numS (numS s))) ++ put (numV (numS (numS (numS s)))))))) h4 (by
      rw [hf, d1.2, d2.2, d3.2, d4.2]; simp only [List.append_assoc]) hn
     have d6 := fix_split (s := s5) (by simpa using h6)
     subst hs
     refine ⟨?_, by simpa using h6, by rw [← hm]; exact hc.2⟩
     rw [← hm]
     unfold oneB
     show s.l = put (u64 (i64 (numV s))) ++ (put (u64 (i64 (numV (numS s)))) ++ (put (u64 (i64 (numV (numS (numS s))))) ++ (put (u64 (i64 (numV (numS (numS (numS s)))))) ++ (put N.length ++ N ++ fixed 8 (cb (fl (fixV s5))))))) ++ (fixS s5).l
     rw [u64_i64 (numV_lt _), u64_i64 (numV_lt _), u64_i64 (numV_lt _), u64_i64 (numV_lt _), cb_fl_cn (fixV_lt _) hc.1]
     simp only [List.append_assoc]
     rw [← d6.2, ← dn.1, ← d4.2, ← d3.2, ← d2.2, ← d1.2]
    ·injection h with _ h; injection h with h _; simp at h
end Go.Proofs.Ytojhenpaeedimaa.Rf
end
