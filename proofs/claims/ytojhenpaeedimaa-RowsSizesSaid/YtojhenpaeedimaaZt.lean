/-
 A file that is read is what Encode tells. No Go.
 A file cut short is none. No Go.
 Plain mathematics of layer 21: lists of moves that are alike but for what no number's bits are; what Decode tells, case by case. No Go.
 Plain facts of layer 21's live. No Go.
-/
import Derived.Test.YtojhenpaeedimaaZo
import Derived.Test.YtojhenpaeedimaaTc
section
namespace Go.Proofs.Ytojhenpaeedimaa.Rf
open Pk Ck Fl Wd
set_option maxRecDepth 100000
theorem rdL_back (f : List UInt8) : ∀ (n : Nat) (P : List UInt8) (p : Option Mv) (c r : Int) (s s' : St) (l : List Mv), (p = none → c = 0 ∧ r = 0) → (∀ q, p = some q → c = mc q ∧ r = mr q) → s.e = 0 →
  f = P ++ s.l → rdL f n c r s = (l, 0, s') → s.l = l.flatMap oneB ++ s'.l ∧ s'.e = 0 ∧ l.length = n ∧ resM p l = true
 | 0, P, p, c, r, s, s', l, _, _, he, _, h => by
  simp only [rdL] at h
  injection h with a h
  injection h with _ b
  subst a b
  exact ⟨rfl, he, rfl, rfl⟩
 | n + 1, P, p, c, r, s, s', l, h0, hq, he, hf, h => by
  obtain ⟨⟨m, e, s1⟩, hm⟩ : ∃ x, rdM f s = x := ⟨_, rfl⟩
  simp only [rdL, hm] at h
  split at h
  ·rename_i hx; injection h with _ h; injection h with h _; exact absurd h hx
  ·rename_i hx
   obtain rfl : e = 0 := by simpa using hx
   split at h
   ·rename_i hb
    obtain ⟨d1, d2, d3⟩ := rdM_back hf hm
    split at h
    ·rename_i hy; injection h with _ h; injection h with h _; exact absurd h hy
    ·rename_i hy
     injection h with a h
     injection h with _ b
     have hrec := rdL_back f n (P ++ oneB m) (some m) (mc m) (mr m) s1 s' (rdL f n (mc m) (mr m) s1).1 (fun h => by cases h) (fun q h => by cases h; exact ⟨rfl, rfl⟩) d2 (by rw [hf, d1, List.append_assoc])
      (Prod.ext rfl (Prod.ext (by simpa using hy) b))
     obtain ⟨g1, g2, g3, g4⟩ := hrec
     rw [← a]
     refine ⟨?_, g2, by rw [List.length_cons, g3], ?_⟩
     ·rw [d1, List.flatMap_cons, List.append_assoc, ← g1]
     ·simp only [resM, Bool.and_eq_true]
      refine ⟨d3, ?_, g4⟩
      cases p with
      | none => rfl
      | some q =>
       have hh := hq q rfl
       show bm q m = true
       rw [bm_iff]
       unfold MLt
       rw [← hh.1, ← hh.2]; exact hb
   ·injection h with _ h; injection h with h _; simp at h
theorem decR_back {f : List UInt8} {l : List Mv} (h : decR f = (l, 0)) : f = encB l ∧ mayM l = true := by
 unfold decR at h
 split at h
 ·rename_i hx; injection h with _ h; exact absurd h hx
 ·rename_i hv
  have hv : verE f = 0 := by simpa using hv
  split at h
  ·injection h with _ h; simp at h
  ·rename_i h1
   have h1 : verV f = 1 := by simpa using h1
   simp only at h
   split at h
   ·rename_i hx; injection h with _ h; exact absurd h hx
   ·rename_i hn
    have hn := num_split (s := ⟨f.drop 5, 0⟩) (by simpa using hn)
    have hne : (numS ⟨f.drop 5, 0⟩).e = 0 := by rename_i hn0; simpa using hn0
    split at h
    ·injection h with _ h; simp at h
    ·rename_i h2
     split at h
     ·rename_i hx; injection h with _ h; exact absurd h hx
     ·rename_i h3
      split at h
      ·rename_i hx; injection h with _ h; exact absurd h hx
      ·rename_i h4
       injection h with a _
       have hb := ver_back hv
       rw [h1] at hb
       have hst : f = startB ++ f.drop 5 := by have := hb.1; exact this
       have hrec := rdL_back f (numV ⟨f.drop 5, 0⟩) (startB ++ put (numV ⟨f.drop 5, 0⟩)) none 0 0 (numS ⟨f.drop 5, 0⟩) _ l (fun _ => ⟨rfl, rfl⟩) (fun q h => by cases h) hne
        (by rw [List.append_assoc, ← hn.2]; exact hst) (Prod.ext a (Prod.ext (by simpa using h3) rfl))
       obtain ⟨g1, g2, g3, g4⟩ := hrec
       have hz : (rdL f (numV ⟨f.drop 5, 0⟩) 0 0 (numS ⟨f.drop 5, 0⟩)).2.2.l = [] := by
        have h4 : doneV (rdL f (numV ⟨f.drop 5, 0⟩) 0 0 (numS ⟨f.drop 5, 0⟩)).2.2 = 0 := by simpa using h4
        unfold doneV at h4
        rw [if_pos g2] at h4
        split at h4
        ·simp at h4
        ·rename_i hl; exact List.eq_nil_of_length_eq_zero (by omega)
       rw [hz, List.append_nil] at g1
       refine ⟨?_, ?_⟩
       ·unfold encB
        rw [g3, ← g1, ← hn.2]; exact hst
       ·unfold mayM mayL
        rw [g4, Bool.and_true, decide_eq_true_eq]; omega
end Go.Proofs.Ytojhenpaeedimaa.Rf
end
section
namespace Go.Proofs.Ytojhenpaeedimaa.Rf
open Pk Ck Fl Wd
set_option maxRecDepth 100000
theorem mayM_facts {l : List Mv} (h : mayM l = true) : l.length ≤ 2000 ∧ resM none l = true := by
 unfold mayM mayL at h
 simpa only [Bool.and_eq_true, decide_eq_true_eq] using h
theorem enc_prefix {l l' : List Mv} {T : List UInt8} (h : mayM l = true) (h' : mayM l' = true) (hr : ∀ m ∈ l, rk (mw m) < 18446744073709551616) (hr' : ∀ m ∈ l', rk (mw m) < 18446744073709551616)
  (he : encB l = encB l' ++ T) : T = [] := by
 obtain ⟨a1, a2⟩ := mayM_facts h
 obtain ⟨b1, b2⟩ := mayM_facts h'
 have hd : put l.length ++ (l.flatMap oneB ++ []) = put l'.length ++ (l'.flatMap oneB ++ T) := by
  unfold encB at he
  simp only [List.append_assoc] at he
  rw [List.append_nil]
  exact List.append_cancel_left he
 have n1 := num_put (n := l.length) (by omega) (l.flatMap oneB ++ [])
 have n2 := num_put (n := l'.length) (by omega) (l'.flatMap oneB ++ T)
 rw [hd] at n1
 have hlen : l.length = l'.length := n1.1.symm.trans n2.1
 have hst : (⟨l.flatMap oneB ++ [], 0⟩ : St) = ⟨l'.flatMap oneB ++ T, 0⟩ := n1.2.symm.trans n2.2
 have r1 := rdL_all (encB l) [] l (startB ++ put l.length) none 0 0 a2 hr (fun _ => ⟨rfl, rfl⟩) (fun q h => by cases h) (by unfold encB; simp only [List.append_nil, List.append_assoc])
 have r2 := rdL_all (encB l) T l' (startB ++ put l'.length) none 0 0 b2 hr' (fun _ => ⟨rfl, rfl⟩) (fun q h => by cases h) (by rw [he]; unfold encB; simp only [List.append_assoc])
 rw [hst, hlen, r2] at r1
 injection r1 with _ r1
 injection r1 with _ r1
 injection r1 with r1 _
theorem rdL_rk (f : List UInt8) (hfl : ∀ u, u < 18446744073709551616 → fl u < 18446744073709551616) : ∀ (n : Nat) (c r : Int) (s : St), ∀ m ∈ (rdL f n c r s).1, rk (mw m) < 18446744073709551616
 | 0, _, _, _ => by simp [rdL]
 | n + 1, c, r, s => by
  have hz : ∀ s, rk (mw (rdM f s).1) < 18446744073709551616 := by
   intro s
   obtain ⟨⟨N, ne, s5⟩, hn⟩ : ∃ x, namR f (numS (numS (numS (numS s)))) = x := ⟨_, rfl⟩
   rw [rdM_nam f s _ _ _ _ s5 _ N ne rfl rfl rfl rfl hn rfl]
   split
   ·show (0 : Nat) < _; omega
   ·split
    ·show (0 : Nat) < _; omega
    ·split
     ·show (0 : Nat) < _; omega
     ·split
      ·exact hfl _ (fixV_lt _)
      ·show (0 : Nat) < _; omega
  intro m hm
  simp only [rdL] at hm
  split at hm
  ·simp at hm
  ·split at hm
   ·split at hm
    ·simp at hm
    ·rcases List.mem_cons.1 hm with rfl | hm
     ·exact hz s
     ·exact rdL_rk f hfl n _ _ _ m hm
   ·simp at hm
theorem decR_rk (f : List UInt8) : ∀ m ∈ (decR f).1, rk (mw m) < 18446744073709551616 := by
 have h := rdL_rk f fl_lt
 intro m hm
 unfold decR at hm
 split at hm
 ·simp at hm
 ·split at hm
  ·simp at hm
  ·simp only at hm
   split at hm
   ·simp at hm
   ·split at hm
    ·simp at hm
    ·split at hm
     ·simp at hm
     ·split at hm
      ·simp at hm
      ·exact h _ _ _ _ m hm
/-- of what Encode tells no less than all is a file -/
theorem decR_cut {l : List Mv} (h : mayM l = true) (hr : ∀ m ∈ l, rk (mw m) < 18446744073709551616) {k : Nat} (hk : k < (encB l).length) : (decR ((encB l).take k)).2 ≠ 0 := by
 intro h0
 obtain ⟨a, b⟩ := decR_back (f := (encB l).take k) (l := (decR ((encB l).take k)).1) (Prod.ext rfl h0)
 have ht := enc_prefix (T := (encB l).drop k) h b hr (decR_rk _) (by rw [← a, List.take_append_drop])
 have := congrArg List.length ht
 rw [List.length_drop] at this
 simp only [List.length_nil] at this
 omega
end Go.Proofs.Ytojhenpaeedimaa.Rf
end
section
namespace Go.Proofs.Ytojhenpaeedimaa.Rf
open Pk Ck Fl Wd
set_option maxRecDepth 100000
theorem rf_cb {u y : Nat} (hu : u < 18446744073709551616) (hc : cn u = true) (h : RF u y) : cb y = u := by
 rcases (cn_iff u hu).1 hc with h1 | h1
 ·rw [h.2.1 h1, cb_num h1]
 ·have hn : nn u = true := by subst h1; decide
  rw [cb_nan (h.2.2 hn), h1]
/-- two moves are alike but for a rank that is no number -/
def SimM (a b : Mv) : Prop := mc a = mc b ∧ mr a = mr b ∧ ch (mw a) = ch (mw b) ∧ pa (mw a) = pa (mw b) ∧ nm (mw a) = nm (mw b) ∧ rk (mw a) < 18446744073709551616 ∧ cb (rk (mw a)) = cb (rk (mw b))
def SimL : List Mv → List Mv → Prop
 | [], [] => True
 | a :: l, b :: m => SimM a b ∧ SimL l m
 | _, _ => False
theorem SimL.len : ∀ {l m : List Mv}, SimL l m → l.length = m.length
 | [], [], _ => rfl
 | _ :: l, _ :: m, h => by rw [List.length_cons, List.length_cons, SimL.len (l := l) (m := m) h.2]
theorem SimL.snoc : ∀ {l m : List Mv} {a b : Mv}, SimL l m → SimM a b → SimL (l ++ [a]) (m ++ [b])
 | [], [], _, _, _, h => ⟨h, trivial⟩
 | _ :: _, _ :: _, _, _, h, h2 => ⟨h.1, SimL.snoc h.2 h2⟩
theorem sim_alike {a b c : Mv} (h : SimM a b) : alikeM c a = alikeM c b := by
 obtain ⟨h1, h2, h3, h4, h5, -, h7⟩ := h
 unfold alikeM timeEq alikeP
 rw [h1, h2, h3, h4, h5, h7]
theorem SimL.same : ∀ {x l m : List Mv}, SimL l m → sameM x l = sameM x m
 | [], [], [], _ => rfl
 | _ :: _, [], [], _ => rfl
 | [], _ :: _, _ :: _, _ => rfl
 | a :: x, _ :: l, _ :: m, h => by
  unfold sameM
  rw [sim_alike h.1, SimL.same h.2]
theorem SimL.mem : ∀ {l m : List Mv} {a : Mv}, SimL l m → a ∈ l → ∃ b ∈ m, SimM a b
 | x :: l, y :: m, a, h, hm => by
  rcases List.mem_cons.1 hm with rfl | hm
  ·exact ⟨y, List.mem_cons_self, h.1⟩
  ·obtain ⟨b, hb, hs⟩ := SimL.mem h.2 hm
   exact ⟨b, List.mem_cons_of_mem _ hb, hs⟩
theorem rdM_doc {f : List UInt8} {s s1 s2 s3 s4 s5 s6 : St} {tn : List UInt8} {to te : Int} (h1 : numS s = s1) (h2 : numS s1 = s2) (h3 : numS s2 = s3) (h4 : numS s3 = s4)
  (ht : tk f ((f.length : Int) - (s4.l.length : Int)) 64 = (tn, to, te)) (h5 : takeS (to - ((f.length : Int) - (s4.l.length : Int))) s4 = s5) (h6 : fixS s5 = s6) :
  rdM f s = if s4.e ≠ 0 then (zM, s4.e, s4) else if te ≠ 0 then (zM, te, s4) else if s6.e ≠ 0 then (zM, s6.e, s6) else
   if cn (fixV s5) && oneM (i64 (numV s), i64 (numV s1), i64 (numV s3), i64 (numV s2), tn, fl (fixV s5)) then ((i64 (numV s), i64 (numV s1), i64 (numV s3), i64 (numV s2), tn, fl (fixV s5)), 0, s6) else (zM, 5, s6) := by
 unfold rdM
 simp only [h1, h2, h3, h4, ht, h5, h6]
theorem take_tk {f : List UInt8} {K : Nat} {tn : List UInt8} {to : Int} {s : St} (hK : K ≤ f.length) (hd : f.drop K = s.l) (he : s.e = 0) (h : tk f (K : Int) 64 = (tn, to, 0)) :
  ∃ T : Nat, to = (T : Int) ∧ T ≤ f.length ∧ f.drop T = (takeS (to - (K : Int)) s).l ∧ (takeS (to - (K : Int)) s).e = 0 ∧ tn.length ≤ 64 := by
 obtain ⟨R, h1, h2, h3, h4⟩ := tk_split hK h
 have hl := congrArg List.length h1
 rw [List.length_drop] at hl
 simp only [List.length_append] at hl
 have hT : to = ((f.length - R.length : Nat) : Int) := by omega
 have hok := take_ok (n := to - (K : Int)) he (by rw [← hd, List.length_drop]; omega)
 refine ⟨f.length - R.length, hT, by omega, ?_, by rw [hok.2], by omega⟩
 rw [hok.2]
 show _ = s.l.drop _
 rw [← hd, List.drop_drop]
 congr 1
 omega
theorem oneM_neg {c r k p : Int} {n : List UInt8} {f : Nat} (h : c < 0 ∨ r < 0 ∨ k < 0 ∨ p < 0) : oneM (c, r, k, p, n, f) = false := by
 cases hq : oneM (c, r, k, p, n, f) with
 | false => rfl
 | true =>
  obtain ⟨h1, h2, h3, h4, -⟩ := oneM_facts hq
  have a1 : 1 ≤ c := h1.1
  have a2 : 1 ≤ r := h2.1
  have a3 : 1 ≤ p ∨ 1 ≤ k := by
   first
    | exact .inl h3.1
    | exact .inr h3.1
  have a4 : 0 ≤ p := by
   first
    | exact h4.1
    | exact Int.le_trans (by decide) h3.1
  have a5 : 0 ≤ k := by
   first
    | exact h4.1
    | exact Int.le_trans (by decide) h3.1
  omega
theorem i64_neg {n : Nat} (h : 9223372036854775808 ≤ n) (h2 : n < 18446744073709551616) : i64 n < 0 := by
 unfold i64; rw [if_neg (by omega)]; omega
theorem i64_nat {n : Nat} (h : ¬ 9223372036854775808 ≤ n) : i64 n = (n : Int) := by
 unfold i64; rw [if_pos (by omega)]
theorem decR_one {f : List UInt8} (h : verE f ≠ 0) : decR f = ([], verE f) := by unfold decR; rw [if_pos h]
theorem decR_two {f : List UInt8} (h : verE f = 0) (h2 : verV f ≠ 1) : decR f = ([], 8) := by unfold decR; rw [if_neg (by simp [h]), if_pos h2]
theorem decR_rest {f : List UInt8} {s1 : St} {n : Nat} (h : verE f = 0) (h2 : verV f = 1) (h3 : numS ⟨f.drop 5, 0⟩ = s1) (h4 : numV ⟨f.drop 5, 0⟩ = n) :
  decR f = if s1.e ≠ 0 then ([], s1.e) else if 2000 < n then ([], 10) else if (rdL f n 0 0 s1).2.1 ≠ 0 then ([], (rdL f n 0 0 s1).2.1) else if doneV (rdL f n 0 0 s1).2.2 ≠ 0 then ([], doneV (rdL f n 0 0 s1).2.2) else ((rdL f n 0 0 s1).1, 0) := by
 unfold decR
 rw [if_neg (by simp [h]), if_neg (by simp [h2])]
 simp only [h3, h4]
theorem decR_none {f : List UInt8} (h : (decR f).2 ≠ 0) : (decR f).1 = [] := by
 unfold decR at h ⊢
 by_cases a : verE f ≠ 0
 ·rw [if_pos a]
 ·rw [if_neg a] at h ⊢
  by_cases b : verV f ≠ 1
  ·rw [if_pos b]
  ·rw [if_neg b] at h ⊢
   simp only at h ⊢
   split
   ·rfl
   ·rename_i h1; rw [if_neg h1] at h
    split
    ·rfl
    ·rename_i h2; rw [if_neg h2] at h
     split
     ·rfl
     ·rename_i h3; rw [if_neg h3] at h
      split
      ·rfl
      ·rename_i h4; rw [if_neg h4] at h; exact absurd rfl h
end Go.Proofs.Ytojhenpaeedimaa.Rf
end
section
namespace Go.Proofs.Ytojhenpaeedimaa.Rf
open Pk Ck Fl Wd
set_option maxRecDepth 100000
namespace live21
def m0 : Mv := (5, 2, 300, 0, [97], 4607182418800017408)
def F : List UInt8 := [66, 78, 83, 73, 1, 1, 5, 2, 0, 172, 2, 1, 97, 0, 0, 0, 0, 0, 0, 240, 63]
def O : List UInt8 := [5, 2, 0, 172, 2, 1, 97, 0, 0, 0, 0, 0, 0, 240, 63]
theorem enc : encB [m0] = F := by kernel_rfl
theorem may : mayM [m0] = true := by kernel_rfl
theorem one : oneB m0 = O := by kernel_rfl
theorem dec : decR F = ([m0], 0) := by rw [← enc, decR_enc _ may (by intro m hm; rw [List.mem_singleton.1 hm]; decide)]; kernel_rfl
theorem d2 : decR [66, 78, 83, 73, 2, 0] = ([], 8) := by kernel_rfl
theorem d7 : decR [66, 78, 83, 88] = ([], 7) := by kernel_rfl
theorem d0 : decR [66, 78, 83, 73, 1, 0] = ([], 0) := by kernel_rfl
theorem dx : decR (F ++ [120]) = ([], 5) := by kernel_rfl
theorem dd : decR ([66, 78, 83, 73, 1, 2] ++ O ++ O) = ([], 12) := by kernel_rfl
theorem sm : sameM [m0] [m0] = true := by kernel_rfl
end live21
end Go.Proofs.Ytojhenpaeedimaa.Rf
end
