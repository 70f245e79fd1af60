/-
  Plain mathematics of layer 8: what is decoded.
-/
import Derived.Test.YtiehmeheilfocaaTf
import Derived.Test.YtiehmeheilfocaaEf
namespace Go.Proofs.Ytiehmeheilfocaa
open Pk Dc Wd
set_option maxRecDepth 100000

/-- as many texts behind their lengths, from a place on, behind out -/
def tks (l : List UInt8) (most : Int) : Nat → Int → List Tx → List Tx × Int × Int
  | 0, to, out => (out, to, 0)
  | c + 1, to, out => if (tk l to most).2.2 ≠ 0 then ([], 0, (tk l to most).2.2) else tks l most c (tk l to most).2.1 (out ++ [(tk l to most).1])
/-- the words that bytes begin with -/
def tkW (l : List UInt8) (n : Nat) (most : Int) : List Tx × Int × Int :=
  if (numS ⟨l, 0⟩).e ≠ 0 then ([], 0, (numS ⟨l, 0⟩).e) else if n < numV ⟨l, 0⟩ then ([], 0, 10) else tks l most (numV ⟨l, 0⟩) ((l.length - (numS ⟨l, 0⟩).l.length : Nat) : Int) []
/-- .. and the list, behind these -/
def decT (l : List UInt8) (n : Nat) (r : List Tx × Int × Int) : List Tx × Int :=
  if r.2.2 ≠ 0 then ([], r.2.2)
  else if (decU (l.drop r.2.1.toNat) n).2 ≠ 0 then ([], (decU (l.drop r.2.1.toNat) n).2)
  else if mayW r.1 (decU (l.drop r.2.1.toNat) n).1 = true then ((pk r.1 [] (decU (l.drop r.2.1.toNat) n).1).1, 0) else ([], 5)
/-- P8.3 -/
def decD (l : List UInt8) (n most : Int) : List Tx × Int := if n < 0 then ([], 1) else if 4096 < n then ([], 10) else decT l n.toNat (tkW l n.toNat most)

theorem decD_neg {l : List UInt8} {n most : Int} (h : n < 0) : decD l n most = ([], 1) := by rw [decD, if_pos h]
theorem decD_big {l : List UInt8} {n most : Int} (h : 4096 < n) : decD l n most = ([], 10) := by rw [decD, if_neg (by omega), if_pos h]
theorem decD_in {l : List UInt8} {n : Nat} {most : Int} (h : n ≤ 4096) : decD l n most = decT l n (tkW l n most) := by rw [decD, if_neg (by omega), if_neg (by omega), Int.toNat_natCast]

/-- the two ends of Take -/
theorem tk_two (l : List UInt8) (k : Nat) (most : Int) (hk : k ≤ l.length) : (∃ e, e ≠ 0 ∧ tk l (k : Int) most = ([], 0, e)) ∨ (∃ (t : Tx) (u : Nat), tk l (k : Int) most = (t, (u : Int), 0) ∧ u ≤ l.length ∧ k < u ∧ l.drop k = (put t.length ++ t) ++ l.drop u ∧ valid t = true ∧ (t.length : Int) ≤ most) := by
  cases hr : rd (l.drop k) with
  | cut => exact .inl ⟨2, by decide, by have := tk_err (most := most) hk rfl (by rw [(num_cut rfl hr).2]; exact (show (2 : Int) ≠ 0 by decide)); rw [(num_cut rfl (s := ⟨l.drop k, 0⟩) hr).2] at this; exact this⟩
  | long => exact .inl ⟨3, by decide, by have := tk_err (most := most) hk rfl (by rw [(num_long rfl hr).2]; exact (show (3 : Int) ≠ 0 by decide)); rw [(num_long rfl (s := ⟨l.drop k, 0⟩) hr).2] at this; exact this⟩
  | ok n u =>
    obtain ⟨i1, i2, i3, i4, i5, i6⟩ := rd_inv hr
    obtain ⟨hv, hs⟩ := num_ok (s := ⟨l.drop k, 0⟩) rfl hr
    have hs' : (⟨(l.drop k).drop u, 0⟩ : St) = numS ⟨l.drop k, 0⟩ := hs.symm
    by_cases hb : most < 0 ∨ most < (n : Int)
    · exact .inl ⟨10, by decide, tk_big hk hs' hv.symm rfl hb⟩
    · by_cases hc : ((l.drop k).drop u).length < n
      · exact .inl ⟨2, by decide, tk_cut hk hs' hv.symm rfl hb hc⟩
      · cases ht : valid (((l.drop k).drop u).take n)
        · exact .inl ⟨4, by decide, tk_text hk hs' hv.symm rfl hb hc ht⟩
        · rw [List.length_drop, List.length_drop] at hc
          rw [List.length_drop] at i3
          have hn : (((l.drop k).drop u).take n).length = n := by rw [List.length_take, List.length_drop, List.length_drop]; omega
          refine .inr ⟨((l.drop k).drop u).take n, k + u + n, ?_, by omega, by omega, ?_, ht, by rw [hn]; omega⟩
          · have := tk_ok (most := most) hk hs' hv.symm rfl hb (by rw [List.length_drop, List.length_drop]; omega) ht
            refine this.trans ?_
            simp only [List.length_drop]
            congr 2
            omega
          · rw [hn, ← i1, ← List.drop_drop, ← List.drop_drop, List.append_assoc, List.take_append_drop, List.take_append_drop]

theorem tk_here {l : List UInt8} {k : Nat} {t : Tx} {R : List UInt8} {most : Int} (hk : k ≤ l.length) (hd : l.drop k = (put t.length ++ t) ++ R) (ht : t.length < 18446744073709551616) :
    tk l (k : Int) most = if (t.length : Int) ≤ most then (if valid t = true then (t, ((l.length - R.length : Nat) : Int), 0) else ([], 0, 4)) else ([], 0, 10) := by
  rw [List.append_assoc] at hd
  obtain ⟨n1, n2⟩ := num_put ht (t ++ R)
  rw [← hd] at n1 n2
  have htk : (t ++ R).take t.length = t := List.take_left
  have hdr : (t ++ R).drop t.length = R := List.drop_left
  have hR : R.length ≤ l.length := by
    have := congrArg List.length hd
    rw [List.length_drop, List.length_append, List.length_append] at this
    omega
  by_cases hm : (t.length : Int) ≤ most
  · rw [if_pos hm]
    by_cases hv : valid t = true
    · rw [if_pos hv]
      have := tk_ok (most := most) hk n2.symm n1.symm rfl (by omega) (by simp) (by rw [htk]; exact hv)
      rw [this, htk, hdr]
      congr 2
      omega
    · rw [if_neg hv]
      exact tk_text (most := most) hk n2.symm n1.symm rfl (by omega) (by simp) (by rw [htk]; simpa using hv)
  · rw [if_neg hm]
    exact tk_big (most := most) hk n2.symm n1.symm rfl (by omega)

def Good (most : Int) (t : Tx) : Prop := valid t = true ∧ (t.length : Int) ≤ most
/-- texts that are put, one behind the other, are taken -/
theorem tks_enc {l : List UInt8} {most : Int} (W : List Tx) : ∀ (k : Nat) (out : List Tx) (R : List UInt8), k ≤ l.length → l.drop k = enc4 W ++ R → (∀ t ∈ W, t.length < 18446744073709551616) → (∀ t ∈ W, Good most t) → tks l most W.length (k : Int) out = (out ++ W, ((l.length - R.length : Nat) : Int), 0) := by
  induction W with
  | nil =>
    intro k out R hk hd _ _
    have := congrArg List.length hd
    simp [enc4] at this
    rw [List.length_nil, tks, List.append_nil, show k = l.length - R.length by omega]
  | cons t W ih =>
    intro k out R hk hd hl hg
    rw [enc4, List.append_assoc] at hd
    have h1 := tk_here (most := most) hk hd (hl t (by simp))
    obtain ⟨g1, g2⟩ := hg t (by simp)
    rw [if_pos g2, if_pos g1] at h1
    rw [List.length_cons, tks, h1, if_neg (by simp)]
    have hlen : l.length - k = (put t.length ++ t).length + (enc4 W ++ R).length := by rw [← List.length_drop, hd, List.length_append]
    have hd2 : l.drop (l.length - (enc4 W ++ R).length) = enc4 W ++ R := by
      have e : l.length - (enc4 W ++ R).length = k + (put t.length ++ t).length := by omega
      rw [e, ← List.drop_drop, hd, List.drop_left]
    rw [ih _ _ R (by omega) hd2 (fun x hx => hl x (by simp [hx])) (fun x hx => hg x (by simp [hx]))]
    simp
/-- .. but the first one that is bad -/
theorem tks_bad {l : List UInt8} {most : Int} (W : List Tx) : ∀ (k : Nat) (out : List Tx) (R : List UInt8), k ≤ l.length → l.drop k = enc4 W ++ R → (∀ t ∈ W, t.length < 18446744073709551616) → ¬ (∀ t ∈ W, Good most t) →
    (tks l most W.length (k : Int) out = ([], 0, 10) ∧ ∃ t ∈ W, most < (t.length : Int)) ∨ (tks l most W.length (k : Int) out = ([], 0, 4) ∧ ∃ t ∈ W, ¬ valid t = true) := by
  induction W with
  | nil => intro k out R hk hd _ h; exact absurd (by simp) h
  | cons t W ih =>
    intro k out R hk hd hl hg
    rw [enc4, List.append_assoc] at hd
    have h1 := tk_here (most := most) hk hd (hl t (by simp))
    rw [List.length_cons, tks]
    by_cases g2 : (t.length : Int) ≤ most
    · rw [if_pos g2] at h1
      by_cases g1 : valid t = true
      · rw [if_pos g1] at h1
        rw [h1, if_neg (by simp)]
        have hlen : l.length - k = (put t.length ++ t).length + (enc4 W ++ R).length := by rw [← List.length_drop, hd, List.length_append]
        have hd2 : l.drop (l.length - (enc4 W ++ R).length) = enc4 W ++ R := by
          have e : l.length - (enc4 W ++ R).length = k + (put t.length ++ t).length := by omega
          rw [e, ← List.drop_drop, hd, List.drop_left]
        have hg' : ¬ ∀ x ∈ W, Good most x := fun h => hg (fun x hx => by
          rcases List.mem_cons.1 hx with rfl | hx
          · exact ⟨g1, g2⟩
          · exact h x hx)
        rcases ih _ (out ++ [t]) R (by omega) hd2 (fun x hx => hl x (by simp [hx])) hg' with ⟨a, x, hx, b⟩ | ⟨a, x, hx, b⟩
        · exact .inl ⟨a, x, by simp [hx], b⟩
        · exact .inr ⟨a, x, by simp [hx], b⟩
      · rw [if_neg g1] at h1
        rw [h1, if_pos (by decide)]
        exact .inr ⟨rfl, t, by simp, g1⟩
    · rw [if_neg g2] at h1
      rw [h1, if_pos (by decide)]
      exact .inl ⟨rfl, t, by simp, by omega⟩
/-- what is taken was put -/
theorem tks_dec {l : List UInt8} {most : Int} : ∀ (c k : Nat) (out W : List Tx) (to : Int), k ≤ l.length → tks l most c (k : Int) out = (W, to, 0) →
    ∃ (V : List Tx) (u : Nat), W = out ++ V ∧ V.length = c ∧ to = (u : Int) ∧ u ≤ l.length ∧ l.drop k = enc4 V ++ l.drop u ∧ ∀ t ∈ V, Good most t
  | 0, k, out, W, to, hk, h => by
    rw [tks] at h
    simp only [Prod.mk.injEq, and_true] at h
    exact ⟨[], k, by simp [h.1], rfl, h.2.symm, hk, by simp [enc4], by simp⟩
  | c + 1, k, out, W, to, hk, h => by
    rw [tks] at h
    rcases tk_two l k most hk with ⟨e, he, h1⟩ | ⟨t, u, h1, hu, hku, hd, hv, hm⟩
    · rw [h1, if_pos he] at h
      simp only [Prod.mk.injEq] at h
      exact absurd h.2.2 he
    · rw [h1, if_neg (by simp)] at h
      dsimp only at h
      obtain ⟨V, u2, a, b, c', d, e, f⟩ := tks_dec c u _ W to hu h
      refine ⟨t :: V, u2, by rw [a]; simp, by simp [b], c', d, ?_, ?_⟩
      · rw [hd, e, enc4]; simp only [List.append_assoc]
      · intro x hx
        rcases List.mem_cons.1 hx with rfl | hx
        · exact ⟨hv, hm⟩
        · exact f x hx

theorem enc4_inj : ∀ (a b : List Tx) (R S : List UInt8), (∀ t ∈ a, t.length < 18446744073709551616) → (∀ t ∈ b, t.length < 18446744073709551616) → a.length = b.length → enc4 a ++ R = enc4 b ++ S → a = b ∧ R = S
  | [], [], R, S, _, _, _, h => ⟨rfl, by simpa [enc4] using h⟩
  | [], _ :: _, _, _, _, _, hl, _ => by simp at hl
  | _ :: _, [], _, _, _, _, hl, _ => by simp at hl
  | x :: a, y :: b, R, S, ha, hb, hl, h => by
    rw [enc4, enc4, List.append_assoc, List.append_assoc, List.append_assoc, List.append_assoc] at h
    have e1 := num_put (ha x (by simp)) (x ++ (enc4 a ++ R))
    have e2 := num_put (hb y (by simp)) (y ++ (enc4 b ++ S))
    rw [h] at e1
    have hv : x.length = y.length := by rw [← e1.1, e2.1]
    have hR : x ++ (enc4 a ++ R) = y ++ (enc4 b ++ S) := by have := e1.2.symm.trans e2.2; injection this
    obtain ⟨h1, h2⟩ := List.append_inj hR hv
    obtain ⟨h3, h4⟩ := enc4_inj a b R S (fun z hz => ha z (by simp [hz])) (fun z hz => hb z (by simp [hz])) (by simpa using hl) h2
    exact ⟨by rw [h1, h3], h4⟩

section
variable {l : List Tx} {most : Int}
theorem encD_head (hl : l.length ≤ 4096) : numV ⟨encD l, 0⟩ = (ws [] l).length ∧ numS ⟨encD l, 0⟩ = ⟨enc4 (ws [] l) ++ encU (pl [] l), 0⟩ := by
  have := ws_len l []
  exact num_put (by simp at this; omega) _
theorem tkW_enc (hl : l.length ≤ 4096) : tkW (encD l) l.length most = tks (encD l) most (ws [] l).length (((put (ws [] l).length).length : Nat) : Int) [] := by
  obtain ⟨h1, h2⟩ := encD_head hl
  have h3 := ws_len l []
  simp at h3
  have e : (encD l).length - (enc4 (ws [] l) ++ encU (pl [] l)).length = (put (ws [] l).length).length := by unfold encD; rw [List.length_append]; omega
  rw [tkW, h1, h2, if_neg (by simp), if_neg (by omega)]
  dsimp only
  rw [e]
theorem encD_drop : (encD l).drop (put (ws [] l).length).length = enc4 (ws [] l) ++ encU (pl [] l) ∧ (put (ws [] l).length).length ≤ (encD l).length := by
  unfold encD
  exact ⟨List.drop_left, by rw [List.length_append]; omega⟩
/-- what is encoded is decoded -/
theorem decD_enc (hl : l.length ≤ 4096) (hs : ∀ t ∈ l, t.length < 18446744073709551616) (hg : ∀ t ∈ l, Good most t) : decD (encD l) l.length most = (l, 0) := by
  obtain ⟨e1, e2⟩ := encD_drop (l := l)
  have hin : ∀ t ∈ ws [] l, t ∈ l := fun t ht => by rcases (mem_ws l [] t).1 ht with h | h; simp at h; exact h
  have hk := tks_enc (l := encD l) (most := most) (ws [] l) _ [] _ e2 e1 (fun t ht => hs t (hin t ht)) (fun t ht => hg t (hin t ht))
  rw [decD_in hl, tkW_enc hl, hk, decT, if_neg (by simp)]
  have hR : (encU (pl [] l)).length ≤ (encD l).length := by unfold encD; rw [List.length_append, List.length_append]; omega
  have hd : (encD l).drop ((encD l).length - (encU (pl [] l)).length) = encU (pl [] l) := by
    have e : (encD l).length - (encU (pl [] l)).length = (put (ws [] l).length ++ enc4 (ws [] l)).length := by
      unfold encD; rw [List.length_append, List.length_append, List.length_append]; omega
    rw [e]
    unfold encD
    rw [← List.append_assoc, List.drop_left]
  have hdu := decU_enc (pl_nums (l := l) (by omega)) (by rw [pl_len]; exact hl)
  rw [pl_len] at hdu
  simp only [Int.toNat_natCast]
  rw [hd, hdu, if_neg (by simp), List.nil_append, if_pos (mayW_self l), pk_ws]
theorem decD_bad (hl : l.length ≤ 4096) (hs : ∀ t ∈ l, t.length < 18446744073709551616) (hg : ¬ ∀ t ∈ l, Good most t) :
    ((decD (encD l) l.length most).2 = 10 ∧ ∃ t ∈ l, most < (t.length : Int)) ∨ ((decD (encD l) l.length most).2 = 4 ∧ ∃ t ∈ l, ¬ valid t = true) := by
  obtain ⟨e1, e2⟩ := encD_drop (l := l)
  have hin : ∀ t ∈ ws [] l, t ∈ l := fun t ht => by rcases (mem_ws l [] t).1 ht with h | h; simp at h; exact h
  have hg' : ¬ ∀ t ∈ ws [] l, Good most t := fun h => hg fun t ht => h t ((mem_ws l [] t).2 (.inr ht))
  rw [decD_in hl, tkW_enc hl]
  rcases tks_bad (l := encD l) (most := most) (ws [] l) _ [] _ e2 e1 (fun t ht => hs t (hin t ht)) hg' with ⟨a, t, ht, b⟩ | ⟨a, t, ht, b⟩
  · exact .inl ⟨by rw [a, decT, if_pos (by decide)], t, hin t ht, b⟩
  · exact .inr ⟨by rw [a, decT, if_pos (by decide)], t, hin t ht, b⟩
end
theorem decT_err {l : List UInt8} {n : Nat} {r : List Tx × Int × Int} (h : (decT l n r).2 ≠ 0) : (decT l n r).1 = [] := by
  unfold decT at h ⊢
  split
  · rfl
  · rename_i h1
    rw [if_neg h1] at h
    split
    · rfl
    · rename_i h2
      rw [if_neg h2] at h
      split
      · rename_i h3; rw [if_pos h3] at h; simp at h
      · rfl
theorem decD_err {l : List UInt8} {n most : Int} (h : (decD l n most).2 ≠ 0) : (decD l n most).1 = [] := by
  unfold decD at h ⊢
  split
  · rfl
  · rename_i h1
    rw [if_neg h1] at h
    split
    · rfl
    · rename_i h2; rw [if_neg h2] at h; exact decT_err h
/-- what is decoded was encoded -/
theorem decD_dec {l : List UInt8} {n most : Int} (h : (decD l n most).2 = 0) : encD (decD l n most).1 = l ∧ ((decD l n most).1.length : Int) = n ∧ n ≤ 4096 ∧ ∀ t ∈ (decD l n most).1, Good most t := by
  rcases Int.lt_or_le n 0 with h0 | h0
  · rw [decD_neg h0] at h; simp at h
  · rcases Int.lt_or_le 4096 n with h1 | h1
    · rw [decD_big h1] at h; simp at h
    · obtain ⟨N, rfl⟩ := Int.eq_ofNat_of_zero_le h0
      rw [decD_in (by omega)] at h ⊢
      unfold decT at h ⊢
      by_cases c1 : (tkW l N most).2.2 ≠ 0
      · rw [if_pos c1] at h; exact absurd h c1
      · rw [if_neg c1] at h ⊢
        have c1' : (tkW l N most).2.2 = 0 := by simpa using c1
        obtain ⟨W, to, hW⟩ : ∃ W to, tkW l N most = (W, to, 0) := ⟨(tkW l N most).1, (tkW l N most).2.1, by rw [← c1']⟩
        rw [hW] at h ⊢
        dsimp only at h ⊢
        unfold tkW at hW
        by_cases d1 : (numS ⟨l, 0⟩).e ≠ 0
        · rw [if_pos d1] at hW; simp only [Prod.mk.injEq] at hW; exact absurd hW.2.2 d1
        · rw [if_neg d1] at hW
          by_cases d2 : N < numV ⟨l, 0⟩
          · rw [if_pos d2] at hW; simp at hW
          · rw [if_neg d2] at hW
            obtain ⟨a1, a2⟩ := num_zero (l := l) (by simpa using d1)
            obtain ⟨V, u, b1, b2, b3, b4, b5, b6⟩ := tks_dec _ _ _ _ _ (by omega) hW
            rw [List.nil_append] at b1
            subst b1
            subst b3
            rw [Int.toNat_natCast] at h ⊢
            by_cases c2 : (decU (l.drop u) N).2 ≠ 0
            · rw [if_pos c2] at h; exact absurd h c2
            · rw [if_neg c2] at h ⊢
              obtain ⟨f1, f2⟩ := decU_dec (s := l.drop u) (n := (N : Int)) (by simpa using c2)
              by_cases c3 : mayW W (decU (l.drop u) N).1 = true
              · rw [if_pos c3]
                obtain ⟨o, g1, g2, g3⟩ := (may_iff _ _).1 c3
                rw [g1]
                have hlen : o.length = N := by have := pl_len o []; rw [g3] at this; omega
                refine ⟨?_, by rw [hlen], by omega, fun t ht => b6 t (by rw [← g2]; exact (mem_ws o [] t).2 (.inr ht))⟩
                unfold encD
                rw [g2, g3, f1, ← b5, b2]
                have hk0 : ∀ (v : Nat) (r : List UInt8), l = put v ++ r → l.drop (l.length - r.length) = r := by
                  rintro v r rfl
                  rw [show (put v ++ r).length - r.length = (put v).length by rw [List.length_append]; omega]
                  exact List.drop_left
                have hk := hk0 _ _ a1
                rw [hk]
                exact a1.symm
              · rw [if_neg c3] at h; simp at h
theorem decD_len {l : List Tx} {n most : Int} (hl : l.length ≤ 4096) (hs : ∀ t ∈ l, t.length < 18446744073709551616) (hm : most < 18446744073709551616) (h : n ≠ (l.length : Int)) : (decD (encD l) n most).2 ≠ 0 := fun e => by
  obtain ⟨h1, h2, h3, h4⟩ := decD_dec e
  obtain ⟨o, ho⟩ : ∃ o, o = (decD (encD l) n most).1 := ⟨_, rfl⟩
  rw [← ho] at h1 h2 h4
  have hol : o.length ≤ 4096 := by omega
  obtain ⟨p1, p2⟩ := encD_head hl
  obtain ⟨q1, q2⟩ := encD_head hol
  rw [h1] at q1 q2
  have hc : (ws [] o).length = (ws [] l).length := by rw [← p1, ← q1]
  have hr : enc4 (ws [] o) ++ encU (pl [] o) = enc4 (ws [] l) ++ encU (pl [] l) := by have := q2.symm.trans p2; injection this
  have hso : ∀ t ∈ ws [] o, t.length < 18446744073709551616 := fun t ht => by
    rcases (mem_ws o [] t).1 ht with h | h
    · simp at h
    · have := (h4 t h).2; omega
  have hsl : ∀ t ∈ ws [] l, t.length < 18446744073709551616 := fun t ht => by
    rcases (mem_ws l [] t).1 ht with h | h
    · simp at h
    · exact hs t h
  obtain ⟨_, h6⟩ := enc4_inj _ _ _ _ hso hsl hc hr
  have hd := decU_enc (pl_nums (l := o) (by omega)) (by rw [pl_len]; exact hol)
  rw [h6, pl_len] at hd
  have := @decU_len (pl [] l) (o.length : Int) (pl_nums (by omega)) (by rw [pl_len]; exact hl) (by rw [pl_len]; omega)
  rw [hd] at this
  exact this rfl
end Go.Proofs.Ytiehmeheilfocaa
