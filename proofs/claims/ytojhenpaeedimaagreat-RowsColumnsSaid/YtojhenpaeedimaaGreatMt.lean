/-
 Mathematics of layer 4's statements: cuts, texts behind their lengths. No Go.
 Plain mathematics of layer 6: runs, what they spread to, and their bytes. No Go.
 Plain mathematics of layer 8: words of a list of texts, and their places. No Go.
-/
import Derived.Test.YtojhenpaeedimaaGreatMd
import Derived.Test.YtojhenpaeedimaaGreatBe
import Derived.Test.YtojhenpaeedimaaGreatMg
section
namespace Go.Proofs.YtojhenpaeedimaaGreat.Wd
/-- texts behind their lengths -/
def enc4 : List (List UInt8) → List UInt8
 | [] => []
 | x :: xs => (Pk.put x.length ++ x) ++ enc4 xs
theorem enc4_snoc (xs : List (List UInt8)) (x : List UInt8) : enc4 (xs ++ [x]) = enc4 xs ++ (Pk.put x.length ++ x) := by
 induction xs with
 | nil => simp [enc4]
 | cons y ys ih => rw [List.cons_append, enc4, ih, enc4]; simp only [List.append_assoc]
theorem enc4_take {xs : List (List UInt8)} {k : Nat} {x : List UInt8} (h : xs[k]? = some x) : enc4 (xs.take (k + 1)) = enc4 (xs.take k) ++ (Pk.put x.length ++ x) := by
 obtain ⟨hk, rfl⟩ := List.getElem?_eq_some_iff.1 h
 rw [List.take_succ_eq_append_getElem hk, enc4_snoc]
theorem enc4_len (xs : List (List UInt8)) (n : Nat) (hn : n < 18446744073709551616) (h : ∀ x ∈ xs, x.length ≤ n) : (enc4 xs).length ≤ (n + 10) * xs.length := by
 induction xs with
 | nil => simp [enc4]
 | cons y ys ih =>
  have h1 := ih (fun x hx => h x (List.mem_cons_of_mem _ hx))
  have h0 := h y List.mem_cons_self
  have h2 := Pk.put_len10 (n := y.length) (by omega)
  rw [enc4, List.length_append, List.length_append, List.length_cons, Nat.mul_add, Nat.mul_one]
  omega
end Go.Proofs.YtojhenpaeedimaaGreat.Wd
end
section
namespace Go.Proofs.YtojhenpaeedimaaGreat.Pk
/-- numbers that fit 64 bits -/
def Nums (l : List Nat) : Prop := ∀ u ∈ l, u < 18446744073709551616
/-- runs: a number, and how often it stands there -/
abbrev Run := Nat × Int
/-- may these be runs, behind one of the number p? -/
def mayP : Option Nat → List Run → Bool
 | _, [] => true
 | p, (v, c) :: r => decide (1 ≤ c) && !(p == some v) && mayP (some v) r
def spr (r : List Run) : List Nat := r.flatMap fun x => List.replicate x.2.toNat x.1
/-- the runs of l behind c times v -/
def rn : Nat → Int → List Nat → List Run
 | v, c, [] => [(v, c)]
 | v, c, x :: l => if x = v then rn v (c + 1) l else (v, c) :: rn x 1 l
def runsL : List Nat → List Run
 | [] => []
 | x :: l => rn x 1 l
def encR (r : List Run) : List UInt8 := r.flatMap fun x => put x.1 ++ put x.2.toNat
def encU (l : List Nat) : List UInt8 := encR (runsL l)
theorem spr_nil : spr [] = [] := rfl
theorem spr_cons (v : Nat) (c : Int) (r : List Run) : spr ((v, c) :: r) = List.replicate c.toNat v ++ spr r := rfl
theorem encR_cons (v : Nat) (c : Int) (r : List Run) : encR ((v, c) :: r) = put v ++ (put c.toNat ++ encR r) := by simp [encR]
theorem encR_app (a b : List Run) : encR (a ++ b) = encR a ++ encR b := by simp [encR]
theorem rn_spr (l : List Nat) : ∀ v c, 0 ≤ c → spr (rn v c l) = List.replicate c.toNat v ++ l := by
 induction l with
 | nil => intro v c _; simp [rn, spr]
 | cons x l ih =>
  intro v c hc
  rw [rn]
  split
  ·rename_i h
   subst h
   rw [ih x (c + 1) (by omega), show (c + 1).toNat = c.toNat + 1 by omega, List.replicate_succ']
   simp
  ·rw [spr_cons, ih x 1 (by omega)]
   simp
theorem rn_may (l : List Nat) : ∀ p v c, 1 ≤ c → p ≠ some v → mayP p (rn v c l) = true := by
 induction l with
 | nil => intro p v c hc hp; simp [rn, mayP, hc, hp]
 | cons x l ih =>
  intro p v c hc hp
  rw [rn]
  split
  ·exact ih p v (c + 1) (by omega) hp
  ·rename_i h
   rw [mayP, ih (some v) x 1 (by omega) (by simpa using fun e => h e.symm)]
   simp [hc, hp]
theorem runs_spr (l : List Nat) : spr (runsL l) = l := by
 cases l with
 | nil => rfl
 | cons x l => rw [runsL, rn_spr l x 1 (by omega)]; rfl
theorem runs_may (l : List Nat) : mayP none (runsL l) = true := by
 cases l with
 | nil => rfl
 | cons x l => exact rn_may l none x 1 (by omega) (by simp)
/-- counts are 1 or above -/
theorem may_cons {p : Option Nat} {v : Nat} {c : Int} {r : List Run} (h : mayP p ((v, c) :: r) = true) : 1 ≤ c ∧ p ≠ some v ∧ mayP (some v) r = true := by
 simp only [mayP, Bool.and_eq_true, decide_eq_true_eq, Bool.not_eq_true', beq_eq_false_iff_ne, ne_eq] at h
 exact ⟨h.1.1, h.1.2, h.2⟩
theorem may_mk {p : Option Nat} {v : Nat} {c : Int} {r : List Run} (h1 : 1 ≤ c) (h2 : p ≠ some v) (h3 : mayP (some v) r = true) : mayP p ((v, c) :: r) = true := by
 simp [mayP, h1, h2, h3]
/-- runs that may be are those of what they spread to -/
theorem rn_of (r : List Run) : ∀ v (c : Int) (k : Nat), mayP (some v) r = true → rn v c (List.replicate k v ++ spr r) = (v, c + k) :: r := by
 induction r with
 | nil =>
  intro v c k _
  rw [spr_nil, List.append_nil]
  induction k generalizing c with
  | zero => simp [rn]
  | succ k ih => rw [List.replicate_succ, rn, if_pos rfl, ih]; congr 2; omega
 | cons x r ih =>
  obtain ⟨y, d⟩ := x
  intro v c k h
  obtain ⟨h1, h2, h3⟩ := may_cons h
  have hne : ¬ y = v := fun e => h2 (by rw [e])
  induction k generalizing c with
  | zero =>
   rw [List.replicate_zero, List.nil_append, spr_cons, show d.toNat = (d.toNat - 1) + 1 by omega, List.replicate_succ, List.cons_append, rn, if_neg hne, ih y 1 (d.toNat - 1) h3]
   congr 2
   ·congr 1; omega
   ·congr 1; omega
  | succ k ih2 => rw [List.replicate_succ, List.cons_append, rn, if_pos rfl, ih2]; congr 2; omega
theorem runs_of {r : List Run} (h : mayP none r = true) : runsL (spr r) = r := by
 cases r with
 | nil => rfl
 | cons x r =>
  obtain ⟨v, c⟩ := x
  obtain ⟨h1, _, h3⟩ := may_cons h
  rw [spr_cons, show c.toNat = (c.toNat - 1) + 1 by omega, List.replicate_succ, List.cons_append, runsL, rn_of r v 1 _ h3]
  congr 2
  omega
theorem spr_len_ge {p : Option Nat} {r : List Run} (h : mayP p r = true) : r.length ≤ (spr r).length := by
 induction r generalizing p with
 | nil => simp [spr]
 | cons x r ih =>
  obtain ⟨v, c⟩ := x
  obtain ⟨h1, _, h3⟩ := may_cons h
  have := ih h3
  rw [spr_cons, List.length_append, List.length_replicate, List.length_cons]
  omega
theorem runs_len (l : List Nat) : (runsL l).length ≤ l.length := by
 have := spr_len_ge (runs_may l)
 rwa [runs_spr] at this
/-- each number of a run stands in the list, and its count is no more than that is long -/
theorem run_in {r : List Run} {x : Run} (h : x ∈ r) (h1 : 1 ≤ x.2) : x.1 ∈ spr r ∧ x.2 ≤ (spr r).length := by
 induction r with
 | nil => simp at h
 | cons y r ih =>
  obtain ⟨v, c⟩ := y
  rw [spr_cons]
  rcases List.mem_cons.1 h with rfl | h
  ·simp only at h1
   exact ⟨List.mem_append.2 (.inl (by rw [List.mem_replicate]; exact ⟨by omega, rfl⟩)), by simp; omega⟩
  ·obtain ⟨h2, h3⟩ := ih h
   exact ⟨List.mem_append.2 (.inr h2), by simp; omega⟩
theorem may_pos {p : Option Nat} {r : List Run} (h : mayP p r = true) {x : Run} (hx : x ∈ r) : 1 ≤ x.2 := by
 induction r generalizing p with
 | nil => simp at hx
 | cons y r ih =>
  obtain ⟨v, c⟩ := y
  obtain ⟨h1, _, h3⟩ := may_cons h
  rcases List.mem_cons.1 hx with rfl | hx
  ·exact h1
  ·exact ih h3 hx
theorem runs_in {l : List Nat} {x : Run} (hx : x ∈ runsL l) : x.1 ∈ l ∧ 1 ≤ x.2 ∧ x.2 ≤ l.length := by
 have h1 := may_pos (runs_may l) hx
 have := run_in hx h1
 rw [runs_spr] at this
 exact ⟨this.1, h1, this.2⟩
theorem put_two_len {v c : Nat} (hv : v < 18446744073709551616) (hc : c < 18446744073709551616) : 2 ≤ (put v ++ put c).length ∧ (put v ++ put c).length ≤ 20 := by
 have h1 := put_len10 hv
 have h2 := put_len10 hc
 have h3 := put_len_pos v
 have h4 := put_len_pos c
 rw [List.length_append]; omega
def Fits (r : List Run) : Prop := ∀ x ∈ r, x.1 < 18446744073709551616 ∧ x.2.toNat < 18446744073709551616
theorem encR_len {r : List Run} (h : Fits r) : 2 * r.length ≤ (encR r).length ∧ (encR r).length ≤ 20 * r.length := by
 induction r with
 | nil => simp [encR]
 | cons x r ih =>
  obtain ⟨v, c⟩ := x
  have h1 := h (v, c) (by simp)
  have h2 := ih (fun y hy => h y (by simp [hy]))
  have h3 := put_two_len (v := v) (c := c.toNat) h1.1 h1.2
  rw [encR_cons, ← List.append_assoc, List.length_append, List.length_cons]
  omega
theorem runs_fits {l : List Nat} (h : Nums l) (hl : l.length < 18446744073709551616) : Fits (runsL l) := fun x hx => by
 obtain ⟨h1, h2, h3⟩ := runs_in hx
 exact ⟨h _ h1, by omega⟩
theorem encU_len {l : List Nat} (h : Nums l) (hl : l.length < 18446744073709551616) : (encU l).length ≤ 20 * l.length := by
 have h1 := (encR_len (runs_fits h hl)).2
 have h2 := runs_len l
 unfold encU
 omega
/-- the last number so far -/
def lastOf (l : List Nat) : Option Nat := l.getLast?
theorem last_rep {out : List Nat} {v k : Nat} : lastOf (out ++ List.replicate (k + 1) v) = some v := by
 simp [lastOf, List.getLast?_append, List.getLast?_replicate]
/-- P6.3, run by run: what is read of a Reader, behind what has been read; f: more than there are runs -/
def dcR : Nat → St → List Nat → Int → List Nat × Int
 | 0, _, _, _ => ([], 5)
 | f + 1, s, out, n =>
  if s.l = [] then (if (out.length : Int) < n then ([], 5) else (out, 0))
  else if (numS (numS s)).e ≠ 0 then ([], (numS (numS s)).e)
  else if numV (numS s) = 0 ∨ n - out.length < (numV (numS s) : Int) ∨ lastOf out = some (numV s) then ([], 5)
  else dcR f (numS (numS s)) (out ++ List.replicate (numV (numS s)) (numV s)) n
def decU (l : List UInt8) (n : Int) : List Nat × Int := if n < 0 then ([], 1) else if 4096 < n then ([], 10) else dcR (l.length + 1) ⟨l, 0⟩ [] n
/-- what is encoded is decoded -/
theorem dcR_enc (r : List Run) : ∀ f out (n : Int), Fits r → mayP (lastOf out) r = true → r.length < f → ((out ++ spr r).length : Int) = n → dcR f ⟨encR r, 0⟩ out n = (out ++ spr r, 0) := by
 induction r with
 | nil =>
  intro f out n _ _ hf hn
  obtain ⟨f, rfl⟩ : ∃ g, f = g + 1 := ⟨f - 1, by simp at hf; omega⟩
  rw [spr_nil, List.append_nil] at hn ⊢
  rw [dcR, if_pos (show (⟨encR [], 0⟩ : St).l = [] from rfl), if_neg (by omega)]
 | cons x r ih =>
  obtain ⟨v, c⟩ := x
  intro f out n hfit hm hf hn
  obtain ⟨f, rfl⟩ : ∃ g, f = g + 1 := ⟨f - 1, by simp at hf; omega⟩
  obtain ⟨h1, h2, h3⟩ := may_cons hm
  have hx := hfit (v, c) (by simp)
  simp only at hx
  rw [encR_cons]
  obtain ⟨e1, e2⟩ := num_put hx.1 (put c.toNat ++ encR r)
  obtain ⟨e3, e4⟩ := num_put hx.2 (encR r)
  rw [spr_cons, List.length_append, List.length_append, List.length_replicate] at hn
  have hne : put v ++ (put c.toNat ++ encR r) ≠ [] := by
   intro h0
   have := congrArg List.length h0
   have hp := put_len_pos v
   rw [List.length_append, List.length_nil] at this
   omega
  rw [dcR, if_neg hne, e2, e4, if_neg (by simp), e3, e1, if_neg (by
   rintro (h | h | h)
   ·omega
   ·omega
   ·exact h2 h)]
  obtain ⟨k, hk⟩ : ∃ k, c.toNat = k + 1 := ⟨c.toNat - 1, by omega⟩
  rw [ih f _ n (fun y hy => hfit y (by simp [hy])) (by rw [hk, last_rep]; exact h3) (by simp at hf; omega) (by rw [List.length_append, List.length_append, List.length_replicate]; omega), spr_cons, List.append_assoc]
theorem num_zero {l : List UInt8} (h : (numS ⟨l, 0⟩).e = 0) : l = put (numV ⟨l, 0⟩) ++ (numS ⟨l, 0⟩).l ∧ (numS ⟨l, 0⟩).l.length < l.length := by
 obtain ⟨f1, f2, f3⟩ := num_read h
 have h3 : (numS ⟨l, 0⟩).l = l.drop (l.length - (numS ⟨l, 0⟩).l.length) := by
  revert h
  unfold numS
  simp only [if_true]
  cases hr : rd l with
  | cut => simp
  | long => simp
  | ok m u =>
   intro _
   have := (rd_inv hr).2.2.1
   simp only [List.length_drop]
   congr 1
   omega
 have hp := put_len_pos (numV ⟨l, 0⟩)
 refine ⟨?_, by omega⟩
 rw [← f1]
 conv => rhs; rhs; rw [h3]
 exact (List.take_append_drop _ _).symm
/-- what is decoded was encoded -/
theorem dcR_dec : ∀ f (l : List UInt8) out (n : Int) ys, (out.length : Int) ≤ n → dcR f ⟨l, 0⟩ out n = (ys, 0) →
  ∃ r, Fits r ∧ mayP (lastOf out) r = true ∧ l = encR r ∧ ys = out ++ spr r ∧ (ys.length : Int) = n
 | 0, l, out, n, ys, _, h => by simp [dcR] at h
 | f + 1, l, out, n, ys, hn, h => by
  rw [dcR] at h
  split at h
  ·rename_i hl
   simp only at hl
   split at h
   ·simp at h
   ·simp only [Prod.mk.injEq, and_true] at h
    subst h
    exact ⟨[], by intro x hx; simp at hx, rfl, hl, by simp [spr], by omega⟩
  ·split at h
   ·rename_i he
    simp only [Prod.mk.injEq] at h
    exact absurd h.2 he
   ·rename_i he
    split at h
    ·simp at h
    ·rename_i hc
     rw [not_or, not_or] at hc
     obtain ⟨hc1, hc2, hc3⟩ := hc
     have he2 : (numS (numS ⟨l, 0⟩)).e = 0 := by simpa using he
     have he1 : (numS ⟨l, 0⟩).e = 0 := by
      apply Classical.byContradiction
      intro h1
      rw [(num_err h1).2] at he2
      exact h1 he2
     obtain ⟨a1, a2⟩ := num_zero he1
     obtain ⟨l1, hl1⟩ : ∃ l1, numS ⟨l, 0⟩ = ⟨l1, 0⟩ := ⟨(numS ⟨l, 0⟩).l, by cases hx : numS ⟨l, 0⟩; rw [hx] at he1; simp only at he1; subst he1; rfl⟩
     rw [hl1] at h he2 hc1 hc2 a1 a2
     obtain ⟨b1, b2⟩ := num_zero he2
     obtain ⟨l2, hl2⟩ : ∃ l2, numS ⟨l1, 0⟩ = ⟨l2, 0⟩ := ⟨(numS ⟨l1, 0⟩).l, by cases hx : numS ⟨l1, 0⟩; rw [hx] at he2; simp only at he2; subst he2; rfl⟩
     rw [hl2] at h b1 b2
     obtain ⟨k, hk⟩ : ∃ k, numV ⟨l1, 0⟩ = k + 1 := ⟨numV ⟨l1, 0⟩ - 1, by omega⟩
     obtain ⟨r, r1, r2, r3, r4, r5⟩ := dcR_dec f l2 _ n ys (by rw [List.length_append, List.length_replicate]; omega) h
     rw [hk, last_rep] at r2
     have hv := numV_lt ⟨l, 0⟩
     have hw := numV_lt ⟨l1, 0⟩
     refine ⟨(numV ⟨l, 0⟩, (numV ⟨l1, 0⟩ : Int)) :: r, ?_, may_mk (by omega) hc3 r2, ?_, ?_, r5⟩
     ·intro x hx
      rcases List.mem_cons.1 hx with rfl | hx
      ·exact ⟨hv, by simpa using hw⟩
      ·exact r1 x hx
     ·rw [encR_cons, Int.toNat_natCast, ← r3]
      simp only at a1 b1
      rw [← b1]
      exact a1
     ·rw [spr_cons, Int.toNat_natCast, r4, List.append_assoc]
theorem decU_neg {l : List UInt8} {n : Int} (h : n < 0) : decU l n = ([], 1) := by rw [decU, if_pos h]
theorem decU_big {l : List UInt8} {n : Int} (h : 4096 < n) : decU l n = ([], 10) := by rw [decU, if_neg (by omega), if_pos h]
theorem decU_in {l : List UInt8} {n : Int} (h0 : 0 ≤ n) (h1 : n ≤ 4096) : decU l n = dcR (l.length + 1) ⟨l, 0⟩ [] n := by rw [decU, if_neg (by omega), if_neg (by omega)]
theorem decU_enc {l : List Nat} (h : Nums l) (hl : l.length ≤ 4096) : decU (encU l) l.length = (l, 0) := by
 have hf := runs_fits h (by omega)
 have hlen := (encR_len hf).1
 have hs := runs_spr l
 rw [decU_in (by omega) (by omega)]
 have := dcR_enc (runsL l) ((encU l).length + 1) [] l.length hf (runs_may l) (by unfold encU; omega) (by rw [List.nil_append, hs])
 rw [List.nil_append, hs] at this
 exact this
theorem decU_dec {s : List UInt8} {n : Int} (h : (decU s n).2 = 0) : encU (decU s n).1 = s ∧ ((decU s n).1.length : Int) = n := by
 rcases Int.lt_or_le n 0 with hn | hn
 ·rw [decU_neg hn] at h; simp at h
 ·rcases Int.lt_or_le 4096 n with hb | hb
  ·rw [decU_big hb] at h; simp at h
  ·rw [decU_in hn hb] at h ⊢
   obtain ⟨ys, hys⟩ : ∃ ys, dcR (s.length + 1) ⟨s, 0⟩ [] n = (ys, 0) := ⟨_, Prod.ext rfl h⟩
   rw [hys]
   obtain ⟨r, r1, r2, r3, r4, r5⟩ := dcR_dec _ s [] n ys (by simpa using hn) hys
   rw [List.nil_append] at r4
   exact ⟨by rw [encU, r4, runs_of r2, ← r3], r5⟩
theorem dcR_err : ∀ f s out n, (dcR f s out n).2 ≠ 0 → (dcR f s out n).1 = []
 | 0, _, _, _, _ => rfl
 | f + 1, s, out, n, h => by
  rw [dcR] at h ⊢
  split
  ·rename_i h1
   rw [if_pos h1] at h
   split
   ·rfl
   ·rename_i h2; rw [if_neg h2] at h; simp at h
  ·rename_i h1
   rw [if_neg h1] at h
   split
   ·rfl
   ·rename_i h2
    rw [if_neg h2] at h
    split
    ·rfl
    ·rename_i h3
     rw [if_neg h3] at h
     exact dcR_err f _ _ n h
theorem decU_err {s : List UInt8} {n : Int} (h : (decU s n).2 ≠ 0) : (decU s n).1 = [] := by
 unfold decU at h ⊢
 split
 ·rfl
 ·rename_i h1
  rw [if_neg h1] at h
  split
  ·rfl
  ·rename_i h2
   rw [if_neg h2] at h
   exact dcR_err _ _ _ _ h
end Go.Proofs.YtojhenpaeedimaaGreat.Pk
end
section
namespace Go.Proofs.YtojhenpaeedimaaGreat.Dc
abbrev Tx := List UInt8
/-- where t stands first; as many as there are, if it is not there -/
def ix (t : Tx) : List Tx → Nat
 | [] => 0
 | x :: r => if x = t then 0 else ix t r + 1
def add (a : List Tx) (t : Tx) : List Tx := if t ∈ a then a else a ++ [t]
/-- the words a, and those of l that are not among them -/
def ws : List Tx → List Tx → List Tx
 | a, [] => a
 | a, t :: r => ws (add a t) r
/-- the places of l's texts among the words a and those that follow -/
def pl : List Tx → List Tx → List Nat
 | _, [] => []
 | a, t :: r => ix t a :: pl (add a t) r
theorem ix_le (t : Tx) (r : List Tx) : ix t r ≤ r.length := by
 induction r with
 | nil => exact Nat.le_refl _
 | cons x r ih => rw [ix]; split <;> simp <;> omega
theorem ix_mem {t : Tx} {r : List Tx} (h : t ∈ r) : ix t r < r.length ∧ r[ix t r]? = some t := by
 induction r with
 | nil => simp at h
 | cons x r ih =>
  rw [ix]
  by_cases hx : x = t
  ·rw [if_pos hx]; exact ⟨by simp, by simp [hx]⟩
  ·rw [if_neg hx]
   have := ih (by rcases List.mem_cons.1 h with h | h; exact absurd h.symm hx; exact h)
   exact ⟨by simp; omega, by simpa using this.2⟩
theorem ix_not {t : Tx} {r : List Tx} (h : t ∉ r) : ix t r = r.length := by
 induction r with
 | nil => rfl
 | cons x r ih =>
  rw [ix, if_neg (fun e => h (by simp [e])), ih (fun e => h (by simp [e]))]; rfl
theorem ix_lt {t : Tx} {r : List Tx} : ix t r < r.length ↔ t ∈ r := by
 constructor
 ·intro h
  apply Classical.byContradiction
  intro e
  rw [ix_not e] at h; omega
 ·intro h; exact (ix_mem h).1
theorem ix_app {t : Tx} {a b : List Tx} (h : t ∈ a) : ix t (a ++ b) = ix t a := by
 induction a with
 | nil => simp at h
 | cons x a ih =>
  rw [List.cons_append, ix, ix]
  by_cases hx : x = t
  ·rw [if_pos hx, if_pos hx]
  ·rw [if_neg hx, if_neg hx, ih (by rcases List.mem_cons.1 h with h | h; exact absurd h.symm hx; exact h)]
theorem ix_app' {t : Tx} {a b : List Tx} (h : t ∉ a) : ix t (a ++ b) = a.length + ix t b := by
 induction a with
 | nil => simp
 | cons x a ih =>
  rw [List.cons_append, ix, if_neg (fun e => h (by simp [e])), ih (fun e => h (by simp [e])), List.length_cons]; omega
theorem add_mem {a : List Tx} {t : Tx} (h : t ∈ a) : add a t = a := if_pos h
theorem add_not {a : List Tx} {t : Tx} (h : t ∉ a) : add a t = a ++ [t] := if_neg h
theorem add_in (a : List Tx) (t : Tx) : t ∈ add a t := by
 unfold add; split
 ·assumption
 ·simp
theorem add_pre (a : List Tx) (t : Tx) : ∃ b, add a t = a ++ b := by
 unfold add; split
 ·exact ⟨[], by simp⟩
 ·exact ⟨_, rfl⟩
theorem mem_add {a : List Tx} {t u : Tx} : u ∈ add a t ↔ u ∈ a ∨ u = t := by
 unfold add; split
 ·rename_i h
  exact ⟨.inl, by rintro (h1 | rfl); exact h1; exact h⟩
 ·simp
theorem add_nodup {a : List Tx} {t : Tx} (h : a.Nodup) : (add a t).Nodup := by
 unfold add; split
 ·exact h
 ·rename_i hn
  rw [List.nodup_append]
  exact ⟨h, by simp, by rintro x hx y hy rfl; simp at hy; subst hy; exact hn hx⟩
theorem add_len (a : List Tx) (t : Tx) : (add a t).length ≤ a.length + 1 := by
 unfold add; split <;> simp
theorem ix_add (a : List Tx) (t : Tx) : ix t (add a t) = ix t a := by
 by_cases h : t ∈ a
 ·rw [add_mem h]
 ·rw [add_not h, ix_app' h, ix_not h]; simp [ix]
theorem ws_cons (a : List Tx) (t : Tx) (r : List Tx) : ws a (t :: r) = ws (add a t) r := rfl
theorem ws_app (l m : List Tx) : ∀ a, ws a (l ++ m) = ws (ws a l) m := by
 induction l with
 | nil => intro a; rfl
 | cons t r ih => intro a; rw [List.cons_append, ws_cons, ih, ws_cons]
theorem pl_app (l m : List Tx) : ∀ a, pl a (l ++ m) = pl a l ++ pl (ws a l) m := by
 induction l with
 | nil => intro a; rfl
 | cons t r ih => intro a; rw [List.cons_append, pl, ih, pl, ws_cons]; rfl
theorem ws_take {l : List Tx} {k : Nat} {t : Tx} (h : l[k]? = some t) (a : List Tx) : ws a (l.take (k + 1)) = add (ws a (l.take k)) t := by
 rw [List.take_add_one, h, ws_app]; rfl
theorem pl_take {l : List Tx} {k : Nat} {t : Tx} (h : l[k]? = some t) (a : List Tx) : pl a (l.take (k + 1)) = pl a (l.take k) ++ [ix t (ws a (l.take k))] := by
 rw [List.take_add_one, h, pl_app]; rfl
theorem pl_len (l : List Tx) : ∀ a, (pl a l).length = l.length := by
 induction l with
 | nil => intro a; rfl
 | cons t r ih => intro a; rw [pl, List.length_cons, ih, List.length_cons]
theorem ws_pre (l : List Tx) : ∀ a, ∃ b, ws a l = a ++ b := by
 induction l with
 | nil => intro a; exact ⟨[], by simp [ws]⟩
 | cons t r ih =>
  intro a
  obtain ⟨b, hb⟩ := add_pre a t
  obtain ⟨c, hc⟩ := ih (add a t)
  exact ⟨b ++ c, by rw [ws_cons, hc, hb, List.append_assoc]⟩
theorem ws_nodup (l : List Tx) : ∀ a, a.Nodup → (ws a l).Nodup := by
 induction l with
 | nil => intro a h; exact h
 | cons t r ih => intro a h; rw [ws_cons]; exact ih _ (add_nodup h)
theorem mem_ws (l : List Tx) : ∀ a u, u ∈ ws a l ↔ u ∈ a ∨ u ∈ l := by
 induction l with
 | nil => intro a u; simp [ws]
 | cons t r ih =>
  intro a u
  rw [ws_cons, ih, mem_add, List.mem_cons]
  constructor
  ·rintro ((h | h) | h)
   ·exact .inl h
   ·exact .inr (.inl h)
   ·exact .inr (.inr h)
  ·rintro (h | h | h)
   ·exact .inl (.inl h)
   ·exact .inl (.inr h)
   ·exact .inr h
theorem ws_len (l : List Tx) : ∀ a, (ws a l).length ≤ a.length + l.length := by
 induction l with
 | nil => intro a; exact Nat.le_refl _
 | cons t r ih => intro a; have := ih (add a t); have := add_len a t; rw [ws_cons, List.length_cons]; omega
/-- words that are all of a list: each once -/
theorem ws_full (l : List Tx) : ∀ a, (ws a l).length = a.length + l.length → ws a l = a ++ l := by
 induction l with
 | nil => intro a _; simp [ws]
 | cons t r ih =>
  intro a h
  rw [ws_cons, List.length_cons] at h
  have h1 := ws_len r (add a t)
  have h2 := add_len a t
  have h3 := ih (add a t) (by omega)
  have h4 : (add a t).length = a.length + 1 := by omega
  have h5 : t ∉ a := fun e => by rw [add_mem e] at h4; omega
  rw [ws_cons, h3, add_not h5]; simp
theorem ws_self {l : List Tx} (h : l.Nodup) : ws [] l = l := by
 have : ∀ (l a : List Tx), (a ++ l).Nodup → ws a l = a ++ l := by
  intro l
  induction l with
  | nil => intro a _; simp [ws]
  | cons t r ih =>
   intro a h
   have hn : t ∉ a := by
    rw [List.nodup_append] at h
    intro e
    exact h.2.2 t e t (by simp) rfl
   rw [ws_cons, add_not hn, ih]
   ·simp
   ·simpa using h
 simpa using this l [] (by simpa using h)
theorem ws_nil_nodup (l : List Tx) : (ws [] l).Nodup := ws_nodup l [] (by simp)
/-- a text's place is where it stands first among the words -/
theorem ws_ix (l : List Tx) (a : List Tx) {t : Tx} (h : t ∈ a) : ix t (ws a l) = ix t a := by
 obtain ⟨b, hb⟩ := ws_pre l a
 rw [hb, ix_app h]
theorem pl_at (l : List Tx) : ∀ (a : List Tx) (k : Nat) (t : Tx), l[k]? = some t → (pl a l)[k]? = some (ix t (ws a l)) := by
 induction l with
 | nil => intro a k t h; simp at h
 | cons x r ih =>
  intro a k t h
  rw [pl, ws_cons]
  match k, h with
  | 0, h =>
   simp at h; subst h
   rw [ws_ix r _ (add_in a x), ix_add]
   rfl
  | k + 1, h => simpa using ih (add a x) k t (by simpa using h)
/-- P8.1: the texts at these places, behind out -/
def pk (words : List Tx) : List Tx → List Nat → List Tx × Bool
 | out, [] => (out, true)
 | out, i :: r => match words[i]? with
  | none => ([], false)
  | some t => pk words (out ++ [t]) r
theorem pk_nil (words out : List Tx) : pk words out [] = (out, true) := rfl
theorem pk_cons {words out : List Tx} {i : Nat} {r : List Nat} {t : Tx} (h : words[i]? = some t) : pk words out (i :: r) = pk words (out ++ [t]) r := by rw [pk, h]
theorem pk_none {words out : List Tx} {i : Nat} {r : List Nat} (h : words.length ≤ i) : pk words out (i :: r) = ([], false) := by rw [pk, List.getElem?_eq_none h]
theorem pk_ok (words : List Tx) (r : List Nat) : ∀ out l, pk words out r = (l, true) → ∃ m, l = out ++ m ∧ m.length = r.length ∧ ∀ (k i : Nat), r[k]? = some i → ∃ t, words[i]? = some t ∧ m[k]? = some t := by
 induction r with
 | nil => intro out l h; rw [pk_nil] at h; injection h with h _; exact ⟨[], by simp [h], rfl, by simp⟩
 | cons i r ih =>
  intro out l h
  rw [pk] at h
  split at h
  ·simp at h
  ·rename_i t ht
   obtain ⟨m, h1, h2, h3⟩ := ih _ _ h
   refine ⟨t :: m, by rw [h1]; simp, by simp [h2], fun k j hk => ?_⟩
   match k, hk with
   | 0, hk => simp at hk; subst hk; exact ⟨t, ht, rfl⟩
   | k + 1, hk => simpa using h3 k j (by simpa using hk)
/-- of places that are all there -/
theorem pk_all (words : List Tx) (r : List Nat) (h : ∀ i ∈ r, i < words.length) : ∀ out, ∃ m, pk words out r = (out ++ m, true) := by
 induction r with
 | nil => intro out; exact ⟨[], by simp [pk]⟩
 | cons i r ih =>
  intro out
  have hi := h i (by simp)
  obtain ⟨m, hm⟩ := ih (fun j hj => h j (by simp [hj])) (out ++ [words[i]])
  exact ⟨words[i] :: m, by rw [pk_cons (List.getElem?_eq_getElem hi), hm]; simp⟩
/-- the places of a list, from n words on: how many words there are behind them -/
def rs : Nat → List Nat → Option Nat
 | n, [] => some n
 | n, p :: r => if n < p then none else rs (if p = n then n + 1 else n) r
/-- P8.1: are these Words of a list? as the program asks -/
def mayW (words : List Tx) (at_ : List Nat) : Bool := decide ((ws [] words).length = words.length) && decide (rs 0 at_ = some words.length)
/-- .. as the document says -/
def MayD (words : List Tx) (at_ : List Nat) : Prop := ∃ l, pk words [] at_ = (l, true) ∧ ws [] l = words ∧ pl [] l = at_
theorem rs_pl (l : List Tx) : ∀ a, rs a.length (pl a l) = some (ws a l).length := by
 induction l with
 | nil => intro a; rfl
 | cons t r ih =>
  intro a
  have hle := ix_le t a
  rw [pl, rs, if_neg (by omega), ws_cons]
  by_cases h : t ∈ a
  ·have := ix_lt.2 h
   rw [if_neg (by omega), add_mem h]
   have := ih a
   exact this
  ·rw [if_pos (ix_not h), add_not h]
   have := ih (a ++ [t])
   simpa using this
theorem rs_ge (r : List Nat) : ∀ n m, rs n r = some m → n ≤ m := by
 induction r with
 | nil => intro n m h; simp [rs] at h; omega
 | cons p r ih =>
  intro n m h
  rw [rs] at h
  split at h
  ·simp at h
  ·have := ih _ _ h
   split at this <;> omega
theorem ix_take {words : List Tx} (h : words.Nodup) {p : Nat} (hp : p < words.length) : ∀ n, p < n → ix words[p] (words.take n) = p := by
 intro n hn
 have hm : words[p] ∈ words.take n := by
  rw [List.mem_take_iff_getElem]
  exact ⟨p, by omega, rfl⟩
 obtain ⟨h1, h2⟩ := ix_mem hm
 have h3 := h1
 rw [List.length_take] at h3
 rw [List.getElem?_take_of_lt (by omega)] at h2
 obtain ⟨h4, h5⟩ := List.getElem?_eq_some_iff.1 h2
 exact (List.getElem_inj h).1 h5
theorem rs_back {words : List Tx} (hw : words.Nodup) (r : List Nat) : ∀ n, n ≤ words.length → rs n r = some words.length → ∀ out, ∃ m, pk words out r = (out ++ m, true) ∧ ws (words.take n) m = words ∧ pl (words.take n) m = r := by
 induction r with
 | nil =>
  intro n _ h out
  simp [rs] at h
  subst h
  exact ⟨[], by simp [pk], by simp [ws], rfl⟩
 | cons p r ih =>
  intro n hn h out
  rw [rs] at h
  split at h
  ·simp at h
  ·rename_i hp
   have hge := rs_ge _ _ _ h
   have hpl : p < words.length := by split at hge <;> omega
   obtain ⟨m, h1, h2, h3⟩ := ih _ (by split <;> (split at hge <;> omega)) h (out ++ [words[p]])
   refine ⟨words[p] :: m, by rw [pk_cons (List.getElem?_eq_getElem hpl), h1]; simp, ?_, ?_⟩
   ·rw [ws_cons]
    rw [show add (words.take n) words[p] = words.take (if p = n then n + 1 else n) from ?_]
    ·exact h2
    ·split
     ·rename_i e
      subst e
      have hnm : words[p] ∉ words.take p := fun e => by
       rw [List.mem_take_iff_getElem] at e
       obtain ⟨i, hi, e⟩ := e
       have := (List.getElem_inj hw).1 e
       omega
      rw [add_not hnm, List.take_succ_eq_append_getElem hpl]
     ·exact add_mem (by rw [List.mem_take_iff_getElem]; exact ⟨p, by omega, rfl⟩)
   ·rw [pl]
    congr 1
    ·split at h
     ·rename_i e
      subst e
      have hnm : words[p] ∉ words.take p := fun e => by
       rw [List.mem_take_iff_getElem] at e
       obtain ⟨i, hi, e⟩ := e
       have := (List.getElem_inj hw).1 e
       omega
      rw [ix_not hnm, List.length_take]; omega
     ·exact ix_take hw hpl n (by omega)
    ·rw [show add (words.take n) words[p] = words.take (if p = n then n + 1 else n) from ?_]
     ·exact h3
     ·split
      ·rename_i e
       subst e
       have hnm : words[p] ∉ words.take p := fun e => by
        rw [List.mem_take_iff_getElem] at e
        obtain ⟨i, hi, e⟩ := e
        have := (List.getElem_inj hw).1 e
        omega
       rw [add_not hnm, List.take_succ_eq_append_getElem hpl]
      ·exact add_mem (by rw [List.mem_take_iff_getElem]; exact ⟨p, by omega, rfl⟩)
theorem full_nodup {words : List Tx} (h : (ws [] words).length = words.length) : words.Nodup := by
 have h1 := ws_full words [] (by simpa using h)
 have h2 := ws_nil_nodup words
 rw [h1] at h2
 simpa using h2
theorem may_iff (words : List Tx) (at_ : List Nat) : mayW words at_ = true ↔ MayD words at_ := by
 unfold mayW
 rw [Bool.and_eq_true, decide_eq_true_eq, decide_eq_true_eq]
 constructor
 ·rintro ⟨h1, h2⟩
  obtain ⟨m, a, b, c⟩ := rs_back (full_nodup h1) at_ 0 (Nat.zero_le _) h2 []
  exact ⟨m, by simpa using a, by simpa using b, by simpa using c⟩
 ·rintro ⟨l, _, rfl, rfl⟩
  exact ⟨by rw [ws_self (ws_nil_nodup l)], rs_pl l []⟩
/-- what is picked of a list's words at its places is the list -/
theorem pk_ws (l : List Tx) : pk (ws [] l) [] (pl [] l) = (l, true) := by
 have h : ∀ i ∈ pl [] l, i < (ws [] l).length := by
  intro i hi
  obtain ⟨k, hk, e⟩ := List.mem_iff_getElem.1 hi
  have hkl : k < l.length := by rwa [pl_len] at hk
  have := pl_at l [] k l[k] (List.getElem?_eq_getElem hkl)
  rw [List.getElem?_eq_getElem hk] at this
  injection this with this
  rw [← e, this]
  exact ix_lt.2 ((mem_ws l [] _).2 (.inr (List.getElem_mem hkl)))
 obtain ⟨m, hm⟩ := pk_all (ws [] l) (pl [] l) h []
 obtain ⟨m', h1, h2, h3⟩ := pk_ok (ws [] l) (pl [] l) [] _ hm
 have hmm : m = m' := by simpa using h1
 subst hmm
 rw [hm, List.nil_append]
 have : m = l := by
  apply List.ext_getElem?
  intro k
  by_cases hk : k < l.length
  ·have h4 := pl_at l [] k l[k] (List.getElem?_eq_getElem hk)
   obtain ⟨t, h5, h6⟩ := h3 k _ h4
   have h7 := (ix_mem ((mem_ws l [] l[k]).2 (.inr (List.getElem_mem hk)))).2
   rw [h7] at h5
   injection h5 with h5
   rw [h6, ← h5, List.getElem?_eq_getElem hk]
  ·rw [List.getElem?_eq_none (by rw [h2, pl_len]; omega), List.getElem?_eq_none (by omega)]
 rw [this]
theorem mayD_self (l : List Tx) : MayD (ws [] l) (pl [] l) := ⟨l, pk_ws l, rfl, rfl⟩
theorem mayW_self (l : List Tx) : mayW (ws [] l) (pl [] l) = true := (may_iff _ _).2 (mayD_self l)
end Go.Proofs.YtojhenpaeedimaaGreat.Dc
end
