/-
  Plain mathematics of layer 6: runs, what they spread to, and their bytes. No Go.
-/
import Derived.Test.YtiehmeheilfocaaMc
namespace Go.Proofs.Ytiehmeheilfocaa.Pk

/-- numbers that fit 64 bits -/
def Nums (l : List Nat) : Prop := ∀ u ∈ l, u < 18446744073709551616
/-- runs: a number, and how often it stands there -/
abbrev Run := Nat × Int
/-- may these be runs, behind one of the number p? -/
def mayP : Option Nat → List Run → Bool
  | _, [] => true
  | p, (v, c) :: r => decide (1 ≤ c) && !(p == some v) && mayP (some v) r
def spr (r : List Run) : List Nat := r.flatMap fun x => List.replicate x.2.toNat x.1
/-- the runs of l behind c times v -/
def rn : Nat → Int → List Nat → List Run
  | v, c, [] => [(v, c)]
  | v, c, x :: l => if x = v then rn v (c + 1) l else (v, c) :: rn x 1 l
def runsL : List Nat → List Run
  | [] => []
  | x :: l => rn x 1 l
def encR (r : List Run) : List UInt8 := r.flatMap fun x => put x.1 ++ put x.2.toNat
def encU (l : List Nat) : List UInt8 := encR (runsL l)

theorem spr_nil : spr [] = [] := rfl
theorem spr_cons (v : Nat) (c : Int) (r : List Run) : spr ((v, c) :: r) = List.replicate c.toNat v ++ spr r := rfl
theorem spr_app (a b : List Run) : spr (a ++ b) = spr a ++ spr b := by simp [spr]
theorem encR_nil : encR [] = [] := rfl
theorem encR_cons (v : Nat) (c : Int) (r : List Run) : encR ((v, c) :: r) = put v ++ (put c.toNat ++ encR r) := by simp [encR]
theorem encR_app (a b : List Run) : encR (a ++ b) = encR a ++ encR b := by simp [encR]

theorem rn_ne (l : List Nat) : ∀ v c, rn v c l ≠ [] := by
  induction l with
  | nil => intro v c; simp [rn]
  | cons x l ih => intro v c; rw [rn]; split; exact ih _ _; simp
theorem rn_spr (l : List Nat) : ∀ v c, 0 ≤ c → spr (rn v c l) = List.replicate c.toNat v ++ l := by
  induction l with
  | nil => intro v c _; simp [rn, spr]
  | cons x l ih =>
    intro v c hc
    rw [rn]
    split
    · rename_i h
      subst h
      rw [ih x (c + 1) (by omega), show (c + 1).toNat = c.toNat + 1 by omega, List.replicate_succ']
      simp
    · rw [spr_cons, ih x 1 (by omega)]
      simp
theorem rn_may (l : List Nat) : ∀ p v c, 1 ≤ c → p ≠ some v → mayP p (rn v c l) = true := by
  induction l with
  | nil => intro p v c hc hp; simp [rn, mayP, hc, hp]
  | cons x l ih =>
    intro p v c hc hp
    rw [rn]
    split
    · exact ih p v (c + 1) (by omega) hp
    · rename_i h
      rw [mayP, ih (some v) x 1 (by omega) (by simpa using fun e => h e.symm)]
      simp [hc, hp]
theorem runs_spr (l : List Nat) : spr (runsL l) = l := by
  cases l with
  | nil => rfl
  | cons x l => rw [runsL, rn_spr l x 1 (by omega)]; rfl
theorem runs_may (l : List Nat) : mayP none (runsL l) = true := by
  cases l with
  | nil => rfl
  | cons x l => exact rn_may l none x 1 (by omega) (by simp)

/-- counts are 1 or above -/
theorem may_cons {p : Option Nat} {v : Nat} {c : Int} {r : List Run} (h : mayP p ((v, c) :: r) = true) : 1 ≤ c ∧ p ≠ some v ∧ mayP (some v) r = true := by
  simp only [mayP, Bool.and_eq_true, decide_eq_true_eq, Bool.not_eq_true', beq_eq_false_iff_ne, ne_eq] at h
  exact ⟨h.1.1, h.1.2, h.2⟩
theorem may_mk {p : Option Nat} {v : Nat} {c : Int} {r : List Run} (h1 : 1 ≤ c) (h2 : p ≠ some v) (h3 : mayP (some v) r = true) : mayP p ((v, c) :: r) = true := by
  simp [mayP, h1, h2, h3]
theorem may_none {p : Option Nat} {r : List Run} (h : mayP p r = true) : mayP none r = true := by
  cases r with
  | nil => rfl
  | cons x r => obtain ⟨v, c⟩ := x; obtain ⟨h1, _, h3⟩ := may_cons h; exact may_mk h1 (by simp) h3
/-- runs that may be are those of what they spread to -/
theorem rn_of (r : List Run) : ∀ v (c : Int) (k : Nat), mayP (some v) r = true → rn v c (List.replicate k v ++ spr r) = (v, c + k) :: r := by
  induction r with
  | nil =>
    intro v c k _
    rw [spr_nil, List.append_nil]
    induction k generalizing c with
    | zero => simp [rn]
    | succ k ih => rw [List.replicate_succ, rn, if_pos rfl, ih]; congr 2; omega
  | cons x r ih =>
    obtain ⟨y, d⟩ := x
    intro v c k h
    obtain ⟨h1, h2, h3⟩ := may_cons h
    have hne : ¬ y = v := fun e => h2 (by rw [e])
    induction k generalizing c with
    | zero =>
      rw [List.replicate_zero, List.nil_append, spr_cons, show d.toNat = (d.toNat - 1) + 1 by omega, List.replicate_succ, List.cons_append, rn, if_neg hne, ih y 1 (d.toNat - 1) h3]
      congr 2
      · congr 1; omega
      · congr 1; omega
    | succ k ih2 => rw [List.replicate_succ, List.cons_append, rn, if_pos rfl, ih2]; congr 2; omega
theorem runs_of {r : List Run} (h : mayP none r = true) : runsL (spr r) = r := by
  cases r with
  | nil => rfl
  | cons x r =>
    obtain ⟨v, c⟩ := x
    obtain ⟨h1, _, h3⟩ := may_cons h
    rw [spr_cons, show c.toNat = (c.toNat - 1) + 1 by omega, List.replicate_succ, List.cons_append, runsL, rn_of r v 1 _ h3]
    congr 2
    omega
/-- .. and no others -/
theorem runs_only {r : List Run} {l : List Nat} (h : mayP none r = true) (hs : spr r = l) : runsL l = r := by rw [← hs]; exact runs_of h

theorem spr_len_ge {p : Option Nat} {r : List Run} (h : mayP p r = true) : r.length ≤ (spr r).length := by
  induction r generalizing p with
  | nil => simp [spr]
  | cons x r ih =>
    obtain ⟨v, c⟩ := x
    obtain ⟨h1, _, h3⟩ := may_cons h
    have := ih h3
    rw [spr_cons, List.length_append, List.length_replicate, List.length_cons]
    omega
theorem runs_len (l : List Nat) : (runsL l).length ≤ l.length := by
  have := spr_len_ge (runs_may l)
  rwa [runs_spr] at this
/-- each number of a run stands in the list, and its count is no more than that is long -/
theorem run_in {r : List Run} {x : Run} (h : x ∈ r) (h1 : 1 ≤ x.2) : x.1 ∈ spr r ∧ x.2 ≤ (spr r).length := by
  induction r with
  | nil => simp at h
  | cons y r ih =>
    obtain ⟨v, c⟩ := y
    rw [spr_cons]
    rcases List.mem_cons.1 h with rfl | h
    · simp only at h1
      exact ⟨List.mem_append.2 (.inl (by rw [List.mem_replicate]; exact ⟨by omega, rfl⟩)), by simp; omega⟩
    · obtain ⟨h2, h3⟩ := ih h
      exact ⟨List.mem_append.2 (.inr h2), by simp; omega⟩
theorem may_pos {p : Option Nat} {r : List Run} (h : mayP p r = true) {x : Run} (hx : x ∈ r) : 1 ≤ x.2 := by
  induction r generalizing p with
  | nil => simp at hx
  | cons y r ih =>
    obtain ⟨v, c⟩ := y
    obtain ⟨h1, _, h3⟩ := may_cons h
    rcases List.mem_cons.1 hx with rfl | hx
    · exact h1
    · exact ih h3 hx
theorem runs_in {l : List Nat} {x : Run} (hx : x ∈ runsL l) : x.1 ∈ l ∧ 1 ≤ x.2 ∧ x.2 ≤ l.length := by
  have h1 := may_pos (runs_may l) hx
  have := run_in hx h1
  rw [runs_spr] at this
  exact ⟨this.1, h1, this.2⟩

theorem put_two_len {v c : Nat} (hv : v < 18446744073709551616) (hc : c < 18446744073709551616) : 2 ≤ (put v ++ put c).length ∧ (put v ++ put c).length ≤ 20 := by
  have h1 := put_len10 hv
  have h2 := put_len10 hc
  have h3 := put_len_pos v
  have h4 := put_len_pos c
  rw [List.length_append]; omega
def Fits (r : List Run) : Prop := ∀ x ∈ r, x.1 < 18446744073709551616 ∧ x.2.toNat < 18446744073709551616
theorem encR_len {r : List Run} (h : Fits r) : 2 * r.length ≤ (encR r).length ∧ (encR r).length ≤ 20 * r.length := by
  induction r with
  | nil => simp [encR]
  | cons x r ih =>
    obtain ⟨v, c⟩ := x
    have h1 := h (v, c) (by simp)
    have h2 := ih (fun y hy => h y (by simp [hy]))
    have h3 := put_two_len (v := v) (c := c.toNat) h1.1 h1.2
    rw [encR_cons, ← List.append_assoc, List.length_append, List.length_cons]
    omega
theorem runs_fits {l : List Nat} (h : Nums l) (hl : l.length < 18446744073709551616) : Fits (runsL l) := fun x hx => by
  obtain ⟨h1, h2, h3⟩ := runs_in hx
  exact ⟨h _ h1, by omega⟩
theorem encU_len {l : List Nat} (h : Nums l) (hl : l.length < 18446744073709551616) : (encU l).length ≤ 20 * l.length := by
  have h1 := (encR_len (runs_fits h hl)).2
  have h2 := runs_len l
  unfold encU
  omega
theorem encR_inj : ∀ (a b : List Run), Fits a → Fits b → (∀ x ∈ a, 0 ≤ x.2) → (∀ x ∈ b, 0 ≤ x.2) → encR a = encR b → a = b
  | [], [], _, _, _, _, _ => rfl
  | [], (v, c) :: b, _, _, _, _, h => by
    have := put_len_pos v
    have h2 := congrArg List.length h
    rw [encR_cons, List.length_append, encR_nil, List.length_nil] at h2
    omega
  | (v, c) :: a, [], _, _, _, _, h => by
    have := put_len_pos v
    have h2 := congrArg List.length h
    rw [encR_cons, List.length_append, encR_nil, List.length_nil] at h2
    omega
  | (v, c) :: a, (u, d) :: b, ha, hb, pa, pb, h => by
    have h1 := ha (v, c) (by simp)
    have h2 := hb (u, d) (by simp)
    have p1 := pa (v, c) (by simp)
    have p2 := pb (u, d) (by simp)
    simp only at h1 h2 p1 p2
    rw [encR_cons, encR_cons] at h
    have e1 := num_put h1.1 (put c.toNat ++ encR a)
    have e2 := num_put h2.1 (put d.toNat ++ encR b)
    rw [h] at e1
    have hv : v = u := by rw [← e1.1, e2.1]
    have hR : put c.toNat ++ encR a = put d.toNat ++ encR b := by have := e1.2.symm.trans e2.2; injection this
    have f1 := num_put h1.2 (encR a)
    have f2 := num_put h2.2 (encR b)
    rw [hR] at f1
    have hc : c.toNat = d.toNat := by rw [← f1.1, f2.1]
    have hS : encR a = encR b := by have := f1.2.symm.trans f2.2; injection this
    rw [hv, show c = d by omega, encR_inj a b (fun z hz => ha z (by simp [hz])) (fun z hz => hb z (by simp [hz])) (fun z hz => pa z (by simp [hz])) (fun z hz => pb z (by simp [hz])) hS]

/-- the last number so far -/
def lastOf (l : List Nat) : Option Nat := l.getLast?
theorem last_rep {out : List Nat} {v k : Nat} : lastOf (out ++ List.replicate (k + 1) v) = some v := by
  simp [lastOf, List.getLast?_append, List.getLast?_replicate]

/-- P6.3, run by run: what is read of a Reader, behind what has been read; f: more than there are runs -/
def dcR : Nat → St → List Nat → Int → List Nat × Int
  | 0, _, _, _ => ([], 5)
  | f + 1, s, out, n =>
    if s.l = [] then (if (out.length : Int) < n then ([], 5) else (out, 0))
    else if (numS (numS s)).e ≠ 0 then ([], (numS (numS s)).e)
    else if numV (numS s) = 0 ∨ n - out.length < (numV (numS s) : Int) ∨ lastOf out = some (numV s) then ([], 5)
    else dcR f (numS (numS s)) (out ++ List.replicate (numV (numS s)) (numV s)) n
def decU (l : List UInt8) (n : Int) : List Nat × Int := if n < 0 then ([], 1) else if 4096 < n then ([], 10) else dcR (l.length + 1) ⟨l, 0⟩ [] n

/-- what is encoded is decoded -/
theorem dcR_enc (r : List Run) : ∀ f out (n : Int), Fits r → mayP (lastOf out) r = true → r.length < f → ((out ++ spr r).length : Int) = n → dcR f ⟨encR r, 0⟩ out n = (out ++ spr r, 0) := by
  induction r with
  | nil =>
    intro f out n _ _ hf hn
    obtain ⟨f, rfl⟩ : ∃ g, f = g + 1 := ⟨f - 1, by simp at hf; omega⟩
    rw [spr_nil, List.append_nil] at hn ⊢
    rw [dcR, if_pos (show (⟨encR [], 0⟩ : St).l = [] from rfl), if_neg (by omega)]
  | cons x r ih =>
    obtain ⟨v, c⟩ := x
    intro f out n hfit hm hf hn
    obtain ⟨f, rfl⟩ : ∃ g, f = g + 1 := ⟨f - 1, by simp at hf; omega⟩
    obtain ⟨h1, h2, h3⟩ := may_cons hm
    have hx := hfit (v, c) (by simp)
    simp only at hx
    rw [encR_cons]
    obtain ⟨e1, e2⟩ := num_put hx.1 (put c.toNat ++ encR r)
    obtain ⟨e3, e4⟩ := num_put hx.2 (encR r)
    rw [spr_cons, List.length_append, List.length_append, List.length_replicate] at hn
    have hne : put v ++ (put c.toNat ++ encR r) ≠ [] := by
      intro h0
      have := congrArg List.length h0
      have hp := put_len_pos v
      rw [List.length_append, List.length_nil] at this
      omega
    rw [dcR, if_neg hne, e2, e4, if_neg (by simp), e3, e1, if_neg (by
      rintro (h | h | h)
      · omega
      · omega
      · exact h2 h)]
    obtain ⟨k, hk⟩ : ∃ k, c.toNat = k + 1 := ⟨c.toNat - 1, by omega⟩
    rw [ih f _ n (fun y hy => hfit y (by simp [hy])) (by rw [hk, last_rep]; exact h3) (by simp at hf; omega) (by rw [List.length_append, List.length_append, List.length_replicate]; omega), spr_cons, List.append_assoc]
theorem num_zero {l : List UInt8} (h : (numS ⟨l, 0⟩).e = 0) : l = put (numV ⟨l, 0⟩) ++ (numS ⟨l, 0⟩).l ∧ (numS ⟨l, 0⟩).l.length < l.length := by
  obtain ⟨f1, f2, f3⟩ := num_read h
  have h3 : (numS ⟨l, 0⟩).l = l.drop (l.length - (numS ⟨l, 0⟩).l.length) := by
    revert h
    unfold numS
    simp only [if_true]
    cases hr : rd l with
    | cut => simp
    | long => simp
    | ok m u =>
      intro _
      have := (rd_inv hr).2.2.1
      simp only [List.length_drop]
      congr 1
      omega
  have hp := put_len_pos (numV ⟨l, 0⟩)
  refine ⟨?_, by omega⟩
  rw [← f1]
  conv => rhs; rhs; rw [h3]
  exact (List.take_append_drop _ _).symm
/-- what is decoded was encoded -/
theorem dcR_dec : ∀ f (l : List UInt8) out (n : Int) ys, (out.length : Int) ≤ n → dcR f ⟨l, 0⟩ out n = (ys, 0) →
    ∃ r, Fits r ∧ mayP (lastOf out) r = true ∧ l = encR r ∧ ys = out ++ spr r ∧ (ys.length : Int) = n
  | 0, l, out, n, ys, _, h => by simp [dcR] at h
  | f + 1, l, out, n, ys, hn, h => by
    rw [dcR] at h
    split at h
    · rename_i hl
      simp only at hl
      split at h
      · simp at h
      · simp only [Prod.mk.injEq, and_true] at h
        subst h
        exact ⟨[], by intro x hx; simp at hx, rfl, hl, by simp [spr], by omega⟩
    · split at h
      · rename_i he
        simp only [Prod.mk.injEq] at h
        exact absurd h.2 he
      · rename_i he
        split at h
        · simp at h
        · rename_i hc
          rw [not_or, not_or] at hc
          obtain ⟨hc1, hc2, hc3⟩ := hc
          have he2 : (numS (numS ⟨l, 0⟩)).e = 0 := by simpa using he
          have he1 : (numS ⟨l, 0⟩).e = 0 := by
            apply Classical.byContradiction
            intro h1
            rw [(num_err h1).2] at he2
            exact h1 he2
          obtain ⟨a1, a2⟩ := num_zero he1
          obtain ⟨l1, hl1⟩ : ∃ l1, numS ⟨l, 0⟩ = ⟨l1, 0⟩ := ⟨(numS ⟨l, 0⟩).l, by cases hx : numS ⟨l, 0⟩; rw [hx] at he1; simp only at he1; subst he1; rfl⟩
          rw [hl1] at h he2 hc1 hc2 a1 a2
          obtain ⟨b1, b2⟩ := num_zero he2
          obtain ⟨l2, hl2⟩ : ∃ l2, numS ⟨l1, 0⟩ = ⟨l2, 0⟩ := ⟨(numS ⟨l1, 0⟩).l, by cases hx : numS ⟨l1, 0⟩; rw [hx] at he2; simp only at he2; subst he2; rfl⟩
          rw [hl2] at h b1 b2
          obtain ⟨k, hk⟩ : ∃ k, numV ⟨l1, 0⟩ = k + 1 := ⟨numV ⟨l1, 0⟩ - 1, by omega⟩
          obtain ⟨r, r1, r2, r3, r4, r5⟩ := dcR_dec f l2 _ n ys (by rw [List.length_append, List.length_replicate]; omega) h
          rw [hk, last_rep] at r2
          have hv := numV_lt ⟨l, 0⟩
          have hw := numV_lt ⟨l1, 0⟩
          refine ⟨(numV ⟨l, 0⟩, (numV ⟨l1, 0⟩ : Int)) :: r, ?_, may_mk (by omega) hc3 r2, ?_, ?_, r5⟩
          · intro x hx
            rcases List.mem_cons.1 hx with rfl | hx
            · exact ⟨hv, by simpa using hw⟩
            · exact r1 x hx
          · rw [encR_cons, Int.toNat_natCast, ← r3]
            simp only at a1 b1
            rw [← b1]
            exact a1
          · rw [spr_cons, Int.toNat_natCast, r4, List.append_assoc]

theorem decU_neg {l : List UInt8} {n : Int} (h : n < 0) : decU l n = ([], 1) := by rw [decU, if_pos h]
theorem decU_big {l : List UInt8} {n : Int} (h : 4096 < n) : decU l n = ([], 10) := by rw [decU, if_neg (by omega), if_pos h]
theorem decU_in {l : List UInt8} {n : Int} (h0 : 0 ≤ n) (h1 : n ≤ 4096) : decU l n = dcR (l.length + 1) ⟨l, 0⟩ [] n := by rw [decU, if_neg (by omega), if_neg (by omega)]
theorem decU_enc {l : List Nat} (h : Nums l) (hl : l.length ≤ 4096) : decU (encU l) l.length = (l, 0) := by
  have hf := runs_fits h (by omega)
  have hlen := (encR_len hf).1
  have hs := runs_spr l
  rw [decU_in (by omega) (by omega)]
  have := dcR_enc (runsL l) ((encU l).length + 1) [] l.length hf (runs_may l) (by unfold encU; omega) (by rw [List.nil_append, hs])
  rw [List.nil_append, hs] at this
  exact this
theorem decU_dec {s : List UInt8} {n : Int} (h : (decU s n).2 = 0) : encU (decU s n).1 = s ∧ ((decU s n).1.length : Int) = n := by
  rcases Int.lt_or_le n 0 with hn | hn
  · rw [decU_neg hn] at h; simp at h
  · rcases Int.lt_or_le 4096 n with hb | hb
    · rw [decU_big hb] at h; simp at h
    · rw [decU_in hn hb] at h ⊢
      obtain ⟨ys, hys⟩ : ∃ ys, dcR (s.length + 1) ⟨s, 0⟩ [] n = (ys, 0) := ⟨_, Prod.ext rfl h⟩
      rw [hys]
      obtain ⟨r, r1, r2, r3, r4, r5⟩ := dcR_dec _ s [] n ys (by simpa using hn) hys
      rw [List.nil_append] at r4
      exact ⟨by rw [encU, r4, runs_of r2, ← r3], r5⟩
theorem decU_len {l : List Nat} {n : Int} (h : Nums l) (hl : l.length ≤ 4096) (hne : n ≠ l.length) : (decU (encU l) n).2 ≠ 0 := by
  intro h0
  obtain ⟨h1, h2⟩ := decU_dec h0
  rcases Int.lt_or_le n 0 with hn | hn
  · rw [decU_neg hn] at h0; simp at h0
  · rcases Int.lt_or_le 4096 n with hb | hb
    · rw [decU_big hb] at h0; simp at h0
    · rw [decU_in hn hb] at h0 h1 h2
      obtain ⟨ys, hys⟩ : ∃ ys, dcR ((encU l).length + 1) ⟨encU l, 0⟩ [] n = (ys, 0) := ⟨_, Prod.ext rfl h0⟩
      obtain ⟨r, r1, r2, r3, r4, r5⟩ := dcR_dec _ (encU l) [] n ys (by simpa using hn) hys
      rw [List.nil_append] at r4
      have hr := encR_inj _ _ (runs_fits h (by omega)) r1 (fun x hx => by have := may_pos (runs_may l) hx; omega) (fun x hx => by have := may_pos r2 hx; omega) (show encR (runsL l) = encR r from r3)
      have : ys = l := by rw [r4, ← hr, runs_spr]
      exact hne (by rw [← r5, this])
theorem dcR_err : ∀ f s out n, (dcR f s out n).2 ≠ 0 → (dcR f s out n).1 = []
  | 0, _, _, _, _ => rfl
  | f + 1, s, out, n, h => by
    rw [dcR] at h ⊢
    split
    · rename_i h1
      rw [if_pos h1] at h
      split
      · rfl
      · rename_i h2; rw [if_neg h2] at h; simp at h
    · rename_i h1
      rw [if_neg h1] at h
      split
      · rfl
      · rename_i h2
        rw [if_neg h2] at h
        split
        · rfl
        · rename_i h3
          rw [if_neg h3] at h
          exact dcR_err f _ _ n h
theorem decU_err {s : List UInt8} {n : Int} (h : (decU s n).2 ≠ 0) : (decU s n).1 = [] := by
  unfold decU at h ⊢
  split
  · rfl
  · rename_i h1
    rw [if_neg h1] at h
    split
    · rfl
    · rename_i h2
      rw [if_neg h2] at h
      exact dcR_err _ _ _ _ h

/-- P6.2: the list that runs spread to, if they may be and it has at most that many numbers -/
def sprV (r : List Run) (most : Int) : List Nat × Bool := if mayP none r = true ∧ ((spr r).length : Int) ≤ most then (spr r, true) else ([], false)
theorem sprV_ok {r : List Run} {most : Int} (h : mayP none r = true) (h2 : ((spr r).length : Int) ≤ most) : sprV r most = (spr r, true) := by rw [sprV, if_pos ⟨h, h2⟩]
theorem sprV_may {r : List Run} {most : Int} (h : mayP none r = false) : sprV r most = ([], false) := by rw [sprV, if_neg (by rw [h]; simp)]
theorem sprV_far {r : List Run} {most : Int} (h2 : most < ((spr r).length : Int)) : sprV r most = ([], false) := by rw [sprV, if_neg (by omega)]

/-- how many times a list changes -/
def chg : List Nat → Nat
  | [] => 0
  | [_] => 0
  | x :: y :: l => (if x = y then 0 else 1) + chg (y :: l)
theorem rn_chg (l : List Nat) : ∀ v c, (rn v c l).length = chg (v :: l) + 1 := by
  induction l with
  | nil => intro v c; rfl
  | cons x l ih =>
    intro v c
    rw [rn, chg]
    by_cases h : x = v
    · rw [if_pos h, if_pos h.symm, ih, h]; omega
    · rw [if_neg h, if_neg (fun e => h e.symm), List.length_cons, ih]; omega
theorem runs_chg {l : List Nat} (h : l ≠ []) : (runsL l).length = chg l + 1 := by
  cases l with
  | nil => exact absurd rfl h
  | cons x l => exact rn_chg l x 1

theorem may_app : ∀ (a : List Run) (p : Option Nat) (b : List Run), mayP p (a ++ b) = (mayP p a && mayP (match a.getLast? with | some x => some x.1 | none => p) b)
  | [], p, b => by simp [mayP]
  | (v, c) :: a, p, b => by
    rw [List.cons_append, mayP, mayP, may_app a (some v) b]
    cases a with
    | nil => simp [Bool.and_assoc]
    | cons y a =>
      rw [List.getLast?_cons_cons, Bool.and_assoc, Bool.and_assoc, Bool.and_assoc]
      cases hl : (y :: a).getLast? with
      | none => simp at hl
      | some x => rfl
theorem may_rev : ∀ (r : List Run), mayP none r = true → mayP none r.reverse = true
  | [], _ => rfl
  | (v, c) :: r, h => by
    obtain ⟨h1, _, h3⟩ := may_cons h
    rw [List.reverse_cons, may_app, may_rev r (may_none h3), Bool.true_and, List.getLast?_reverse]
    cases r with
    | nil => simp [mayP, h1]
    | cons y r =>
      obtain ⟨u, d⟩ := y
      obtain ⟨_, h5, _⟩ := may_cons h3
      simp only [List.head?_cons]
      exact may_mk h1 (fun e => h5 (by injection e with e; rw [e])) rfl
theorem spr_rev (r : List Run) : spr r.reverse = (spr r).reverse := by
  induction r with
  | nil => rfl
  | cons x r ih =>
    obtain ⟨v, c⟩ := x
    rw [List.reverse_cons, spr_app, ih, show spr ((v, c) :: r) = List.replicate c.toNat v ++ spr r from rfl, List.reverse_append, List.reverse_replicate]
    simp [spr]
theorem runs_rev (l : List Nat) : runsL l.reverse = (runsL l).reverse :=
  runs_only (may_rev _ (runs_may l)) (by rw [spr_rev, runs_spr])
theorem sum_runs (r : List Run) (h : ∀ x ∈ r, 0 ≤ x.2) : (r.map (·.2)).sum = ((spr r).length : Int) := by
  induction r with
  | nil => rfl
  | cons x r ih =>
    obtain ⟨v, c⟩ := x
    have := h (v, c) (by simp)
    simp only at this
    rw [List.map_cons, List.sum_cons, ih (fun y hy => h y (by simp [hy])), spr_cons, List.length_append, List.length_replicate]
    simp only
    omega

/-- two lists that do not meet in the same number -/
theorem runs_join {a b : List Run} (ha : mayP none a = true) (hb : mayP none b = true) (h : ∀ x y, a.getLast? = some x → b.head? = some y → x.1 ≠ y.1) : mayP none (a ++ b) = true := by
  rw [may_app, ha, Bool.true_and]
  cases b with
  | nil => rfl
  | cons y b =>
    obtain ⟨u, d⟩ := y
    obtain ⟨h1, _, h3⟩ := may_cons hb
    cases hl : a.getLast? with
    | none => exact hb
    | some x => exact may_mk h1 (fun e => h x (u, d) hl rfl (by injection e)) h3
theorem last_spr {a : List Run} {x : Run} (ha : a.getLast? = some x) (h1 : 1 ≤ x.2) : (spr a).getLast? = some x.1 := by
  obtain ⟨a', rfl⟩ : ∃ a', a = a' ++ [x] := List.getLast?_eq_some_iff.1 ha
  obtain ⟨v, c⟩ := x
  rw [spr_app, show spr [(v, c)] = List.replicate c.toNat v by simp [spr]]
  simp only at h1 ⊢
  rw [List.getLast?_append, List.getLast?_replicate, if_neg (by omega)]
  rfl
theorem head_spr {v : Nat} {c : Int} {b : List Run} (h1 : 1 ≤ c) : (spr ((v, c) :: b)).head? = some v := by
  rw [spr_cons, show c.toNat = (c.toNat - 1) + 1 by omega, List.replicate_succ]
  rfl
theorem runs_app {l m : List Nat} (h : ∀ x y, l.getLast? = some x → m.head? = some y → x ≠ y) : runsL (l ++ m) = runsL l ++ runsL m := by
  refine runs_only (runs_join (runs_may l) (runs_may m) fun x y hx hy => ?_) (by rw [spr_app, runs_spr, runs_spr])
  have h1 := last_spr hx (may_pos (runs_may l) (List.mem_of_getLast? hx))
  rw [runs_spr] at h1
  have h2 : m.head? = some y.1 := by
    cases hr : runsL m with
    | nil => rw [hr] at hy; simp at hy
    | cons z r =>
      rw [hr] at hy
      simp only [List.head?_cons, Option.some.injEq] at hy
      subst hy
      have := head_spr (v := z.1) (c := z.2) (b := r) (may_pos (runs_may m) (by rw [hr]; simp))
      rw [← runs_spr m, hr]
      exact this
  exact h _ _ h1 h2
/-- two lists that meet in the same number -/
theorem runs_meet {l m : List Nat} {v : Nat} (hl : l.getLast? = some v) (hm : m.head? = some v) :
    ∃ a c d b, runsL l = a ++ [(v, c)] ∧ runsL m = (v, d) :: b ∧ runsL (l ++ m) = a ++ (v, c + d) :: b := by
  have hla : (runsL l).getLast? ≠ none := fun h => by
    rw [List.getLast?_eq_none_iff] at h
    have := runs_spr l
    rw [h] at this
    rw [← this] at hl
    simp [spr] at hl
  obtain ⟨x, hx⟩ := Option.ne_none_iff_exists'.1 hla
  obtain ⟨a, ha⟩ := List.getLast?_eq_some_iff.1 hx
  have hxp := may_pos (runs_may l) (List.mem_of_getLast? hx)
  have hxv : x.1 = v := by
    have := last_spr hx hxp
    rw [runs_spr, hl] at this
    injection this with this
    exact this.symm
  obtain ⟨u, c⟩ := x
  simp only at hxv hxp
  subst hxv
  cases hr : runsL m with
  | nil =>
    have := runs_spr m
    rw [hr] at this
    rw [← this] at hm
    simp [spr] at hm
  | cons y b =>
    obtain ⟨z, d⟩ := y
    have hyp : 1 ≤ d := may_pos (runs_may m) (x := (z, d)) (by rw [hr]; simp)
    have hz : z = u := by
      have := head_spr (v := z) (c := d) (b := b) hyp
      rw [← hr, runs_spr, hm] at this
      injection this with this
      exact this.symm
    subst hz
    refine ⟨a, c, d, b, ha, rfl, runs_only ?_ ?_⟩
    · have h1 := runs_may l
      have h2 := runs_may m
      rw [ha, may_app] at h1
      rw [hr] at h2
      simp only [Bool.and_eq_true] at h1
      obtain ⟨h11, h12⟩ := h1
      rw [may_app, h11, Bool.true_and]
      obtain ⟨_, g2, _⟩ := may_cons h12
      exact may_mk (by omega) g2 (may_cons h2).2.2
    · have e1 := runs_spr l
      have e2 := runs_spr m
      rw [ha, spr_app] at e1
      rw [hr, spr_cons] at e2
      rw [spr_app, spr_cons, ← e1, ← e2, show (c + d).toNat = c.toNat + d.toNat by omega, ← List.replicate_append_replicate, show spr [(z, c)] = List.replicate c.toNat z by simp [spr]]
      simp only [List.append_assoc]
end Go.Proofs.Ytiehmeheilfocaa.Pk
