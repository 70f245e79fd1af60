/-
 Plain mathematics of layer 7: lengths of a list of yes and no, what they spread to, and their bytes. No Go.
-/
import Derived.Test.YtojhenpaeedimaaGreatMt
namespace Go.Proofs.YtojhenpaeedimaaGreat.Pk
def incL : List Nat → List Nat
 | [] => [1]
 | n :: r => (n + 1) :: r
/-- P7.1: how many f stand at the begin, how many others behind these, and so on -/
def lens : Bool → List Bool → List Nat
 | _, [] => []
 | f, b :: t => if b = f then incL (lens f t) else 0 :: incL (lens b t)
def sprB : Bool → List Nat → List Bool
 | _, [] => []
 | f, n :: r => List.replicate n f ++ sprB (!f) r
def encN (r : List Nat) : List UInt8 := r.flatMap put
def encF (l : List Bool) : List UInt8 := encN (lens false l)
def posN (r : List Nat) : Prop := ∀ x ∈ r, 1 ≤ x
/-- may these be lengths of a list? -/
def okN (r : List Nat) : Prop := posN r.tail ∧ r ≠ [0]
theorem encN_nil : encN [] = [] := rfl
theorem encN_cons (n : Nat) (r : List Nat) : encN (n :: r) = put n ++ encN r := by simp [encN]
theorem encN_app (a b : List Nat) : encN (a ++ b) = encN a ++ encN b := by simp [encN]
theorem sprB_nil (f : Bool) : sprB f [] = [] := rfl
theorem sprB_cons (f : Bool) (n : Nat) (r : List Nat) : sprB f (n :: r) = List.replicate n f ++ sprB (!f) r := rfl
theorem incL_ne (r : List Nat) : incL r ≠ [] := by cases r <;> simp [incL]
theorem incL_tail (r : List Nat) : (incL r).tail = r.tail := by cases r <;> rfl
theorem lens_eq (f : Bool) (t : List Bool) : lens f (f :: t) = incL (lens f t) := by rw [lens, if_pos rfl]
theorem lens_not (f : Bool) (t : List Bool) : lens f ((!f) :: t) = 0 :: lens (!f) ((!f) :: t) := by
 rw [lens_eq, lens, if_neg (by cases f <;> simp)]
theorem incL_head (r : List Nat) : ∃ n, (incL r) = (n + 1) :: r.tail := by cases r <;> exact ⟨_, rfl⟩
theorem lens_pos (l : List Bool) : ∀ f, posN (lens f l).tail := by
 induction l with
 | nil => intro f x hx; simp [lens] at hx
 | cons b t ih =>
  intro f
  by_cases h : b = f
  ·subst h; rw [lens_eq, incL_tail]; exact ih b
  ·rw [lens, if_neg h]
   obtain ⟨n, hn⟩ := incL_head (lens b t)
   rw [List.tail_cons, hn]
   intro x hx
   rcases List.mem_cons.1 hx with rfl | hx
   ·omega
   ·exact ih b x hx
theorem lens_zero (f : Bool) (l : List Bool) : lens f l ≠ [0] := by
 cases l with
 | nil => simp [lens]
 | cons b t =>
  by_cases h : b = f
  ·subst h; rw [lens_eq]; obtain ⟨n, hn⟩ := incL_head (lens b t); rw [hn]; simp
  ·rw [lens, if_neg h]
   have := incL_ne (lens b t)
   simpa using this
/-- the first length, and what follows -/
theorem lens_run (f : Bool) (rest : List Bool) (hr : rest.head? ≠ some f) : ∀ k, (1 ≤ k ∨ rest ≠ []) → lens f (List.replicate k f ++ rest) = k :: lens (!f) rest := by
 intro k
 induction k with
 | zero =>
  intro h
  have hne : rest ≠ [] := by rcases h with h | h; omega; exact h
  cases rest with
  | nil => exact absurd rfl hne
  | cons b t =>
   have hb : b = !f := by
    have : b ≠ f := fun e => hr (by simp [e])
    cases b <;> cases f <;> simp_all
   subst hb
   rw [List.replicate_zero, List.nil_append, lens_not]
 | succ k ih =>
  intro _
  rw [List.replicate_succ, List.cons_append, lens_eq]
  by_cases h : 1 ≤ k ∨ rest ≠ []
  ·rw [ih h]; rfl
  ·have h1 : k = 0 := by omega
   have h2 : rest = [] := by
    apply Classical.byContradiction
    intro e; exact h (.inr e)
   subst h1; subst h2
   simp [lens, incL]
theorem sprB_lens (l : List Bool) : ∀ f, sprB f (lens f l) = l := by
 have hi : ∀ (r : List Nat) (f : Bool), sprB f (incL r) = f :: sprB f r := by
  intro r f
  cases r with
  | nil => simp [incL, sprB]
  | cons n r => rw [incL, sprB_cons, sprB_cons, List.replicate_succ]; rfl
 induction l with
 | nil => intro f; rfl
 | cons b t ih =>
  intro f
  by_cases h : b = f
  ·subst h; rw [lens_eq, hi, ih]
  ·rw [lens, if_neg h, sprB_cons, List.replicate_zero, List.nil_append]
   have : (!f) = b := by cases b <;> cases f <;> simp_all
   rw [this, hi, ih]
theorem sprB_head {f : Bool} {r : List Nat} (h : posN r) (hr : r ≠ []) : (sprB f r).head? = some f := by
 cases r with
 | nil => exact absurd rfl hr
 | cons n r =>
  obtain ⟨k, rfl⟩ : ∃ k, n = k + 1 := ⟨n - 1, by have := h n (by simp); omega⟩
  rw [sprB_cons, List.replicate_succ]; rfl
theorem lens_cons_of {f : Bool} {n : Nat} {r : List Nat} (hp : posN r) (h0 : 1 ≤ n ∨ r ≠ []) (ih : lens (!f) (sprB (!f) r) = r) : lens f (sprB f (n :: r)) = n :: r := by
 rw [sprB_cons, lens_run, ih]
 ·cases r with
  | nil => simp [sprB]
  | cons m r => rw [sprB_head hp (by simp)]; cases f <;> simp
 ·rcases h0 with h | h
  ·exact .inl h
  ·refine .inr fun e => ?_
   have := sprB_head (f := !f) hp h
   rw [e] at this; cases this
theorem lens_sprB_pos (r : List Nat) : ∀ f, posN r → lens f (sprB f r) = r := by
 induction r with
 | nil => intro f _; rfl
 | cons n r ih =>
  intro f h
  have hp : posN r := fun x hx => h x (by simp [hx])
  exact lens_cons_of hp (.inl (h n (by simp))) (ih (!f) hp)
/-- lengths that may be are those of what they spread to -/
theorem lens_sprB {r : List Nat} (f : Bool) (h : okN r) : lens f (sprB f r) = r := by
 cases r with
 | nil => rfl
 | cons n r =>
  obtain ⟨hp, h0⟩ := h
  refine lens_cons_of hp ?_ (lens_sprB_pos r (!f) hp)
  by_cases hn : 1 ≤ n
  ·exact .inl hn
  ·refine .inr fun e => h0 ?_
   rw [e, show n = 0 by omega]
theorem sprB_len (r : List Nat) : ∀ f, (sprB f r).length = r.sum := by
 induction r with
 | nil => intro f; rfl
 | cons n r ih => intro f; rw [sprB_cons, List.length_append, List.length_replicate, ih, List.sum_cons]
theorem lens_sum (f : Bool) (l : List Bool) : (lens f l).sum = l.length := by rw [← sprB_len _ f, sprB_lens]
theorem pos_len (r : List Nat) (h : posN r) : r.length ≤ r.sum := by
 induction r with
 | nil => simp
 | cons n r ih =>
  have := ih (fun x hx => h x (by simp [hx]))
  have := h n (by simp)
  rw [List.length_cons, List.sum_cons]; omega
theorem lens_len (f : Bool) (l : List Bool) : (lens f l).length ≤ l.length + 1 := by
 have h1 := lens_sum f l
 have h2 := lens_pos l f
 cases h : lens f l with
 | nil => simp
 | cons n r =>
  rw [h] at h1 h2
  have := pos_len r h2
  rw [List.sum_cons] at h1
  rw [List.length_cons]; omega
theorem lens_le {f : Bool} {l : List Bool} {x : Nat} (h : x ∈ lens f l) : x ≤ l.length := by
 rw [← lens_sum f l]
 have h2 : ∀ r : List Nat, x ∈ r → x ≤ r.sum := by
  intro r
  induction r with
  | nil => intro h; simp at h
  | cons y r ih =>
   intro h
   rw [List.sum_cons]
   rcases List.mem_cons.1 h with rfl | h
   ·omega
   ·have := ih h; omega
 exact h2 _ h
theorem sprB_app (a b : List Nat) : ∀ f, sprB f (a ++ b) = sprB f a ++ sprB (if a.length % 2 = 1 then !f else f) b := by
 induction a with
 | nil => intro f; rfl
 | cons n a ih =>
  intro f
  rw [List.cons_append, sprB_cons, sprB_cons, ih, List.append_assoc, List.length_cons]
  congr 2
  have : (if a.length % 2 = 1 then !(!f) else !f) = (if (a.length + 1) % 2 = 1 then !f else f) := by
   by_cases h : a.length % 2 = 1
   ·rw [if_pos h, if_neg (by omega), Bool.not_not]
   ·rw [if_neg h, if_pos (by omega)]
  rw [this]
def LtN (r : List Nat) : Prop := ∀ x ∈ r, x < 18446744073709551616
theorem lens_lt {f : Bool} {l : List Bool} (h : l.length < 18446744073709551616) : LtN (lens f l) := fun _ hx => Nat.lt_of_le_of_lt (lens_le hx) h
theorem encN_len {r : List Nat} (h : LtN r) : (encN r).length ≤ 10 * r.length := by
 induction r with
 | nil => simp [encN]
 | cons n r ih =>
  have h1 := put_len10 (h n (by simp))
  have h2 := ih (fun x hx => h x (by simp [hx]))
  rw [encN_cons, List.length_append, List.length_cons]; omega
theorem encN_take {r : List Nat} {k x : Nat} (h : r[k]? = some x) : encN (r.take (k + 1)) = encN (r.take k) ++ put x := by
 rw [List.take_add_one, h, encN_app]; simp [encN]
/-- P7.3, length by length: what is read of a Reader, behind what has been read; b: the next one's flag; f: more than there are lengths -/
def dcF : Nat → St → Bool → Bool → List Bool → Nat → List Bool × Int
 | 0, _, _, _, _, _ => ([], 5)
 | f + 1, s, b, first, out, n =>
  if s.l = [] then (if out.length < n ∨ (out = [] ∧ first = false) then ([], 5) else (out, 0))
  else if (numS s).e ≠ 0 then ([], (numS s).e)
  else if n - out.length < numV s ∨ (numV s = 0 ∧ first = false) then ([], 5)
  else dcF f (numS s) (!b) false (out ++ List.replicate (numV s) b) n
def decF (l : List UInt8) (n : Int) : List Bool × Int := if n < 0 then ([], 1) else if 4096 < n then ([], 10) else dcF (l.length + 1) ⟨l, 0⟩ false true [] n.toNat
theorem df_end {f n : Nat} {s : St} {b first : Bool} {out : List Bool} (h : s.l = []) : dcF (f + 1) s b first out n = if out.length < n ∨ (out = [] ∧ first = false) then ([], 5) else (out, 0) := by rw [dcF, if_pos h]
theorem df_err {f n : Nat} {s : St} {b first : Bool} {out : List Bool} (h : s.l ≠ []) (he : (numS s).e ≠ 0) : dcF (f + 1) s b first out n = ([], (numS s).e) := by rw [dcF, if_neg h, if_pos he]
theorem df_bad {f n : Nat} {s : St} {b first : Bool} {out : List Bool} (h : s.l ≠ []) (he : (numS s).e = 0) (hb : n - out.length < numV s ∨ (numV s = 0 ∧ first = false)) : dcF (f + 1) s b first out n = ([], 5) := by
 rw [dcF, if_neg h, if_neg (by omega), if_pos hb]
theorem df_next {f n : Nat} {s : St} {b first : Bool} {out : List Bool} (h : s.l ≠ []) (he : (numS s).e = 0) (hb : ¬ (n - out.length < numV s ∨ (numV s = 0 ∧ first = false))) :
  dcF (f + 1) s b first out n = dcF f (numS s) (!b) false (out ++ List.replicate (numV s) b) n := by
 rw [dcF, if_neg h, if_neg (by omega), if_neg hb]
theorem put_ne (n : Nat) (l : List UInt8) : put n ++ l ≠ [] := by
 intro h0
 have := congrArg List.length h0
 have hp := put_len_pos n
 rw [List.length_append, List.length_nil] at this
 omega
theorem dcF_enc (r : List Nat) : ∀ f b first out n, LtN r → (first = false → posN r) → posN r.tail → (first = false → r = [] → out ≠ []) → (first = true → r ≠ [0]) → r.length < f → (out ++ sprB b r).length = n → dcF f ⟨encN r, 0⟩ b first out n = (out ++ sprB b r, 0) := by
 induction r with
 | nil =>
  intro f b first out n _ _ _ ho _ hf hn
  obtain ⟨f, rfl⟩ : ∃ g, f = g + 1 := ⟨f - 1, by simp at hf; omega⟩
  rw [sprB_nil, List.append_nil] at hn ⊢
  rw [df_end (show (⟨encN [], 0⟩ : St).l = [] from rfl), if_neg]
  rintro (h | ⟨h1, h2⟩)
  ·omega
  ·exact ho h2 rfl h1
 | cons x r ih =>
  intro f b first out n hlt hpos hpt _ hz hf hn
  obtain ⟨f, rfl⟩ : ∃ g, f = g + 1 := ⟨f - 1, by simp at hf; omega⟩
  have hx := hlt x (by simp)
  rw [encN_cons]
  obtain ⟨e1, e2⟩ := num_put hx (encN r)
  rw [sprB_cons, List.length_append, List.length_append, List.length_replicate] at hn
  rw [df_next (put_ne x _) (by rw [e2])]
  ·rw [e1, e2, ih f (!b) false _ n (fun y hy => hlt y (by simp [hy])) (fun _ => hpt) (fun y hy => hpt y (List.mem_of_mem_tail hy)) ?_ (by simp) (by simp at hf; omega) (by rw [List.length_append, List.length_append, List.length_replicate]; omega), sprB_cons, List.append_assoc]
   intro _ hr h0
   have h1 := List.append_eq_nil_iff.1 h0
   have hx0 : x = 0 := by have := h1.2; simpa using this
   cases first with
   | true => exact hz rfl (by rw [hx0, hr])
   | false => have := hpos rfl x (by simp); omega
  ·rw [e1]
   rintro (h | ⟨h1, h2⟩)
   ·omega
   ·have := hpos h2 x (by simp); omega
theorem dcF_dec : ∀ f (l : List UInt8) b first out n ys, out.length ≤ n → dcF f ⟨l, 0⟩ b first out n = (ys, 0) →
  ∃ r, LtN r ∧ (first = false → posN r) ∧ posN r.tail ∧ l = encN r ∧ ys = out ++ sprB b r ∧ ys.length = n ∧ (ys = [] → first = true ∧ r = [])
 | 0, l, b, first, out, n, ys, _, h => by simp [dcF] at h
 | f + 1, l, b, first, out, n, ys, hn, h => by
  rw [dcF] at h
  split at h
  ·rename_i hl
   simp only at hl
   split at h
   ·simp at h
   ·rename_i hc
    simp only [Prod.mk.injEq, and_true] at h
    subst h
    refine ⟨[], by intro x hx; simp at hx, fun _ => by intro x hx; simp at hx, by intro x hx; simp at hx, hl, by simp [sprB], by omega, fun h0 => ⟨?_, rfl⟩⟩
    cases first with
    | true => rfl
    | false => exact absurd (.inr ⟨h0, rfl⟩) hc
  ·split at h
   ·rename_i he
    simp only [Prod.mk.injEq] at h
    exact absurd h.2 he
   ·rename_i he
    split at h
    ·simp at h
    ·rename_i hc
     rw [not_or] at hc
     obtain ⟨hc1, hc2⟩ := hc
     have he1 : (numS ⟨l, 0⟩).e = 0 := by simpa using he
     obtain ⟨a1, a2⟩ := num_zero he1
     obtain ⟨l1, hl1⟩ : ∃ l1, numS ⟨l, 0⟩ = ⟨l1, 0⟩ := ⟨(numS ⟨l, 0⟩).l, by cases hx : numS ⟨l, 0⟩; rw [hx] at he1; simp only at he1; subst he1; rfl⟩
     rw [hl1] at h a1 a2
     obtain ⟨r, r1, r2, r3, r4, r5, r6, r7⟩ := dcF_dec f l1 (!b) false _ n ys (by rw [List.length_append, List.length_replicate]; omega) h
     have hv := numV_lt ⟨l, 0⟩
     refine ⟨numV ⟨l, 0⟩ :: r, ?_, ?_, by rw [List.tail_cons]; exact r2 rfl, ?_, ?_, r6, fun h0 => by have := (r7 h0).1; simp at this⟩
     ·intro x hx
      rcases List.mem_cons.1 hx with rfl | hx
      ·exact hv
      ·exact r1 x hx
     ·intro hf x hx
      rcases List.mem_cons.1 hx with rfl | hx
      ·have : ¬ numV ⟨l, 0⟩ = 0 := fun e => hc2 ⟨e, hf⟩
       omega
      ·exact r2 rfl x hx
     ·rw [encN_cons, ← r4]
      exact a1
     ·rw [sprB_cons, r5, List.append_assoc]
theorem decF_neg {l : List UInt8} {n : Int} (h : n < 0) : decF l n = ([], 1) := by rw [decF, if_pos h]
theorem decF_big {l : List UInt8} {n : Int} (h : 4096 < n) : decF l n = ([], 10) := by rw [decF, if_neg (by omega), if_pos h]
theorem decF_in {l : List UInt8} {n : Nat} (h1 : n ≤ 4096) : decF l n = dcF (l.length + 1) ⟨l, 0⟩ false true [] n := by rw [decF, if_neg (by omega), if_neg (by omega), Int.toNat_natCast]
theorem encN_ge (r : List Nat) : r.length ≤ (encN r).length := by
 induction r with
 | nil => simp [encN]
 | cons n r ih => have := put_len_pos n; rw [encN_cons, List.length_append, List.length_cons]; omega
theorem decF_enc {l : List Bool} (hl : l.length ≤ 4096) : decF (encF l) l.length = (l, 0) := by
 rw [decF_in hl]
 unfold encF
 have := dcF_enc (lens false l) ((encN (lens false l)).length + 1) false true [] l.length (lens_lt (by omega)) (by simp) (lens_pos l false) (by simp) (fun _ => lens_zero false l) (by have := encN_ge (lens false l); omega) (by rw [sprB_lens]; simp)
 rw [this, sprB_lens]; simp
theorem decF_dec {l : List UInt8} {n : Int} (h : (decF l n).2 = 0) : encF (decF l n).1 = l ∧ ((decF l n).1.length : Int) = n := by
 rcases Int.lt_or_le n 0 with h0 | h0
 ·rw [decF_neg h0] at h; simp at h
 ·rcases Int.lt_or_le 4096 n with h1 | h1
  ·rw [decF_big h1] at h; simp at h
  ·obtain ⟨N, rfl⟩ := Int.eq_ofNat_of_zero_le h0
   rw [decF_in (by omega)] at h ⊢
   obtain ⟨ys, hys⟩ : ∃ ys, dcF (l.length + 1) ⟨l, 0⟩ false true [] N = (ys, 0) := ⟨(dcF (l.length + 1) ⟨l, 0⟩ false true [] N).1, Prod.ext rfl h⟩
   rw [hys]
   obtain ⟨r, _, _, r3, r4, r5, r6, r7⟩ := dcF_dec (l.length + 1) l false true [] N ys (Nat.zero_le _) hys
   simp only
   rw [List.nil_append] at r5
   refine ⟨?_, by rw [r6]⟩
   have hok : okN r := by
    refine ⟨r3, fun e => ?_⟩
    have : (sprB false r) = [] := by rw [e]; rfl
    rw [← r5] at this
    have := (r7 this).2
    rw [e] at this; simp at this
   unfold encF
   rw [r5, lens_sprB false hok, ← r4]
theorem encN_inj : ∀ (a b : List Nat), LtN a → LtN b → encN a = encN b → a = b
 | [], [], _, _, _ => rfl
 | [], y :: b, _, _, h => by
  rw [encN_cons, encN_nil] at h
  exact absurd h.symm (put_ne y _)
 | x :: a, [], _, _, h => by
  rw [encN_cons, encN_nil] at h
  exact absurd h (put_ne x _)
 | x :: a, y :: b, ha, hb, h => by
  rw [encN_cons, encN_cons] at h
  have e1 := num_put (ha x (by simp)) (encN a)
  have e2 := num_put (hb y (by simp)) (encN b)
  rw [h] at e1
  have hv : x = y := by rw [← e1.1, e2.1]
  have hR : encN a = encN b := by have := e1.2.symm.trans e2.2; injection this
  rw [hv, encN_inj a b (fun z hz => ha z (by simp [hz])) (fun z hz => hb z (by simp [hz])) hR]
theorem decF_len {l : List Bool} {n : Int} (hl : l.length ≤ 4096) (h : n ≠ (l.length : Int)) : (decF (encF l) n).2 ≠ 0 := fun e => by
 obtain ⟨h1, h2⟩ := decF_dec e
 have h3 : (decF (encF l) n).1.length ≤ 4096 := by
  rcases Int.lt_or_le n 0 with h0 | h0
  ·rw [decF_neg h0] at e; simp at e
  ·rcases Int.lt_or_le 4096 n with hb | hb
   ·rw [decF_big hb] at e; simp at e
   ·omega
 have h4 : lens false (decF (encF l) n).1 = lens false l := encN_inj _ _ (lens_lt (by omega)) (lens_lt (by omega)) h1
 have s1 := lens_sum false (decF (encF l) n).1
 rw [h4, lens_sum] at s1
 omega
end Go.Proofs.YtojhenpaeedimaaGreat.Pk
