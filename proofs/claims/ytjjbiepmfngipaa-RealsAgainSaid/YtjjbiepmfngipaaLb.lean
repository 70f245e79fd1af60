/-
  Plain mathematics of layer 9: what lists of bits encode to, and what bytes decode to. No Go.
-/
import Derived.Test.YtjjbiepmfngipaaLa
namespace Go.Proofs.Ytjjbiepmfngipaa.Re
open Pk Fl

/-- where each is unlike the one ahead -/
def dx : Nat → List Nat → List Nat
  | _, [] => []
  | p, u :: us => (u ^^^ p) :: dx u us
/-- words that are put, each the other way about -/
def encS (d : List Nat) : List UInt8 := d.flatMap fun x => put (sw x)
def encR (us : List Nat) : List UInt8 := encS (dx 0 us)
/-- the last one, p if there is none -/
def lst : Nat → List Nat → Nat
  | p, [] => p
  | _, u :: us => lst u us
def Words (us : List Nat) : Prop := ∀ u ∈ us, u < 18446744073709551616

theorem w64 : (18446744073709551616 : Nat) = 2 ^ 64 := by decide
theorem xor_lt {x y : Nat} (hx : x < 18446744073709551616) (hy : y < 18446744073709551616) : x ^^^ y < 18446744073709551616 := by
  rw [w64] at *; exact Nat.xor_lt_two_pow hx hy
theorem dx_len (us : List Nat) : ∀ p, (dx p us).length = us.length := by
  induction us with
  | nil => intro p; rfl
  | cons u us ih => intro p; simp [dx, ih]
theorem dx_app (us vs : List Nat) : ∀ p, dx p (us ++ vs) = dx p us ++ dx (lst p us) vs := by
  induction us with
  | nil => intro p; rfl
  | cons u us ih =>
    intro p
    show (u ^^^ p) :: dx u (us ++ vs) = _
    rw [ih]
    rfl
theorem lst_cons (p u : Nat) (us : List Nat) : lst p (u :: us) = lst u us := rfl
theorem lst_snoc (u : Nat) (us : List Nat) : ∀ p, lst p (us ++ [u]) = u := by
  induction us with
  | nil => intro p; rfl
  | cons v us ih => intro p; exact ih v
theorem encS_app (a b : List Nat) : encS (a ++ b) = encS a ++ encS b := by simp [encS]
theorem encS_cons (x : Nat) (d : List Nat) : encS (x :: d) = put (sw x) ++ encS d := rfl
theorem encS_len (d : List Nat) : d.length ≤ (encS d).length ∧ (encS d).length ≤ 10 * d.length := by
  induction d with
  | nil => simp [encS]
  | cons x d ih =>
    have h3 := put_len10 (sw_lt x)
    have h4 := put_len_pos (sw x)
    rw [encS_cons, List.length_append, List.length_cons]
    omega
theorem encR_len (us : List Nat) : us.length ≤ (encR us).length ∧ (encR us).length ≤ 10 * us.length := by
  have := encS_len (dx 0 us)
  rw [dx_len] at this
  exact this

/-- n words more of a Reader, behind p; out: those that were -/
def fR : Nat → Nat → St → List Nat → List Nat × Int
  | 0, _, s, out => if doneV s = 0 then (out, 0) else ([], doneV s)
  | n + 1, p, s, out => if (numS s).e = 0 then (if cn (sw (numV s) ^^^ p) = true then fR n (sw (numV s) ^^^ p) (numS s) (out ++ [sw (numV s) ^^^ p]) else ([], 5)) else ([], (numS s).e)
def decR (l : List UInt8) (n : Int) : List Nat × Int := if n < 0 then ([], 1) else if (l.length : Int) < n then ([], 2) else fR n.toNat 0 ⟨l, 0⟩ []
theorem fR_err {n p : Nat} {s : St} {out : List Nat} (h : (numS s).e ≠ 0) : fR (n + 1) p s out = ([], (numS s).e) := by rw [fR, if_neg h]
theorem fR_form {n p : Nat} {s : St} {out : List Nat} (h : (numS s).e = 0) (hc : cn (sw (numV s) ^^^ p) = false) : fR (n + 1) p s out = ([], 5) := by rw [fR, if_pos h, if_neg (by rw [hc]; decide)]
theorem fR_go {n p : Nat} {s : St} {out : List Nat} (h : (numS s).e = 0) (hc : cn (sw (numV s) ^^^ p) = true) : fR (n + 1) p s out = fR n (sw (numV s) ^^^ p) (numS s) (out ++ [sw (numV s) ^^^ p]) := by rw [fR, if_pos h, if_pos hc]
theorem fR_done {p : Nat} {s : St} {out : List Nat} (h : doneV s = 0) : fR 0 p s out = (out, 0) := by rw [fR, if_pos h]
theorem fR_left {p : Nat} {s : St} {out : List Nat} (h : doneV s ≠ 0) : fR 0 p s out = ([], doneV s) := by rw [fR, if_neg h]
theorem decR_neg {l : List UInt8} {n : Int} (h : n < 0) : decR l n = ([], 1) := by rw [decR, if_pos h]
theorem decR_far {l : List UInt8} {n : Int} (h0 : 0 ≤ n) (h : (l.length : Int) < n) : decR l n = ([], 2) := by rw [decR, if_neg (by omega), if_pos h]
theorem decR_in {l : List UInt8} {n : Nat} (h : n ≤ l.length) : decR l (n : Int) = fR n 0 ⟨l, 0⟩ [] := by rw [decR, if_neg (by omega), if_neg (by omega), Int.toNat_natCast]

theorem fR_len (n : Nat) : ∀ p s out, (fR n p s out).1.length ≤ out.length + n := by
  induction n with
  | zero => intro p s out; rw [fR]; split <;> simp
  | succ n ih =>
    intro p s out
    rw [fR]; split
    · split
      · have := ih (sw (numV s) ^^^ p) (numS s) (out ++ [sw (numV s) ^^^ p])
        rw [List.length_append, List.length_singleton] at this
        omega
      · simp
    · simp
theorem decR_len (l : List UInt8) (n : Int) : (decR l n).1.length ≤ l.length := by
  unfold decR; split
  · simp
  · split
    · simp
    · have := fR_len n.toNat 0 ⟨l, 0⟩ []
      simp at this; omega
/-- all that come out are words that may be -/
def Good (us : List Nat) : Prop := ∀ u ∈ us, u < 18446744073709551616 ∧ cn u = true
theorem good_nil : Good [] := fun u hu => by simp at hu
theorem good_snoc {us : List Nat} {u : Nat} (h : Good us) (hu : u < 18446744073709551616) (hc : cn u = true) : Good (us ++ [u]) := fun v hv => by
  rcases List.mem_append.1 hv with h1 | h1
  · exact h v h1
  · rw [List.mem_singleton.1 h1]; exact ⟨hu, hc⟩
theorem fR_good (n : Nat) : ∀ p s out, p < 18446744073709551616 → Good out → Good (fR n p s out).1 := by
  induction n with
  | zero => intro p s out _ h; rw [fR]; split; exact h; exact good_nil
  | succ n ih =>
    intro p s out hp h
    rw [fR]; split
    · split
      · rename_i hc; exact ih _ _ _ (xor_lt (sw_lt _) hp) (good_snoc h (xor_lt (sw_lt _) hp) hc)
      · exact good_nil
    · exact good_nil
theorem decR_good (l : List UInt8) (n : Int) : Good (decR l n).1 := by
  unfold decR; split
  · exact good_nil
  · split
    · exact good_nil
    · exact fR_good _ _ _ _ (by decide) good_nil
/-- an error has nothing -/
theorem fR_none (n : Nat) : ∀ p s out, (fR n p s out).2 ≠ 0 → (fR n p s out).1 = [] := by
  induction n with
  | zero => intro p s out h; rw [fR] at *; split at h <;> rename_i hd
            · exact absurd rfl h
            · rw [if_neg hd]
  | succ n ih =>
    intro p s out h
    rw [fR] at *
    split at h <;> rename_i h1
    · split at h <;> rename_i h2
      · rw [if_pos h1, if_pos h2]; exact ih _ _ _ h
      · rw [if_pos h1, if_neg h2]
    · rw [if_neg h1]
theorem decR_none {l : List UInt8} {n : Int} (h : (decR l n).2 ≠ 0) : (decR l n).1 = [] := by
  unfold decR at *; split at h <;> rename_i h1
  · rw [if_pos h1]
  · rw [if_neg h1]; split at h <;> rename_i h2
    · rw [if_pos h2]
    · rw [if_neg h2]; exact fR_none _ _ _ _ h
theorem xor_back (a b : Nat) : a ^^^ b ^^^ b = a := by rw [Nat.xor_assoc, Nat.xor_self, Nat.xor_zero]
theorem lst_lt {p : Nat} {us : List Nat} (hp : p < 18446744073709551616) (h : Words us) : lst p us < 18446744073709551616 := by
  induction us generalizing p with
  | nil => exact hp
  | cons u us ih => rw [lst_cons]; exact ih (h u (by simp)) (fun v hv => h v (by simp [hv]))
/-- what was encoded is decoded -/
theorem fR_enc (us : List Nat) : ∀ p R out, p < 18446744073709551616 → Good us → fR us.length p ⟨encS (dx p us) ++ R, 0⟩ out = fR 0 (lst p us) ⟨R, 0⟩ (out ++ us) := by
  induction us with
  | nil => intro p R out _ _; rw [List.append_nil]; rfl
  | cons u us ih =>
    intro p R out hp h
    obtain ⟨hu, hc⟩ := h u (by simp)
    obtain ⟨e1, e2⟩ := num_put (sw_lt (u ^^^ p)) (encS (dx u us) ++ R)
    have e3 : sw (sw (u ^^^ p)) ^^^ p = u := by rw [sw_sw _ (xor_lt hu hp), xor_back]
    have e4 : (⟨encS (dx p (u :: us)) ++ R, 0⟩ : St) = ⟨put (sw (u ^^^ p)) ++ (encS (dx u us) ++ R), 0⟩ := by
      rw [dx, encS_cons, List.append_assoc]
    rw [e4, List.length_cons, fR_go (by rw [e2]) (by rw [e1, e3]; exact hc), e1, e2, e3, ih u R _ hu (fun v hv => h v (by simp [hv])), lst_cons, List.append_assoc]
    rfl
theorem decR_enc (us : List Nat) (h : Good us) : decR (encR us) (us.length : Int) = (us, 0) := by
  have hl := (encR_len us).1
  rw [decR_in hl]
  have := fR_enc us 0 [] [] (by decide) h
  rw [List.append_nil] at this
  rw [encR, this, List.nil_append, fR_done (by rfl)]
/-- what was read was put -/
theorem num_front {l : List UInt8} (h : (numS ⟨l, 0⟩).e = 0) : l = put (numV ⟨l, 0⟩) ++ (numS ⟨l, 0⟩).l := by
  obtain ⟨f1, f2, f3⟩ := num_read h
  have h3 : (numS ⟨l, 0⟩).l = l.drop (l.length - (numS ⟨l, 0⟩).l.length) := by
    revert h
    unfold numS
    simp only [if_true]
    cases hr : rd l with
    | ok n u =>
      intro _
      simp only
      rw [List.length_drop]
      by_cases hu : u ≤ l.length
      · rw [show l.length - (l.length - u) = u by omega]
      · rw [List.drop_of_length_le (show l.length ≤ u by omega), List.drop_of_length_le (by omega)]
    | cut => intro h; simp at h
    | long => intro h; simp at h
  conv => lhs; rw [← List.take_append_drop (l.length - (numS ⟨l, 0⟩).l.length) l]
  rw [f1, ← h3]
/-- what was decoded was encoded -/
theorem enc_fR (n : Nat) : ∀ p l out us, p < 18446744073709551616 → fR n p ⟨l, 0⟩ out = (us, 0) → ∃ vs, us = out ++ vs ∧ vs.length = n ∧ encS (dx p vs) = l := by
  induction n with
  | zero =>
    intro p l out us _ h
    rw [fR] at h
    split at h <;> rename_i hd
    · injection h with h1 h2
      subst h1
      refine ⟨[], by simp, rfl, ?_⟩
      unfold doneV at hd
      simp at hd
      cases l with
      | nil => rfl
      | cons a l => simp at hd
    · injection h with h1 h2
      exact absurd h2 hd
  | succ n ih =>
    intro p l out us hp h
    by_cases he : (numS ⟨l, 0⟩).e = 0
    · cases hc : cn (sw (numV ⟨l, 0⟩) ^^^ p)
      · rw [fR_form he hc] at h; injection h with _ h2; cases h2
      · rw [fR_go he hc] at h
        have hf := num_front he
        have hv := numV_lt ⟨l, 0⟩
        obtain ⟨s, hs⟩ : ∃ s, s = numS ⟨l, 0⟩ := ⟨_, rfl⟩
        obtain ⟨v, hve⟩ : ∃ v, v = numV ⟨l, 0⟩ := ⟨_, rfl⟩
        rw [← hs, ← hve] at h hf
        rw [← hs] at he
        rw [← hve] at hv
        obtain ⟨s, e⟩ := s
        simp only at he hf
        subst he
        obtain ⟨vs, h1, h2, h3⟩ := ih _ _ _ _ (xor_lt (sw_lt _) hp) h
        refine ⟨(sw v ^^^ p) :: vs, by rw [h1, List.append_assoc]; rfl, by simp [h2], ?_⟩
        rw [dx, encS_cons, h3, xor_back, sw_sw v hv]
        exact hf.symm
    · rw [fR_err he] at h; injection h with _ h2; exact absurd h2 he
theorem enc_decR {l : List UInt8} {n : Int} (h : (decR l n).2 = 0) : ((decR l n).1.length : Int) = n ∧ encR (decR l n).1 = l := by
  have h' : decR l n = ((decR l n).1, 0) := by rw [← h]
  obtain ⟨us, hu⟩ : ∃ us, us = (decR l n).1 := ⟨_, rfl⟩
  rw [← hu] at h' ⊢
  unfold decR at h'
  split at h' <;> rename_i h1
  · injection h' with _ h2; cases h2
  · split at h' <;> rename_i h2
    · injection h' with _ h2; cases h2
    · obtain ⟨vs, g1, g2, g3⟩ := enc_fR _ _ _ _ _ (by decide) h'
      rw [List.nil_append] at g1
      subst g1
      exact ⟨by omega, g3⟩
end Go.Proofs.Ytjjbiepmfngipaa.Re
