/-
  Plain mathematics of layer 8: words of a list of texts, and their places. No Go.
-/
import Derived.Test.YtiehmeheilfocaaMr
import Derived.Test.YtiehmeheilfocaaMe
namespace Go.Proofs.Ytiehmeheilfocaa.Dc

abbrev Tx := List UInt8
/-- where t stands first; as many as there are, if it is not there -/
def ix (t : Tx) : List Tx → Nat
  | [] => 0
  | x :: r => if x = t then 0 else ix t r + 1
def add (a : List Tx) (t : Tx) : List Tx := if t ∈ a then a else a ++ [t]
/-- the words a, and those of l that are not among them -/
def ws : List Tx → List Tx → List Tx
  | a, [] => a
  | a, t :: r => ws (add a t) r
/-- the places of l's texts among the words a and those that follow -/
def pl : List Tx → List Tx → List Nat
  | _, [] => []
  | a, t :: r => ix t a :: pl (add a t) r

theorem ix_le (t : Tx) (r : List Tx) : ix t r ≤ r.length := by
  induction r with
  | nil => exact Nat.le_refl _
  | cons x r ih => rw [ix]; split <;> simp <;> omega
theorem ix_mem {t : Tx} {r : List Tx} (h : t ∈ r) : ix t r < r.length ∧ r[ix t r]? = some t := by
  induction r with
  | nil => simp at h
  | cons x r ih =>
    rw [ix]
    by_cases hx : x = t
    · rw [if_pos hx]; exact ⟨by simp, by simp [hx]⟩
    · rw [if_neg hx]
      have := ih (by rcases List.mem_cons.1 h with h | h; exact absurd h.symm hx; exact h)
      exact ⟨by simp; omega, by simpa using this.2⟩
theorem ix_not {t : Tx} {r : List Tx} (h : t ∉ r) : ix t r = r.length := by
  induction r with
  | nil => rfl
  | cons x r ih =>
    rw [ix, if_neg (fun e => h (by simp [e])), ih (fun e => h (by simp [e]))]; rfl
theorem ix_lt {t : Tx} {r : List Tx} : ix t r < r.length ↔ t ∈ r := by
  constructor
  · intro h
    apply Classical.byContradiction
    intro e
    rw [ix_not e] at h; omega
  · intro h; exact (ix_mem h).1
theorem ix_app {t : Tx} {a b : List Tx} (h : t ∈ a) : ix t (a ++ b) = ix t a := by
  induction a with
  | nil => simp at h
  | cons x a ih =>
    rw [List.cons_append, ix, ix]
    by_cases hx : x = t
    · rw [if_pos hx, if_pos hx]
    · rw [if_neg hx, if_neg hx, ih (by rcases List.mem_cons.1 h with h | h; exact absurd h.symm hx; exact h)]
theorem ix_app' {t : Tx} {a b : List Tx} (h : t ∉ a) : ix t (a ++ b) = a.length + ix t b := by
  induction a with
  | nil => simp
  | cons x a ih =>
    rw [List.cons_append, ix, if_neg (fun e => h (by simp [e])), ih (fun e => h (by simp [e])), List.length_cons]; omega
/-- where it was looked for up to k -/
theorem ix_step {t x : Tx} {r : List Tx} {k : Nat} (hk : r[k]? = some x) (hx : x ≠ t) (h : k + ix t (r.drop k) = ix t r) : (k + 1) + ix t (r.drop (k + 1)) = ix t r := by
  have hd : r.drop k = x :: r.drop (k + 1) := by
    obtain ⟨hlt, rfl⟩ := List.getElem?_eq_some_iff.1 hk
    exact List.drop_eq_getElem_cons hlt
  rw [hd, ix, if_neg hx] at h
  omega
theorem ix_here {t : Tx} {r : List Tx} {k : Nat} (hk : r[k]? = some t) (h : k + ix t (r.drop k) = ix t r) : k = ix t r := by
  have hd : r.drop k = t :: r.drop (k + 1) := by
    obtain ⟨hlt, rfl⟩ := List.getElem?_eq_some_iff.1 hk
    exact List.drop_eq_getElem_cons hlt
  rw [hd, ix, if_pos rfl] at h
  omega

theorem add_mem {a : List Tx} {t : Tx} (h : t ∈ a) : add a t = a := if_pos h
theorem add_not {a : List Tx} {t : Tx} (h : t ∉ a) : add a t = a ++ [t] := if_neg h
theorem add_in (a : List Tx) (t : Tx) : t ∈ add a t := by
  unfold add; split
  · assumption
  · simp
theorem add_pre (a : List Tx) (t : Tx) : ∃ b, add a t = a ++ b := by
  unfold add; split
  · exact ⟨[], by simp⟩
  · exact ⟨_, rfl⟩
theorem mem_add {a : List Tx} {t u : Tx} : u ∈ add a t ↔ u ∈ a ∨ u = t := by
  unfold add; split
  · rename_i h
    exact ⟨.inl, by rintro (h1 | rfl); exact h1; exact h⟩
  · simp
theorem add_nodup {a : List Tx} {t : Tx} (h : a.Nodup) : (add a t).Nodup := by
  unfold add; split
  · exact h
  · rename_i hn
    rw [List.nodup_append]
    exact ⟨h, by simp, by rintro x hx y hy rfl; simp at hy; subst hy; exact hn hx⟩
theorem add_len (a : List Tx) (t : Tx) : (add a t).length ≤ a.length + 1 := by
  unfold add; split <;> simp
theorem ix_add (a : List Tx) (t : Tx) : ix t (add a t) = ix t a := by
  by_cases h : t ∈ a
  · rw [add_mem h]
  · rw [add_not h, ix_app' h, ix_not h]; simp [ix]

theorem ws_cons (a : List Tx) (t : Tx) (r : List Tx) : ws a (t :: r) = ws (add a t) r := rfl
theorem ws_app (l m : List Tx) : ∀ a, ws a (l ++ m) = ws (ws a l) m := by
  induction l with
  | nil => intro a; rfl
  | cons t r ih => intro a; rw [List.cons_append, ws_cons, ih, ws_cons]
theorem pl_app (l m : List Tx) : ∀ a, pl a (l ++ m) = pl a l ++ pl (ws a l) m := by
  induction l with
  | nil => intro a; rfl
  | cons t r ih => intro a; rw [List.cons_append, pl, ih, pl, ws_cons]; rfl
theorem ws_take {l : List Tx} {k : Nat} {t : Tx} (h : l[k]? = some t) (a : List Tx) : ws a (l.take (k + 1)) = add (ws a (l.take k)) t := by
  rw [List.take_add_one, h, ws_app]; rfl
theorem pl_take {l : List Tx} {k : Nat} {t : Tx} (h : l[k]? = some t) (a : List Tx) : pl a (l.take (k + 1)) = pl a (l.take k) ++ [ix t (ws a (l.take k))] := by
  rw [List.take_add_one, h, pl_app]; rfl
theorem pl_len (l : List Tx) : ∀ a, (pl a l).length = l.length := by
  induction l with
  | nil => intro a; rfl
  | cons t r ih => intro a; rw [pl, List.length_cons, ih, List.length_cons]
theorem ws_pre (l : List Tx) : ∀ a, ∃ b, ws a l = a ++ b := by
  induction l with
  | nil => intro a; exact ⟨[], by simp [ws]⟩
  | cons t r ih =>
    intro a
    obtain ⟨b, hb⟩ := add_pre a t
    obtain ⟨c, hc⟩ := ih (add a t)
    exact ⟨b ++ c, by rw [ws_cons, hc, hb, List.append_assoc]⟩
theorem ws_nodup (l : List Tx) : ∀ a, a.Nodup → (ws a l).Nodup := by
  induction l with
  | nil => intro a h; exact h
  | cons t r ih => intro a h; rw [ws_cons]; exact ih _ (add_nodup h)
theorem mem_ws (l : List Tx) : ∀ a u, u ∈ ws a l ↔ u ∈ a ∨ u ∈ l := by
  induction l with
  | nil => intro a u; simp [ws]
  | cons t r ih =>
    intro a u
    rw [ws_cons, ih, mem_add, List.mem_cons]
    constructor
    · rintro ((h | h) | h)
      · exact .inl h
      · exact .inr (.inl h)
      · exact .inr (.inr h)
    · rintro (h | h | h)
      · exact .inl (.inl h)
      · exact .inl (.inr h)
      · exact .inr h
theorem ws_len (l : List Tx) : ∀ a, (ws a l).length ≤ a.length + l.length := by
  induction l with
  | nil => intro a; exact Nat.le_refl _
  | cons t r ih => intro a; have := ih (add a t); have := add_len a t; rw [ws_cons, List.length_cons]; omega
/-- words that are all of a list: each once -/
theorem ws_full (l : List Tx) : ∀ a, (ws a l).length = a.length + l.length → ws a l = a ++ l := by
  induction l with
  | nil => intro a _; simp [ws]
  | cons t r ih =>
    intro a h
    rw [ws_cons, List.length_cons] at h
    have h1 := ws_len r (add a t)
    have h2 := add_len a t
    have h3 := ih (add a t) (by omega)
    have h4 : (add a t).length = a.length + 1 := by omega
    have h5 : t ∉ a := fun e => by rw [add_mem e] at h4; omega
    rw [ws_cons, h3, add_not h5]; simp
theorem ws_self {l : List Tx} (h : l.Nodup) : ws [] l = l := by
  have : ∀ (l a : List Tx), (a ++ l).Nodup → ws a l = a ++ l := by
    intro l
    induction l with
    | nil => intro a _; simp [ws]
    | cons t r ih =>
      intro a h
      have hn : t ∉ a := by
        rw [List.nodup_append] at h
        intro e
        exact h.2.2 t e t (by simp) rfl
      rw [ws_cons, add_not hn, ih]
      · simp
      · simpa using h
  simpa using this l [] (by simpa using h)
theorem ws_nil_nodup (l : List Tx) : (ws [] l).Nodup := ws_nodup l [] (by simp)
/-- a text's place is where it stands first among the words -/
theorem ws_ix (l : List Tx) (a : List Tx) {t : Tx} (h : t ∈ a) : ix t (ws a l) = ix t a := by
  obtain ⟨b, hb⟩ := ws_pre l a
  rw [hb, ix_app h]
theorem pl_at (l : List Tx) : ∀ (a : List Tx) (k : Nat) (t : Tx), l[k]? = some t → (pl a l)[k]? = some (ix t (ws a l)) := by
  induction l with
  | nil => intro a k t h; simp at h
  | cons x r ih =>
    intro a k t h
    rw [pl, ws_cons]
    match k, h with
    | 0, h =>
      simp at h; subst h
      rw [ws_ix r _ (add_in a x), ix_add]
      rfl
    | k + 1, h => simpa using ih (add a x) k t (by simpa using h)

/-- P8.1: the texts at these places, behind out -/
def pk (words : List Tx) : List Tx → List Nat → List Tx × Bool
  | out, [] => (out, true)
  | out, i :: r => match words[i]? with
    | none => ([], false)
    | some t => pk words (out ++ [t]) r
theorem pk_nil (words out : List Tx) : pk words out [] = (out, true) := rfl
theorem pk_cons {words out : List Tx} {i : Nat} {r : List Nat} {t : Tx} (h : words[i]? = some t) : pk words out (i :: r) = pk words (out ++ [t]) r := by rw [pk, h]
theorem pk_none {words out : List Tx} {i : Nat} {r : List Nat} (h : words.length ≤ i) : pk words out (i :: r) = ([], false) := by rw [pk, List.getElem?_eq_none h]
theorem pk_ok (words : List Tx) (r : List Nat) : ∀ out l, pk words out r = (l, true) → ∃ m, l = out ++ m ∧ m.length = r.length ∧ ∀ (k i : Nat), r[k]? = some i → ∃ t, words[i]? = some t ∧ m[k]? = some t := by
  induction r with
  | nil => intro out l h; rw [pk_nil] at h; injection h with h _; exact ⟨[], by simp [h], rfl, by simp⟩
  | cons i r ih =>
    intro out l h
    rw [pk] at h
    split at h
    · simp at h
    · rename_i t ht
      obtain ⟨m, h1, h2, h3⟩ := ih _ _ h
      refine ⟨t :: m, by rw [h1]; simp, by simp [h2], fun k j hk => ?_⟩
      match k, hk with
      | 0, hk => simp at hk; subst hk; exact ⟨t, ht, rfl⟩
      | k + 1, hk => simpa using h3 k j (by simpa using hk)
theorem pk_len {words out : List Tx} {r : List Nat} : (pk words out r).1.length ≤ out.length + r.length := by
  induction r generalizing out with
  | nil => simp [pk]
  | cons i r ih =>
    rw [pk]
    split
    · simp
    · rename_i t _
      have := ih (out := out ++ [t])
      simp at this ⊢
      omega
/-- of places that are all there -/
theorem pk_all (words : List Tx) (r : List Nat) (h : ∀ i ∈ r, i < words.length) : ∀ out, ∃ m, pk words out r = (out ++ m, true) := by
  induction r with
  | nil => intro out; exact ⟨[], by simp [pk]⟩
  | cons i r ih =>
    intro out
    have hi := h i (by simp)
    obtain ⟨m, hm⟩ := ih (fun j hj => h j (by simp [hj])) (out ++ [words[i]])
    exact ⟨words[i] :: m, by rw [pk_cons (List.getElem?_eq_getElem hi), hm]; simp⟩

/-- the places of a list, from n words on: how many words there are behind them -/
def rs : Nat → List Nat → Option Nat
  | n, [] => some n
  | n, p :: r => if n < p then none else rs (if p = n then n + 1 else n) r
/-- P8.1: are these Words of a list? as the program asks -/
def mayW (words : List Tx) (at_ : List Nat) : Bool := decide ((ws [] words).length = words.length) && decide (rs 0 at_ = some words.length)
/-- .. as the document says -/
def MayD (words : List Tx) (at_ : List Nat) : Prop := ∃ l, pk words [] at_ = (l, true) ∧ ws [] l = words ∧ pl [] l = at_

theorem rs_pl (l : List Tx) : ∀ a, rs a.length (pl a l) = some (ws a l).length := by
  induction l with
  | nil => intro a; rfl
  | cons t r ih =>
    intro a
    have hle := ix_le t a
    rw [pl, rs, if_neg (by omega), ws_cons]
    by_cases h : t ∈ a
    · have := ix_lt.2 h
      rw [if_neg (by omega), add_mem h]
      have := ih a
      exact this
    · rw [if_pos (ix_not h), add_not h]
      have := ih (a ++ [t])
      simpa using this
theorem rs_ge (r : List Nat) : ∀ n m, rs n r = some m → n ≤ m := by
  induction r with
  | nil => intro n m h; simp [rs] at h; omega
  | cons p r ih =>
    intro n m h
    rw [rs] at h
    split at h
    · simp at h
    · have := ih _ _ h
      split at this <;> omega
theorem ix_take {words : List Tx} (h : words.Nodup) {p : Nat} (hp : p < words.length) : ∀ n, p < n → ix words[p] (words.take n) = p := by
  intro n hn
  have hm : words[p] ∈ words.take n := by
    rw [List.mem_take_iff_getElem]
    exact ⟨p, by omega, rfl⟩
  obtain ⟨h1, h2⟩ := ix_mem hm
  have h3 := h1
  rw [List.length_take] at h3
  rw [List.getElem?_take_of_lt (by omega)] at h2
  obtain ⟨h4, h5⟩ := List.getElem?_eq_some_iff.1 h2
  exact (List.getElem_inj h).1 h5
theorem rs_back {words : List Tx} (hw : words.Nodup) (r : List Nat) : ∀ n, n ≤ words.length → rs n r = some words.length → ∀ out, ∃ m, pk words out r = (out ++ m, true) ∧ ws (words.take n) m = words ∧ pl (words.take n) m = r := by
  induction r with
  | nil =>
    intro n _ h out
    simp [rs] at h
    subst h
    exact ⟨[], by simp [pk], by simp [ws], rfl⟩
  | cons p r ih =>
    intro n hn h out
    rw [rs] at h
    split at h
    · simp at h
    · rename_i hp
      have hge := rs_ge _ _ _ h
      have hpl : p < words.length := by split at hge <;> omega
      obtain ⟨m, h1, h2, h3⟩ := ih _ (by split <;> (split at hge <;> omega)) h (out ++ [words[p]])
      refine ⟨words[p] :: m, by rw [pk_cons (List.getElem?_eq_getElem hpl), h1]; simp, ?_, ?_⟩
      · rw [ws_cons]
        rw [show add (words.take n) words[p] = words.take (if p = n then n + 1 else n) from ?_]
        · exact h2
        · split
          · rename_i e
            subst e
            have hnm : words[p] ∉ words.take p := fun e => by
              rw [List.mem_take_iff_getElem] at e
              obtain ⟨i, hi, e⟩ := e
              have := (List.getElem_inj hw).1 e
              omega
            rw [add_not hnm, List.take_succ_eq_append_getElem hpl]
          · exact add_mem (by rw [List.mem_take_iff_getElem]; exact ⟨p, by omega, rfl⟩)
      · rw [pl]
        congr 1
        · split at h
          · rename_i e
            subst e
            have hnm : words[p] ∉ words.take p := fun e => by
              rw [List.mem_take_iff_getElem] at e
              obtain ⟨i, hi, e⟩ := e
              have := (List.getElem_inj hw).1 e
              omega
            rw [ix_not hnm, List.length_take]; omega
          · exact ix_take hw hpl n (by omega)
        · rw [show add (words.take n) words[p] = words.take (if p = n then n + 1 else n) from ?_]
          · exact h3
          · split
            · rename_i e
              subst e
              have hnm : words[p] ∉ words.take p := fun e => by
                rw [List.mem_take_iff_getElem] at e
                obtain ⟨i, hi, e⟩ := e
                have := (List.getElem_inj hw).1 e
                omega
              rw [add_not hnm, List.take_succ_eq_append_getElem hpl]
            · exact add_mem (by rw [List.mem_take_iff_getElem]; exact ⟨p, by omega, rfl⟩)
theorem full_nodup {words : List Tx} (h : (ws [] words).length = words.length) : words.Nodup := by
  have h1 := ws_full words [] (by simpa using h)
  have h2 := ws_nil_nodup words
  rw [h1] at h2
  simpa using h2
theorem may_iff (words : List Tx) (at_ : List Nat) : mayW words at_ = true ↔ MayD words at_ := by
  unfold mayW
  rw [Bool.and_eq_true, decide_eq_true_eq, decide_eq_true_eq]
  constructor
  · rintro ⟨h1, h2⟩
    obtain ⟨m, a, b, c⟩ := rs_back (full_nodup h1) at_ 0 (Nat.zero_le _) h2 []
    exact ⟨m, by simpa using a, by simpa using b, by simpa using c⟩
  · rintro ⟨l, _, rfl, rfl⟩
    exact ⟨by rw [ws_self (ws_nil_nodup l)], rs_pl l []⟩
/-- what is picked of a list's words at its places is the list -/
theorem pk_ws (l : List Tx) : pk (ws [] l) [] (pl [] l) = (l, true) := by
  have h : ∀ i ∈ pl [] l, i < (ws [] l).length := by
    intro i hi
    obtain ⟨k, hk, e⟩ := List.mem_iff_getElem.1 hi
    have hkl : k < l.length := by rwa [pl_len] at hk
    have := pl_at l [] k l[k] (List.getElem?_eq_getElem hkl)
    rw [List.getElem?_eq_getElem hk] at this
    injection this with this
    rw [← e, this]
    exact ix_lt.2 ((mem_ws l [] _).2 (.inr (List.getElem_mem hkl)))
  obtain ⟨m, hm⟩ := pk_all (ws [] l) (pl [] l) h []
  obtain ⟨m', h1, h2, h3⟩ := pk_ok (ws [] l) (pl [] l) [] _ hm
  have hmm : m = m' := by simpa using h1
  subst hmm
  rw [hm, List.nil_append]
  have : m = l := by
    apply List.ext_getElem?
    intro k
    by_cases hk : k < l.length
    · have h4 := pl_at l [] k l[k] (List.getElem?_eq_getElem hk)
      obtain ⟨t, h5, h6⟩ := h3 k _ h4
      have h7 := (ix_mem ((mem_ws l [] l[k]).2 (.inr (List.getElem_mem hk)))).2
      rw [h7] at h5
      injection h5 with h5
      rw [h6, ← h5, List.getElem?_eq_getElem hk]
    · rw [List.getElem?_eq_none (by rw [h2, pl_len]; omega), List.getElem?_eq_none (by omega)]
  rw [this]
theorem mayD_self (l : List Tx) : MayD (ws [] l) (pl [] l) := ⟨l, pk_ws l, rfl, rfl⟩
theorem mayW_self (l : List Tx) : mayW (ws [] l) (pl [] l) = true := (may_iff _ _).2 (mayD_self l)
end Go.Proofs.Ytiehmeheilfocaa.Dc
