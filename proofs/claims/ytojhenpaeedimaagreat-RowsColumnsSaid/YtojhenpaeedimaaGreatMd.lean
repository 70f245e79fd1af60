/-
 Plain mathematics of layer 4: signs, one behind the other. No Go.
-/
namespace Go.Proofs.YtojhenpaeedimaaGreat.Wd
/-- is there a byte from lo to hi at a place? -/
def inr (l : List UInt8) (k lo hi : Nat) : Bool := match l[k]? with | some b => decide (lo ≤ b.toNat) && decide (b.toNat ≤ hi) | none => false
theorem inr_none {l : List UInt8} {k lo hi : Nat} (h : l[k]? = none) : inr l k lo hi = false := by unfold inr; rw [h]
theorem inr_some {l : List UInt8} {k lo hi : Nat} {b : UInt8} (h : l[k]? = some b) : inr l k lo hi = (decide (lo ≤ b.toNat) && decide (b.toNat ≤ hi)) := by unfold inr; rw [h]
theorem inr_iff {l : List UInt8} {k lo hi : Nat} : inr l k lo hi = true ↔ ∃ b, l[k]? = some b ∧ lo ≤ b.toNat ∧ b.toNat ≤ hi := by
 cases h : l[k]? with
 | none => rw [inr_none h]; simp
 | some b => rw [inr_some h]; simp
theorem inr_lt {l : List UInt8} {k lo hi : Nat} (h : inr l k lo hi = true) : k < l.length := by
 obtain ⟨b, hb, _⟩ := inr_iff.1 h
 exact (List.getElem?_eq_some_iff.1 hb).1
theorem inr_drop {l : List UInt8} {k j lo hi : Nat} : inr (l.drop k) j lo hi = inr l (k + j) lo hi := by
 unfold inr; rw [List.getElem?_drop]
/-- the sign that the bytes begin with: how many bytes it has; 0: none does -/
def sgn (l : List UInt8) : Nat :=
 if inr l 0 0 127 then 1
 else if inr l 0 194 223 && inr l 1 128 191 then 2
 else if inr l 2 128 191 && ((inr l 0 224 224 && inr l 1 160 191) || (inr l 0 225 236 && inr l 1 128 191) || (inr l 0 238 239 && inr l 1 128 191) || (inr l 0 237 237 && inr l 1 128 159)) then 3
 else if inr l 2 128 191 && inr l 3 128 191 && ((inr l 0 240 240 && inr l 1 144 191) || (inr l 0 241 243 && inr l 1 128 191) || (inr l 0 244 244 && inr l 1 128 143)) then 4
 else 0
/-- which of the signs' forms the bytes begin with -/
inductive Sg (l : List UInt8) : Nat → Prop where
 | one : inr l 0 0 127 = true → Sg l 1
 | two : inr l 0 194 223 = true → inr l 1 128 191 = true → Sg l 2
 | three (a b c d : Nat) : inr l 2 128 191 = true → inr l 0 a b = true → inr l 1 c d = true → (a, b, c, d) ∈ [(224, 224, 160, 191), (225, 236, 128, 191), (238, 239, 128, 191), (237, 237, 128, 159)] → Sg l 3
 | four (a b c d : Nat) : inr l 2 128 191 = true → inr l 3 128 191 = true → inr l 0 a b = true → inr l 1 c d = true → (a, b, c, d) ∈ [(240, 240, 144, 191), (241, 243, 128, 191), (244, 244, 128, 143)] → Sg l 4
theorem sgn_cases (l : List UInt8) : sgn l = 0 ∨ Sg l (sgn l) := by
 unfold sgn
 by_cases h1 : inr l 0 0 127 = true
 ·rw [if_pos h1]; exact .inr (.one h1)
 ·rw [if_neg h1]
  by_cases h2 : (inr l 0 194 223 && inr l 1 128 191) = true
  ·rw [if_pos h2]
   simp only [Bool.and_eq_true] at h2
   exact .inr (.two h2.1 h2.2)
  ·rw [if_neg h2]
   by_cases h3 : (inr l 2 128 191 && ((inr l 0 224 224 && inr l 1 160 191) || (inr l 0 225 236 && inr l 1 128 191) || (inr l 0 238 239 && inr l 1 128 191) || (inr l 0 237 237 && inr l 1 128 159))) = true
   ·rw [if_pos h3]
    simp only [Bool.and_eq_true, Bool.or_eq_true] at h3
    obtain ⟨ha, ((hb | hb) | hb) | hb⟩ := h3
    ·exact .inr (.three 224 224 160 191 ha hb.1 hb.2 (by simp))
    ·exact .inr (.three 225 236 128 191 ha hb.1 hb.2 (by simp))
    ·exact .inr (.three 238 239 128 191 ha hb.1 hb.2 (by simp))
    ·exact .inr (.three 237 237 128 159 ha hb.1 hb.2 (by simp))
   ·rw [if_neg h3]
    by_cases h4 : (inr l 2 128 191 && inr l 3 128 191 && ((inr l 0 240 240 && inr l 1 144 191) || (inr l 0 241 243 && inr l 1 128 191) || (inr l 0 244 244 && inr l 1 128 143))) = true
    ·rw [if_pos h4]
     simp only [Bool.and_eq_true, Bool.or_eq_true] at h4
     obtain ⟨⟨ha, ha2⟩, (hb | hb) | hb⟩ := h4
     ·exact .inr (.four 240 240 144 191 ha ha2 hb.1 hb.2 (by simp))
     ·exact .inr (.four 241 243 128 191 ha ha2 hb.1 hb.2 (by simp))
     ·exact .inr (.four 244 244 128 143 ha ha2 hb.1 hb.2 (by simp))
    ·rw [if_neg h4]; exact .inl rfl
/-- a byte that is within one row of bounds is within no other that does not meet it -/
theorem inr_off {l : List UInt8} {k a b c d : Nat} (h : inr l k a b = true) (hd : b < c ∨ d < a) : inr l k c d = false := by
 obtain ⟨x, hx, h1, h2⟩ := inr_iff.1 h
 rw [inr_some hx]
 rw [Bool.and_eq_false_iff, decide_eq_false_iff_not, decide_eq_false_iff_not]
 omega
theorem sgn_of {l : List UInt8} {n : Nat} (h : Sg l n) : sgn l = n := by
 cases h with
 | one h => unfold sgn; rw [if_pos h]
 | two h1 h2 =>
  unfold sgn
  have e0 := inr_off (c := 0) (d := 127) h1 (by omega)
  simp [e0, h1, h2]
 | three a b c d h2 h0 h1 hm =>
  unfold sgn
  simp only [List.mem_cons, Prod.mk.injEq, List.not_mem_nil, or_false] at hm
  rcases hm with ⟨rfl, rfl, rfl, rfl⟩ | ⟨rfl, rfl, rfl, rfl⟩ | ⟨rfl, rfl, rfl, rfl⟩ | ⟨rfl, rfl, rfl, rfl⟩
  all_goals
   have e0 := inr_off (c := 0) (d := 127) h0 (by omega)
   have e1 := inr_off (c := 194) (d := 223) h0 (by omega)
   simp [e0, e1, h0, h1, h2]
 | four a b c d h2 h3 h0 h1 hm =>
  unfold sgn
  simp only [List.mem_cons, Prod.mk.injEq, List.not_mem_nil, or_false] at hm
  rcases hm with ⟨rfl, rfl, rfl, rfl⟩ | ⟨rfl, rfl, rfl, rfl⟩ | ⟨rfl, rfl, rfl, rfl⟩
  all_goals
   have e0 := inr_off (c := 0) (d := 127) h0 (by omega)
   have e1 := inr_off (c := 194) (d := 223) h0 (by omega)
   have e2 := inr_off (c := 224) (d := 224) h0 (by omega)
   have e3 := inr_off (c := 225) (d := 236) h0 (by omega)
   have e4 := inr_off (c := 238) (d := 239) h0 (by omega)
   have e5 := inr_off (c := 237) (d := 237) h0 (by omega)
   simp [e0, e1, e2, e3, e4, e5, h0, h1, h2, h3]
theorem sg_len {l : List UInt8} {n : Nat} (h : Sg l n) : 1 ≤ n ∧ n ≤ 4 ∧ n ≤ l.length := by
 cases h with
 | one h => have := inr_lt h; omega
 | two _ h => have := inr_lt h; omega
 | three _ _ _ _ h => have := inr_lt h; omega
 | four _ _ _ _ _ h => have := inr_lt h; omega
theorem sgn_le (l : List UInt8) : sgn l ≤ l.length ∧ sgn l ≤ 4 := by
 rcases sgn_cases l with h | h
 ·omega
 ·have := sg_len h; omega
theorem sgn_nil : sgn [] = 0 := by decide
/-- how many bytes are signs, one behind the other, and how many signs -/
def ends (l : List UInt8) : Nat := if _h : 0 < sgn l then sgn l + ends (l.drop (sgn l)) else 0
termination_by l.length
decreasing_by rw [List.length_drop]; have := sgn_le l; omega
def cnt (l : List UInt8) : Nat := if _h : 0 < sgn l then 1 + cnt (l.drop (sgn l)) else 0
termination_by l.length
decreasing_by rw [List.length_drop]; have := sgn_le l; omega
theorem ends_stop {l : List UInt8} (h : sgn l = 0) : ends l = 0 ∧ cnt l = 0 := by
 rw [ends, cnt, dif_neg (by omega), dif_neg (by omega)]; exact ⟨rfl, rfl⟩
theorem ends_step {l : List UInt8} {n : Nat} (h : sgn l = n) (hn : 0 < n) : ends l = n + ends (l.drop n) ∧ cnt l = 1 + cnt (l.drop n) := by
 subst h
 constructor
 ·rw [ends, dif_pos hn]
 ·rw [cnt, dif_pos hn]
theorem ends_nil : ends [] = 0 := (ends_stop sgn_nil).1
/-- an induction over signs -/
theorem sign_ind {P : List UInt8 → Prop} (h0 : ∀ l, sgn l = 0 → P l) (h1 : ∀ l, 0 < sgn l → P (l.drop (sgn l)) → P l) (l : List UInt8) : P l := by
 induction hn : l.length using Nat.strongRecOn generalizing l with
 | _ n ih =>
  by_cases h : 0 < sgn l
  ·refine h1 l h (ih _ ?_ _ rfl)
   have := sgn_le l
   rw [List.length_drop]
   omega
  ·exact h0 l (by omega)
theorem ends_le (l : List UInt8) : ends l ≤ l.length ∧ cnt l ≤ ends l := by
 induction l using sign_ind with
 | h0 l h => obtain ⟨a, b⟩ := ends_stop h; omega
 | h1 l h ih =>
  obtain ⟨a, b⟩ := ends_step rfl h
  have := sgn_le l
  rw [List.length_drop] at ih
  omega
def valid (l : List UInt8) : Bool := decide (ends l = l.length)
theorem valid_iff {l : List UInt8} : valid l = true ↔ ends l = l.length := by simp [valid]
/-- the bytes from the j-th to the more-th, the first of them within others than the rest -/
def chk (l : List UInt8) (lo hi : Nat) : Nat → Nat → Bool
 | _, 0 => true
 | j, k + 1 => inr l j lo hi && chk l 128 191 (j + 1) k
/-- a sign by its first byte: how many follow, and within which bounds the next one lies -/
def Lead (x more lo hi : Nat) : Prop :=
 (194 ≤ x ∧ x ≤ 223 ∧ more = 1 ∧ lo = 128 ∧ hi = 191) ∨ (x = 224 ∧ more = 2 ∧ lo = 160 ∧ hi = 191) ∨ (x = 237 ∧ more = 2 ∧ lo = 128 ∧ hi = 159) ∨
 (225 ≤ x ∧ x ≤ 239 ∧ x ≠ 237 ∧ more = 2 ∧ lo = 128 ∧ hi = 191) ∨ (x = 240 ∧ more = 3 ∧ lo = 144 ∧ hi = 191) ∨ (241 ≤ x ∧ x ≤ 243 ∧ more = 3 ∧ lo = 128 ∧ hi = 191) ∨ (x = 244 ∧ more = 3 ∧ lo = 128 ∧ hi = 143)
theorem sgn_ascii {l : List UInt8} {b : UInt8} (h : l[0]? = some b) (hb : b.toNat ≤ 127) : sgn l = 1 :=
 sgn_of (.one (inr_iff.2 ⟨b, h, by omega, hb⟩))
theorem sgn_bad {l : List UInt8} {b : UInt8} (h : l[0]? = some b) (h1 : (128 ≤ b.toNat ∧ b.toNat ≤ 193) ∨ 245 ≤ b.toNat) : sgn l = 0 := by
 have off : ∀ c d, (d < 128 ∨ (194 ≤ c ∧ d ≤ 244)) → inr l 0 c d = false := by
  intro c d hcd
  rw [inr_some h, Bool.and_eq_false_iff, decide_eq_false_iff_not, decide_eq_false_iff_not]
  omega
 unfold sgn
 simp [off 0 127, off 194 223, off 224 224, off 225 236, off 238 239, off 237 237, off 240 240, off 241 243, off 244 244]
theorem chk1 {l : List UInt8} {lo hi : Nat} : chk l lo hi 1 1 = inr l 1 lo hi := by simp [chk]
theorem chk2 {l : List UInt8} {lo hi : Nat} : chk l lo hi 1 2 = (inr l 1 lo hi && inr l 2 128 191) := by simp [chk]
theorem chk3 {l : List UInt8} {lo hi : Nat} : chk l lo hi 1 3 = (inr l 1 lo hi && (inr l 2 128 191 && inr l 3 128 191)) := by simp [chk]
theorem sgn_lead {l : List UInt8} {b : UInt8} {more lo hi : Nat} (h : l[0]? = some b) (hl : Lead b.toNat more lo hi) : sgn l = if chk l lo hi 1 more then more + 1 else 0 := by
 have on : ∀ c d, c ≤ b.toNat ∧ b.toNat ≤ d → inr l 0 c d = true := by
  intro c d hcd
  exact inr_iff.2 ⟨b, h, hcd.1, hcd.2⟩
 have off : ∀ c d, (d < b.toNat ∨ b.toNat < c) → inr l 0 c d = false := by
  intro c d hcd
  rw [inr_some h, Bool.and_eq_false_iff, decide_eq_false_iff_not, decide_eq_false_iff_not]
  omega
 rcases hl with ⟨h1, h2, rfl, rfl, rfl⟩ | ⟨h1, rfl, rfl, rfl⟩ | ⟨h1, rfl, rfl, rfl⟩ | ⟨h1, h2, h3, rfl, rfl, rfl⟩ | ⟨h1, rfl, rfl, rfl⟩ | ⟨h1, h2, rfl, rfl, rfl⟩ | ⟨h1, rfl, rfl, rfl⟩
 ·rw [chk1]
  unfold sgn
  simp only [off 0 127 (by omega), on 194 223 (by omega), off 224 224 (by omega), off 225 236 (by omega), off 238 239 (by omega), off 237 237 (by omega), off 240 240 (by omega), off 241 243 (by omega), off 244 244 (by omega)]
  cases inr l 1 128 191 <;> simp
 ·rw [chk2]
  unfold sgn
  simp only [off 0 127 (by omega), off 194 223 (by omega), on 224 224 (by omega), off 225 236 (by omega), off 238 239 (by omega), off 237 237 (by omega), off 240 240 (by omega), off 241 243 (by omega), off 244 244 (by omega)]
  cases inr l 1 160 191 <;> cases inr l 2 128 191 <;> simp
 ·rw [chk2]
  unfold sgn
  simp only [off 0 127 (by omega), off 194 223 (by omega), off 224 224 (by omega), off 225 236 (by omega), off 238 239 (by omega), on 237 237 (by omega), off 240 240 (by omega), off 241 243 (by omega), off 244 244 (by omega)]
  cases inr l 1 128 159 <;> cases inr l 2 128 191 <;> simp
 ·rw [chk2]
  unfold sgn
  rcases Nat.lt_or_ge b.toNat 237 with hq | hq
  ·simp only [off 0 127 (by omega), off 194 223 (by omega), off 224 224 (by omega), on 225 236 (by omega), off 238 239 (by omega), off 237 237 (by omega), off 240 240 (by omega), off 241 243 (by omega), off 244 244 (by omega)]
   cases inr l 1 128 191 <;> cases inr l 2 128 191 <;> simp
  ·simp only [off 0 127 (by omega), off 194 223 (by omega), off 224 224 (by omega), off 225 236 (by omega), on 238 239 (by omega), off 237 237 (by omega), off 240 240 (by omega), off 241 243 (by omega), off 244 244 (by omega)]
   cases inr l 1 128 191 <;> cases inr l 2 128 191 <;> simp
 ·rw [chk3]
  unfold sgn
  simp only [off 0 127 (by omega), off 194 223 (by omega), off 224 224 (by omega), off 225 236 (by omega), off 238 239 (by omega), off 237 237 (by omega), on 240 240 (by omega), off 241 243 (by omega), off 244 244 (by omega)]
  cases inr l 1 144 191 <;> cases inr l 2 128 191 <;> cases inr l 3 128 191 <;> simp
 ·rw [chk3]
  unfold sgn
  simp only [off 0 127 (by omega), off 194 223 (by omega), off 224 224 (by omega), off 225 236 (by omega), off 238 239 (by omega), off 237 237 (by omega), off 240 240 (by omega), on 241 243 (by omega), off 244 244 (by omega)]
  cases inr l 1 128 191 <;> cases inr l 2 128 191 <;> cases inr l 3 128 191 <;> simp
 ·rw [chk3]
  unfold sgn
  simp only [off 0 127 (by omega), off 194 223 (by omega), off 224 224 (by omega), off 225 236 (by omega), off 238 239 (by omega), off 237 237 (by omega), off 240 240 (by omega), off 241 243 (by omega), on 244 244 (by omega)]
  cases inr l 1 128 143 <;> cases inr l 2 128 191 <;> cases inr l 3 128 191 <;> simp
end Go.Proofs.YtojhenpaeedimaaGreat.Wd
