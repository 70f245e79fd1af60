/-
  What a Reader answers, and what it is behind that: of the bytes that it has not read, and its error. No Go.
-/
import Derived.Test.YtcbkggjphoeceaaMa
namespace Go.Proofs.Ytcbkggjphoeceaa.Pk

/-- a Reader: the bytes not read, and the error -/
structure St where
  l : List UInt8
  e : Int

def numV (s : St) : Nat := if s.e = 0 then (match rd s.l with | .ok n _ => n | _ => 0) else 0
def numS (s : St) : St := if s.e = 0 then (match rd s.l with | .ok _ u => ⟨s.l.drop u, 0⟩ | .cut => ⟨s.l, 2⟩ | .long => ⟨s.l, 3⟩) else s
def fixV (s : St) : Nat := if s.e = 0 then (if s.l.length < 8 then 0 else num8 (s.l.take 8)) else 0
def fixS (s : St) : St := if s.e = 0 then (if s.l.length < 8 then ⟨s.l, 2⟩ else ⟨s.l.drop 8, 0⟩) else s
def takeV (n : Int) (s : St) : List UInt8 := if s.e = 0 then (if n < 0 ∨ (s.l.length : Int) < n then [] else s.l.take n.toNat) else []
def takeS (n : Int) (s : St) : St := if s.e = 0 then (if n < 0 ∨ (s.l.length : Int) < n then ⟨s.l, 2⟩ else ⟨s.l.drop n.toNat, 0⟩) else s
def doneV (s : St) : Int := if s.e = 0 then (if 0 < s.l.length then 5 else 0) else s.e

theorem num_err {s : St} (h : s.e ≠ 0) : numV s = 0 ∧ numS s = s := by simp [numV, numS, h]
theorem num_ok {s : St} {n u : Nat} (h : s.e = 0) (hr : rd s.l = .ok n u) : numV s = n ∧ numS s = ⟨s.l.drop u, 0⟩ := by simp [numV, numS, h, hr]
theorem num_cut {s : St} (h : s.e = 0) (hr : rd s.l = .cut) : numV s = 0 ∧ numS s = ⟨s.l, 2⟩ := by simp [numV, numS, h, hr]
theorem num_long {s : St} (h : s.e = 0) (hr : rd s.l = .long) : numV s = 0 ∧ numS s = ⟨s.l, 3⟩ := by simp [numV, numS, h, hr]
theorem fix_err {s : St} (h : s.e ≠ 0) : fixV s = 0 ∧ fixS s = s := by simp [fixV, fixS, h]
theorem fix_cut {s : St} (h : s.e = 0) (hl : s.l.length < 8) : fixV s = 0 ∧ fixS s = ⟨s.l, 2⟩ := by simp [fixV, fixS, h, hl]
theorem fix_ok {s : St} (h : s.e = 0) (hl : 8 ≤ s.l.length) : fixV s = num8 (s.l.take 8) ∧ fixS s = ⟨s.l.drop 8, 0⟩ := by
  have : ¬ s.l.length < 8 := by omega
  simp [fixV, fixS, h, this]
theorem take_err {n : Int} {s : St} (h : s.e ≠ 0) : takeV n s = [] ∧ takeS n s = s := by simp [takeV, takeS, h]
theorem take_cut {n : Int} {s : St} (h : s.e = 0) (hl : n < 0 ∨ (s.l.length : Int) < n) : takeV n s = [] ∧ takeS n s = ⟨s.l, 2⟩ := by
  unfold takeV takeS
  rw [if_pos h, if_pos h, if_pos hl, if_pos hl]
  exact ⟨rfl, rfl⟩
theorem take_ok {n : Int} {s : St} (h : s.e = 0) (hl : ¬(n < 0 ∨ (s.l.length : Int) < n)) : takeV n s = s.l.take n.toNat ∧ takeS n s = ⟨s.l.drop n.toNat, 0⟩ := by
  unfold takeV takeS
  rw [if_pos h, if_pos h, if_neg hl, if_neg hl]
  exact ⟨rfl, rfl⟩

theorem numV_lt (s : St) : numV s < 18446744073709551616 := by
  unfold numV
  split
  · cases h : rd s.l with
    | cut => simp
    | long => simp
    | ok n u => exact (rd_inv h).2.2.2.1
  · omega
theorem num8_lt8 (l : List UInt8) (h : l.length ≤ 8) : num8 l < 18446744073709551616 :=
  Nat.lt_of_lt_of_le (num8_lt l) (Nat.le_trans (Nat.pow_le_pow_right (by omega) h) (by omega))
theorem fixV_lt (s : St) : fixV s < 18446744073709551616 := by
  unfold fixV
  split
  · split
    · omega
    · exact num8_lt8 _ (by simp; omega)
  · omega

/-- it reads no more than it has -/
theorem numS_len (s : St) : (numS s).l.length ≤ s.l.length := by
  unfold numS
  split
  · cases rd s.l <;> simp
  · omega
theorem fixS_len (s : St) : (fixS s).l.length ≤ s.l.length := by
  unfold fixS; split
  · split <;> simp
  · omega
theorem takeS_len (n : Int) (s : St) : (takeS n s).l.length ≤ s.l.length := by
  unfold takeS; split
  · split <;> simp
  · omega

/-- its error is one of three -/
def Okay (s : St) : Prop := s.e = 0 ∨ s.e = 2 ∨ s.e = 3
theorem numS_okay {s : St} (h : Okay s) : Okay (numS s) := by
  unfold numS; split
  · cases rd s.l <;> simp [Okay]
  · exact h
theorem fixS_okay {s : St} (h : Okay s) : Okay (fixS s) := by
  unfold fixS; split
  · split <;> simp [Okay]
  · exact h
theorem takeS_okay {n : Int} {s : St} (h : Okay s) : Okay (takeS n s) := by
  unfold takeS; split
  · split <;> simp [Okay]
  · exact h

/-- where a document's Reader of s stands that is as far as st -/
theorem drop_at {s l : List UInt8} {k : Nat} (h : s.drop k = l) : l.length = s.length - k := by rw [← h, List.length_drop]
end Go.Proofs.Ytcbkggjphoeceaa.Pk
