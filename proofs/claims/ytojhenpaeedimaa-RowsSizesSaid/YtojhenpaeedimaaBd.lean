/-
 What a Reader answers, and what it is behind that: of the bytes that it has not read, and its error. No Go.
 Contracts of the Reader's small functions.
-/
import Derived.Test.YtojhenpaeedimaaMa
import Derived.Test.YtojhenpaeedimaaBb
section
namespace Go.Proofs.Ytojhenpaeedimaa.Pk
/-- a Reader: the bytes not read, and the error -/
structure St where
 l : List UInt8
 e : Int
def numV (s : St) : Nat := if s.e = 0 then (match rd s.l with | .ok n _ => n | _ => 0) else 0
def numS (s : St) : St := if s.e = 0 then (match rd s.l with | .ok _ u => ⟨s.l.drop u, 0⟩ | .cut => ⟨s.l, 2⟩ | .long => ⟨s.l, 3⟩) else s
def fixV (s : St) : Nat := if s.e = 0 then (if s.l.length < 8 then 0 else num8 (s.l.take 8)) else 0
def fixS (s : St) : St := if s.e = 0 then (if s.l.length < 8 then ⟨s.l, 2⟩ else ⟨s.l.drop 8, 0⟩) else s
def takeV (n : Int) (s : St) : List UInt8 := if s.e = 0 then (if n < 0 ∨ (s.l.length : Int) < n then [] else s.l.take n.toNat) else []
def takeS (n : Int) (s : St) : St := if s.e = 0 then (if n < 0 ∨ (s.l.length : Int) < n then ⟨s.l, 2⟩ else ⟨s.l.drop n.toNat, 0⟩) else s
def doneV (s : St) : Int := if s.e = 0 then (if 0 < s.l.length then 5 else 0) else s.e
theorem num_err {s : St} (h : s.e ≠ 0) : numV s = 0 ∧ numS s = s := by simp [numV, numS, h]
theorem num_ok {s : St} {n u : Nat} (h : s.e = 0) (hr : rd s.l = .ok n u) : numV s = n ∧ numS s = ⟨s.l.drop u, 0⟩ := by simp [numV, numS, h, hr]
theorem num_cut {s : St} (h : s.e = 0) (hr : rd s.l = .cut) : numV s = 0 ∧ numS s = ⟨s.l, 2⟩ := by simp [numV, numS, h, hr]
theorem num_long {s : St} (h : s.e = 0) (hr : rd s.l = .long) : numV s = 0 ∧ numS s = ⟨s.l, 3⟩ := by simp [numV, numS, h, hr]
theorem fix_err {s : St} (h : s.e ≠ 0) : fixV s = 0 ∧ fixS s = s := by simp [fixV, fixS, h]
theorem fix_cut {s : St} (h : s.e = 0) (hl : s.l.length < 8) : fixV s = 0 ∧ fixS s = ⟨s.l, 2⟩ := by simp [fixV, fixS, h, hl]
theorem fix_ok {s : St} (h : s.e = 0) (hl : 8 ≤ s.l.length) : fixV s = num8 (s.l.take 8) ∧ fixS s = ⟨s.l.drop 8, 0⟩ := by
 have : ¬ s.l.length < 8 := by omega
 simp [fixV, fixS, h, this]
theorem take_err {n : Int} {s : St} (h : s.e ≠ 0) : takeV n s = [] ∧ takeS n s = s := by simp [takeV, takeS, h]
theorem take_cut {n : Int} {s : St} (h : s.e = 0) (hl : n < 0 ∨ (s.l.length : Int) < n) : takeV n s = [] ∧ takeS n s = ⟨s.l, 2⟩ := by
 unfold takeV takeS
 rw [if_pos h, if_pos h, if_pos hl, if_pos hl]
 exact ⟨rfl, rfl⟩
theorem take_ok {n : Int} {s : St} (h : s.e = 0) (hl : ¬(n < 0 ∨ (s.l.length : Int) < n)) : takeV n s = s.l.take n.toNat ∧ takeS n s = ⟨s.l.drop n.toNat, 0⟩ := by
 unfold takeV takeS
 rw [if_pos h, if_pos h, if_neg hl, if_neg hl]
 exact ⟨rfl, rfl⟩
theorem numV_lt (s : St) : numV s < 18446744073709551616 := by
 unfold numV
 split
 ·cases h : rd s.l with
  | cut => simp
  | long => simp
  | ok n u => exact (rd_inv h).2.2.2.1
 ·omega
theorem num8_lt8 (l : List UInt8) (h : l.length ≤ 8) : num8 l < 18446744073709551616 :=
 Nat.lt_of_lt_of_le (num8_lt l) (Nat.le_trans (Nat.pow_le_pow_right (by omega) h) (by omega))
theorem fixV_lt (s : St) : fixV s < 18446744073709551616 := by
 unfold fixV
 split
 ·split
  ·omega
  ·exact num8_lt8 _ (by simp; omega)
 ·omega
/-- it reads no more than it has -/
theorem numS_len (s : St) : (numS s).l.length ≤ s.l.length := by
 unfold numS
 split
 ·cases rd s.l <;> simp
 ·omega
/-- where a document's Reader of s stands that is as far as st -/
theorem drop_at {s l : List UInt8} {k : Nat} (h : s.drop k = l) : l.length = s.length - k := by rw [← h, List.length_drop]
end Go.Proofs.Ytojhenpaeedimaa.Pk
end
section
namespace Go.Proofs.Ytojhenpaeedimaa
open Go.RowKit
open Pk
set_option maxRecDepth 100000
/-- a Reader in block g -/
def Rdr (w : World) (g : Nat) (s : St) : Prop := Is w g 86 [.string (ba s.l), .int .i64 s.e]
theorem rdr_rest {w : World} {g : Nat} {s : St} (h : Rdr w g s) : w.cell? ⟨g, 0, none⟩ = some (.string (ba s.l)) := is_cell h 0
theorem rdr_err {w : World} {g : Nat} {s : St} (h : Rdr w g s) : w.cell? ⟨g, 1, none⟩ = some (.int .i64 s.e) := is_cell h 1
theorem rdr_setRest {w : World} {g : Nat} {s : St} (h : Rdr w g s) (l : List UInt8) : Rdr (w.setCell ⟨g, 0, none⟩ (.string (ba l))) g ⟨l, s.e⟩ := is_set h 0 _
theorem rdr_setErr {w : World} {g : Nat} {s : St} (h : Rdr w g s) (e : Int) : Rdr (w.setCell ⟨g, 1, none⟩ (.int .i64 e)) g ⟨s.l, e⟩ := is_set h 1 _
theorem only_set (w : World) (g i : Nat) (u : Value) : w.grownBy (w.setCell ⟨g, i, none⟩ u) (some g) :=
 ⟨rfl, rfl, rfl, by simp [World.setCell], fun k _ hne => heap_setCell_other w ⟨g, i, none⟩ k u (fun e => hne (by rw [e]))⟩
theorem only_trans {a b c : World} {g : Nat} (h : a.grownBy b (some g)) (k : b.grownBy c (some g)) : a.grownBy c (some g) :=
 ⟨k.os.trans h.os, k.tape.trans h.tape, k.output.trans h.output, Nat.le_trans h.size k.size, fun i hi hne => (k.block i (Nat.lt_of_lt_of_le hi h.size) hne).trans (h.block i hi hne)⟩
theorem only_below {a b : World} (h : Below a.heap.size a b) (g : Nat) : a.grownBy b (some g) :=
 ⟨h.os, h.tape, h.output, h.size, fun i hi _ => h.block i hi⟩
theorem extract_take (l : List UInt8) (n : Nat) : (ba l).extract 0 n = ba (l.take n) := by
 apply ByteArray.ext
 rw [ByteArray.data_extract]
 simp [ba]
theorem extract_drop (l : List UInt8) (n : Nat) : (ba l).extract n l.length = ba (l.drop n) := by
 apply ByteArray.ext
 rw [ByteArray.data_extract]
 simp [ba, List.take_of_length_le]
theorem extract_mid (l : List UInt8) (a b : Nat) : (ba l).extract a b = ba ((l.take b).drop a) := by
 apply ByteArray.ext
 rw [ByteArray.data_extract]
 simp [ba, List.drop_take]
/-- what a panic of an error leaves -/
def dies (e : Int) : Ending := .panicked [{ v := .iface 31 (.int .i64 e), recovered := false }]
theorem left_c (g : Nat) (s : St) (w : World) (h : Rdr w g s) :
  Calls Try.prog 59 #[.pointer (some ⟨g, 0, none⟩)] w fun e w' => e = .returned (.int .i64 (s.l.length : Int)) ∧ w = w' := by
 have h0 := rdr_rest h
 have hs := ba_size s.l
 clear h
 go_enter Try.func59, Try.ntmps59
 go_wp2
 go_ret
 exact ⟨rfl, rfl⟩
theorem err_c (g : Nat) (s : St) (w : World) (h : Rdr w g s) :
  Calls Try.prog 57 #[.pointer (some ⟨g, 0, none⟩)] w fun e w' => e = .returned (.int .i64 s.e) ∧ w = w' := by
 have h0 := rdr_err h
 clear h
 go_enter Try.func57, Try.ntmps57
 go_wp2
 go_ret
 exact ⟨rfl, rfl⟩
theorem done_c (g : Nat) (s : St) (w : World) (h : Rdr w g s) :
  Calls Try.prog 32 #[.pointer (some ⟨g, 0, none⟩)] w fun e w' => e = .returned (.int .i64 (doneV s)) ∧ w = w' := by
 by_cases he : s.e = 0
 ·have hd : (s.e != 0) = false := by rw [he]; rfl
  by_cases hp : 0 < s.l.length
  ·have HV : Hid (doneV s = 5) := by unfold Hid doneV; rw [if_pos he, if_pos hp]
   clear he
   go_enter Try.func32, Try.ntmps32
   go_wp2_with (first
    | (go_at_call 57; refine (err_c g s _ h).mono ?_; rintro e wz ⟨rfl, rfl⟩)
    | (go_at_call 59; refine (left_c g s _ h).mono ?_; rintro e wz ⟨rfl, rfl⟩))
   go_ret
   exact ⟨ret_int HV.out.symm, rfl⟩
  ·have HV : Hid (doneV s = 0) := by unfold Hid doneV; rw [if_pos he, if_neg hp]
   clear he
   go_enter Try.func32, Try.ntmps32
   go_wp2_with (first
    | (go_at_call 57; refine (err_c g s _ h).mono ?_; rintro e wz ⟨rfl, rfl⟩)
    | (go_at_call 59; refine (left_c g s _ h).mono ?_; rintro e wz ⟨rfl, rfl⟩))
   go_ret
   exact ⟨ret_int HV.out.symm, rfl⟩
 ·have hd : (s.e != 0) = true := by simpa using he
  have HV : Hid (doneV s = s.e) := by unfold Hid doneV; rw [if_neg he]
  clear he
  go_enter Try.func32, Try.ntmps32
  go_wp2_with (go_at_call 57; refine (err_c g s _ h).mono ?_; rintro e wz ⟨rfl, rfl⟩)
  go_ret
  exact ⟨ret_int HV.out.symm, rfl⟩
theorem peek_in (g k : Nat) (b : UInt8) (s : St) (hk : k < s.l.length) (hb : s.l[k]? = some b) (w : World) (h : Rdr w g s) :
  Calls Try.prog 95 #[.pointer (some ⟨g, 0, none⟩), .int .i64 (k : Int)] w fun e w' => e = .returned (.int .u8 (b.toNat : Int)) ∧ w = w' := by
 have h0 := rdr_rest h
 have hs := ba_size s.l
 have HB := Lib.hid hb
 clear h hb
 go_enter Try.func95, Try.ntmps95
 go_wp2
 go_ret
 exact ⟨ret_int (by rw [ba_get HB.out]), rfl⟩
theorem peek_out (g k : Nat) (s : St) (hk : s.l.length ≤ k) (w : World) (h : Rdr w g s) :
  Calls Try.prog 95 #[.pointer (some ⟨g, 0, none⟩), .int .i64 (k : Int)] w fun e w' => e = .panicked [{ v := .iface 31 (.int .i64 2), recovered := false }] ∧ w = w' := by
 have h0 := rdr_rest h
 have hs := ba_size s.l
 clear h
 go_enter Try.func95, Try.ntmps95
 go_wp2
 exact ⟨rfl, rfl, rfl⟩
theorem take_in (g k : Nat) (n : Int) (hn : n = (k : Int)) (s : St) (hk : k ≤ s.l.length) (w : World) (h : Rdr w g s) :
  Calls Try.prog 96 #[.pointer (some ⟨g, 0, none⟩), .int .i64 n] w fun e w' => e = .returned (.string (ba (s.l.take k))) ∧ Rdr w' g ⟨s.l.drop k, s.e⟩ ∧ w.grownBy w' (some g) := by
 have h0 := rdr_rest h
 have hs := ba_size s.l
 have hf := is_free h 0
 have hx1 := extract_take s.l k
 have hx2 := extract_drop s.l k
 subst hn
 have HR := Lib.hid h
 clear h
 go_enter Try.func96, Try.ntmps96
 go_wp2
 go_ret
 exact ⟨rfl, rdr_setRest HR.out _, only_set _ _ _ _⟩
theorem take_out (g : Nat) (n : Int) (s : St) (hn : n < 0 ∨ (s.l.length : Int) < n) (w : World) (h : Rdr w g s) :
  Calls Try.prog 96 #[.pointer (some ⟨g, 0, none⟩), .int .i64 n] w fun e w' => e = .panicked [{ v := .iface 31 (.int .i64 2), recovered := false }] ∧ w = w' := by
 have h0 := rdr_rest h
 have hs := ba_size s.l
 clear h
 rcases hn with hn | hn
 ·go_enter Try.func96, Try.ntmps96
  go_wp2
  exact ⟨rfl, rfl, rfl⟩
 ·go_enter Try.func96, Try.ntmps96
  go_wp2
  exact ⟨rfl, rfl, rfl⟩
end Go.Proofs.Ytojhenpaeedimaa
end
