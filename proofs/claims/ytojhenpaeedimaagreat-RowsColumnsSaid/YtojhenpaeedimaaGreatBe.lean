/-
 What a Reader answers, and what it is behind that: of the bytes that it has not read, and its error. No Go.
 Contracts of the Reader's small functions.
 Contracts of the Reader's num and fix, which leave by a panic.
-/
import Derived.Test.YtojhenpaeedimaaGreatBc
section
namespace Go.Proofs.YtojhenpaeedimaaGreat.Pk
/-- a Reader: the bytes not read, and the error -/
structure St where
 l : List UInt8
 e : Int
def numV (s : St) : Nat := if s.e = 0 then (match rd s.l with | .ok n _ => n | _ => 0) else 0
def numS (s : St) : St := if s.e = 0 then (match rd s.l with | .ok _ u => ⟨s.l.drop u, 0⟩ | .cut => ⟨s.l, 2⟩ | .long => ⟨s.l, 3⟩) else s
def fixV (s : St) : Nat := if s.e = 0 then (if s.l.length < 8 then 0 else num8 (s.l.take 8)) else 0
def fixS (s : St) : St := if s.e = 0 then (if s.l.length < 8 then ⟨s.l, 2⟩ else ⟨s.l.drop 8, 0⟩) else s
def takeV (n : Int) (s : St) : List UInt8 := if s.e = 0 then (if n < 0 ∨ (s.l.length : Int) < n then [] else s.l.take n.toNat) else []
def takeS (n : Int) (s : St) : St := if s.e = 0 then (if n < 0 ∨ (s.l.length : Int) < n then ⟨s.l, 2⟩ else ⟨s.l.drop n.toNat, 0⟩) else s
def doneV (s : St) : Int := if s.e = 0 then (if 0 < s.l.length then 5 else 0) else s.e
theorem num_err {s : St} (h : s.e ≠ 0) : numV s = 0 ∧ numS s = s := by simp [numV, numS, h]
theorem num_ok {s : St} {n u : Nat} (h : s.e = 0) (hr : rd s.l = .ok n u) : numV s = n ∧ numS s = ⟨s.l.drop u, 0⟩ := by simp [numV, numS, h, hr]
theorem num_cut {s : St} (h : s.e = 0) (hr : rd s.l = .cut) : numV s = 0 ∧ numS s = ⟨s.l, 2⟩ := by simp [numV, numS, h, hr]
theorem num_long {s : St} (h : s.e = 0) (hr : rd s.l = .long) : numV s = 0 ∧ numS s = ⟨s.l, 3⟩ := by simp [numV, numS, h, hr]
theorem fix_err {s : St} (h : s.e ≠ 0) : fixV s = 0 ∧ fixS s = s := by simp [fixV, fixS, h]
theorem fix_cut {s : St} (h : s.e = 0) (hl : s.l.length < 8) : fixV s = 0 ∧ fixS s = ⟨s.l, 2⟩ := by simp [fixV, fixS, h, hl]
theorem fix_ok {s : St} (h : s.e = 0) (hl : 8 ≤ s.l.length) : fixV s = num8 (s.l.take 8) ∧ fixS s = ⟨s.l.drop 8, 0⟩ := by
 have : ¬ s.l.length < 8 := by omega
 simp [fixV, fixS, h, this]
theorem take_err {n : Int} {s : St} (h : s.e ≠ 0) : takeV n s = [] ∧ takeS n s = s := by simp [takeV, takeS, h]
theorem take_cut {n : Int} {s : St} (h : s.e = 0) (hl : n < 0 ∨ (s.l.length : Int) < n) : takeV n s = [] ∧ takeS n s = ⟨s.l, 2⟩ := by
 unfold takeV takeS
 rw [if_pos h, if_pos h, if_pos hl, if_pos hl]
 exact ⟨rfl, rfl⟩
theorem take_ok {n : Int} {s : St} (h : s.e = 0) (hl : ¬(n < 0 ∨ (s.l.length : Int) < n)) : takeV n s = s.l.take n.toNat ∧ takeS n s = ⟨s.l.drop n.toNat, 0⟩ := by
 unfold takeV takeS
 rw [if_pos h, if_pos h, if_neg hl, if_neg hl]
 exact ⟨rfl, rfl⟩
theorem numV_lt (s : St) : numV s < 18446744073709551616 := by
 unfold numV
 split
 ·cases h : rd s.l with
  | cut => simp
  | long => simp
  | ok n u => exact (rd_inv h).2.2.2.1
 ·omega
theorem num8_lt8 (l : List UInt8) (h : l.length ≤ 8) : num8 l < 18446744073709551616 :=
 Nat.lt_of_lt_of_le (num8_lt l) (Nat.le_trans (Nat.pow_le_pow_right (by omega) h) (by omega))
theorem fixV_lt (s : St) : fixV s < 18446744073709551616 := by
 unfold fixV
 split
 ·split
  ·omega
  ·exact num8_lt8 _ (by simp; omega)
 ·omega
/-- it reads no more than it has -/
theorem numS_len (s : St) : (numS s).l.length ≤ s.l.length := by
 unfold numS
 split
 ·cases rd s.l <;> simp
 ·omega
end Go.Proofs.YtojhenpaeedimaaGreat.Pk
end
section
namespace Go.Proofs.YtojhenpaeedimaaGreat
open Go.RowKit
open Pk
set_option maxRecDepth 100000
/-- a Reader in block g -/
def Rdr (w : World) (g : Nat) (s : St) : Prop := Is w g 132 [.string (ba s.l), .int .i64 s.e]
theorem rdr_rest {w : World} {g : Nat} {s : St} (h : Rdr w g s) : w.cell? ⟨g, 0, none⟩ = some (.string (ba s.l)) := is_cell h 0
theorem rdr_err {w : World} {g : Nat} {s : St} (h : Rdr w g s) : w.cell? ⟨g, 1, none⟩ = some (.int .i64 s.e) := is_cell h 1
theorem rdr_setRest {w : World} {g : Nat} {s : St} (h : Rdr w g s) (l : List UInt8) : Rdr (w.setCell ⟨g, 0, none⟩ (.string (ba l))) g ⟨l, s.e⟩ := is_set h 0 _
theorem rdr_setErr {w : World} {g : Nat} {s : St} (h : Rdr w g s) (e : Int) : Rdr (w.setCell ⟨g, 1, none⟩ (.int .i64 e)) g ⟨s.l, e⟩ := is_set h 1 _
theorem only_set (w : World) (g i : Nat) (u : Value) : w.grownBy (w.setCell ⟨g, i, none⟩ u) (some g) :=
 ⟨rfl, rfl, rfl, by simp [World.setCell], fun k _ hne => heap_setCell_other w ⟨g, i, none⟩ k u (fun e => hne (by rw [e]))⟩
theorem only_trans {a b c : World} {g : Nat} (h : a.grownBy b (some g)) (k : b.grownBy c (some g)) : a.grownBy c (some g) :=
 ⟨k.os.trans h.os, k.tape.trans h.tape, k.output.trans h.output, Nat.le_trans h.size k.size, fun i hi hne => (k.block i (Nat.lt_of_lt_of_le hi h.size) hne).trans (h.block i hi hne)⟩
theorem only_below {a b : World} (h : Below a.heap.size a b) (g : Nat) : a.grownBy b (some g) :=
 ⟨h.os, h.tape, h.output, h.size, fun i hi _ => h.block i hi⟩
theorem extract_take (l : List UInt8) (n : Nat) : (ba l).extract 0 n = ba (l.take n) := by
 apply ByteArray.ext
 rw [ByteArray.data_extract]
 simp [ba]
theorem extract_drop (l : List UInt8) (n : Nat) : (ba l).extract n l.length = ba (l.drop n) := by
 apply ByteArray.ext
 rw [ByteArray.data_extract]
 simp [ba, List.take_of_length_le]
/-- what a panic of an error leaves -/
def dies (e : Int) : Ending := .panicked [{ v := .iface 27 (.int .i64 e), recovered := false }]
theorem left_c (g : Nat) (s : St) (w : World) (h : Rdr w g s) :
  Calls Tryz.prog 53 #[.pointer (some ⟨g, 0, none⟩)] w fun e w' => e = .returned (.int .i64 (s.l.length : Int)) ∧ w = w' := by
 have h0 := rdr_rest h
 have hs := ba_size s.l
 clear h
 go_enter Tryz.func53, Tryz.ntmps53
 go_wp2
 go_ret
 exact ⟨rfl, rfl⟩
theorem err_c (g : Nat) (s : St) (w : World) (h : Rdr w g s) :
  Calls Tryz.prog 54 #[.pointer (some ⟨g, 0, none⟩)] w fun e w' => e = .returned (.int .i64 s.e) ∧ w = w' := by
 have h0 := rdr_err h
 clear h
 go_enter Tryz.func54, Tryz.ntmps54
 go_wp2
 go_ret
 exact ⟨rfl, rfl⟩
theorem done_c (g : Nat) (s : St) (w : World) (h : Rdr w g s) :
  Calls Tryz.prog 91 #[.pointer (some ⟨g, 0, none⟩)] w fun e w' => e = .returned (.int .i64 (doneV s)) ∧ w = w' := by
 by_cases he : s.e = 0
 ·have hd : (s.e != 0) = false := by rw [he]; rfl
  by_cases hp : 0 < s.l.length
  ·have HV : Hid (doneV s = 5) := by unfold Hid doneV; rw [if_pos he, if_pos hp]
   clear he
   go_enter Tryz.func91, Tryz.ntmps91
   go_wp2_with (first
    | (go_at_call 54; refine (err_c g s _ h).mono ?_; rintro e wz ⟨rfl, rfl⟩)
    | (go_at_call 53; refine (left_c g s _ h).mono ?_; rintro e wz ⟨rfl, rfl⟩))
   go_ret
   exact ⟨ret_int HV.out.symm, rfl⟩
  ·have HV : Hid (doneV s = 0) := by unfold Hid doneV; rw [if_pos he, if_neg hp]
   clear he
   go_enter Tryz.func91, Tryz.ntmps91
   go_wp2_with (first
    | (go_at_call 54; refine (err_c g s _ h).mono ?_; rintro e wz ⟨rfl, rfl⟩)
    | (go_at_call 53; refine (left_c g s _ h).mono ?_; rintro e wz ⟨rfl, rfl⟩))
   go_ret
   exact ⟨ret_int HV.out.symm, rfl⟩
 ·have hd : (s.e != 0) = true := by simpa using he
  have HV : Hid (doneV s = s.e) := by unfold Hid doneV; rw [if_neg he]
  clear he
  go_enter Tryz.func91, Tryz.ntmps91
  go_wp2_with (go_at_call 54; refine (err_c g s _ h).mono ?_; rintro e wz ⟨rfl, rfl⟩)
  go_ret
  exact ⟨ret_int HV.out.symm, rfl⟩
theorem peek_in (g k : Nat) (b : UInt8) (s : St) (hk : k < s.l.length) (hb : s.l[k]? = some b) (w : World) (h : Rdr w g s) :
  Calls Tryz.prog 166 #[.pointer (some ⟨g, 0, none⟩), .int .i64 (k : Int)] w fun e w' => e = .returned (.int .u8 (b.toNat : Int)) ∧ w = w' := by
 have h0 := rdr_rest h
 have hs := ba_size s.l
 have HB := Lib.hid hb
 clear h hb
 go_enter Tryz.func166, Tryz.ntmps166
 go_wp2
 go_ret
 exact ⟨ret_int (by rw [ba_get HB.out]), rfl⟩
theorem peek_out (g k : Nat) (s : St) (hk : s.l.length ≤ k) (w : World) (h : Rdr w g s) :
  Calls Tryz.prog 166 #[.pointer (some ⟨g, 0, none⟩), .int .i64 (k : Int)] w fun e w' => e = .panicked [{ v := .iface 27 (.int .i64 2), recovered := false }] ∧ w = w' := by
 have h0 := rdr_rest h
 have hs := ba_size s.l
 clear h
 go_enter Tryz.func166, Tryz.ntmps166
 go_wp2
 exact ⟨rfl, rfl, rfl⟩
theorem take_in (g k : Nat) (n : Int) (hn : n = (k : Int)) (s : St) (hk : k ≤ s.l.length) (w : World) (h : Rdr w g s) :
  Calls Tryz.prog 106 #[.pointer (some ⟨g, 0, none⟩), .int .i64 n] w fun e w' => e = .returned (.string (ba (s.l.take k))) ∧ Rdr w' g ⟨s.l.drop k, s.e⟩ ∧ w.grownBy w' (some g) := by
 have h0 := rdr_rest h
 have hs := ba_size s.l
 have hf := is_free h 0
 have hx1 := extract_take s.l k
 have hx2 := extract_drop s.l k
 subst hn
 have HR := Lib.hid h
 clear h
 go_enter Tryz.func106, Tryz.ntmps106
 go_wp2
 go_ret
 exact ⟨rfl, rdr_setRest HR.out _, only_set _ _ _ _⟩
theorem take_out (g : Nat) (n : Int) (s : St) (hn : n < 0 ∨ (s.l.length : Int) < n) (w : World) (h : Rdr w g s) :
  Calls Tryz.prog 106 #[.pointer (some ⟨g, 0, none⟩), .int .i64 n] w fun e w' => e = .panicked [{ v := .iface 27 (.int .i64 2), recovered := false }] ∧ w = w' := by
 have h0 := rdr_rest h
 have hs := ba_size s.l
 clear h
 rcases hn with hn | hn
 ·go_enter Tryz.func106, Tryz.ntmps106
  go_wp2
  exact ⟨rfl, rfl, rfl⟩
 ·go_enter Tryz.func106, Tryz.ntmps106
  go_wp2
  exact ⟨rfl, rfl, rfl⟩
end Go.Proofs.YtojhenpaeedimaaGreat
end
section
namespace Go.Proofs.YtojhenpaeedimaaGreat
open Go.RowKit
open Pk
set_option maxRecDepth 100000
/-- how num ends at bytes that are read as r -/
def NumEnd (g : Nat) (s : St) (w : World) (r : Rd) (e : Ending) (w' : World) : Prop :=
 match r with
 | .cut => e = dies 2 ∧ w = w'
 | .long => e = dies 3 ∧ w = w'
 | .ok n u => e = .returned (.int .u64 (n : Int)) ∧ Rdr w' g ⟨s.l.drop u, s.e⟩ ∧ w.grownBy w' (some g)
theorem numEnd_cut {g : Nat} {s : St} {w : World} {r : Rd} (h : r = .cut) : NumEnd g s w r (dies 2) w := by subst h; exact ⟨rfl, rfl⟩
theorem numEnd_long {g : Nat} {s : St} {w : World} {r : Rd} (h : r = .long) : NumEnd g s w r (dies 3) w := by subst h; exact ⟨rfl, rfl⟩
theorem numEnd_ok {g : Nat} {s : St} {w w' : World} {r : Rd} {n u : Nat} {a : Int} (h : r = .ok n u) (ha : a = (n : Int)) (h1 : Rdr w' g ⟨s.l.drop u, s.e⟩) (h2 : w.grownBy w' (some g)) : NumEnd g s w r (.returned (.int .u64 a)) w' := by
 subst h; subst ha; exact ⟨rfl, h1, h2⟩
/-- a group of seven bits, laid behind those ahead -/
theorem or7 (acc c k N : Nat) (hk : k ≤ 9) (ha : acc < 128 ^ k) (hc : c % 128 * 128 ^ k < 18446744073709551616) (hN : N = acc + c % 128 * 128 ^ k) :
  bits BinOp.or IntKind.u64 (acc : Int) (IntKind.u64.wrap ((c : Int) % 128 * 2 ^ (7 * k))) = (N : Int) := by
 subst hN
 have h2 : (128 : Nat) ^ k = 2 ^ (7 * k) := by rw [Nat.pow_mul]
 have hp : 128 ^ k ≤ 128 ^ 9 := Nat.pow_le_pow_right (by omega) hk
 have e : (c : Int) % 128 * 2 ^ (7 * k) = ((c % 128 * 128 ^ k : Nat) : Int) := by rw [h2]; simp
 rw [e, IntKind.wrap_u64]
 have e2 : (((c % 128 * 128 ^ k : Nat) : Int) % 18446744073709551616) = ((c % 128 * 128 ^ k : Nat) : Int) := by omega
 rw [e2, u64_or_nat _ _ (by omega) hc, h2, or_add (by rw [← h2]; exact ha)]
set_option maxHeartbeats 1000000 in
theorem num_end (g : Nat) (s : St) (w : World) (h : Rdr w g s) :
  Calls Tryz.prog 108 #[.pointer (some ⟨g, 0, none⟩)] w fun e w' => NumEnd g s w (rd s.l) e w' := by
 go_enter Tryz.func108, Tryz.ntmps108
 go_wp2
 go_loop [3, 4, 5] (fun n i _ => ∃ k acc : Nat, k ≤ 9 ∧ i = .int .i64 (k : Int) ∧ n = .int .u64 (acc : Int) ∧ acc < 128 ^ k ∧ rdAt k acc (s.l.drop k) = rd s.l)
  (fun _ i _ => 10 - (Go.RowKit.intOf i).toNat)
 case atStart => exact ⟨0, 0, by omega, rfl, rfl, by simp, by simp [rd]⟩
 case round =>
  obtain ⟨k, acc, hk, rfl, rfl, ha, hrd⟩ := hrel
  have HA := Lib.hid ha
  have HR := Lib.hid hrd
  clear ha hrd
  by_cases hlt : k < s.l.length
  ·obtain ⟨b, hb⟩ : ∃ b, s.l[k]? = some b := ⟨_, List.getElem?_eq_getElem hlt⟩
   have HB := Lib.hid hb
   clear hb
   have hbb := b.toNat_lt
   obtain ⟨N, hN⟩ : ∃ N, N = acc + b.toNat % 128 * 128 ^ k := ⟨_, rfl⟩
   have HN := Lib.hid hN
   clear hN
   have hcase : (k = 9 ∧ 1 < b.toNat) ∨ (k = 9 ∧ b.toNat = 0) ∨ (k = 9 ∧ b.toNat = 1) ∨ (k = 0 ∧ b.toNat < 128) ∨ (k = 0 ∧ 128 ≤ b.toNat) ∨ (0 < k ∧ k < 9 ∧ b.toNat = 0) ∨ (0 < k ∧ k < 9 ∧ 0 < b.toNat ∧ b.toNat < 128) ∨ (0 < k ∧ k < 9 ∧ 128 ≤ b.toNat) := by omega
   rcases hcase with hq | hq | hq | hq | hq | hq | hq | hq
   ·have t1 : ((k : Int) == 9) = true := by simp; omega
    have t2 : decide (1 < (b.toNat : Int)) = true := by simp; omega
    have HQ : Hid ((k = 9 ∧ 1 < b.toNat) ∨ (0 < k ∧ b.toNat = 0)) := by unfold Hid; omega
    clear hq
    go_wp2_with (go_at_call 166; refine (peek_in g k b s hlt HB.out _ h).mono ?_; rintro e wz ⟨rfl, rfl⟩)
    exact ⟨rfl, numEnd_long (rd_step_long HB.out HR.out HQ.out)⟩
   ·have t1 : ((k : Int) == 9) = true := by simp; omega
    have t2 : decide (1 < (b.toNat : Int)) = false := by simp; omega
    have t3 : 0 < k := by omega
    have t4 : ((b.toNat : Int) == 0) = true := by simp; omega
    have HQ : Hid ((k = 9 ∧ 1 < b.toNat) ∨ (0 < k ∧ b.toNat = 0)) := by unfold Hid; omega
    clear hq
    go_wp2_with (go_at_call 166; refine (peek_in g k b s hlt HB.out _ h).mono ?_; rintro e wz ⟨rfl, rfl⟩)
    exact ⟨rfl, numEnd_long (rd_step_long HB.out HR.out HQ.out)⟩
   ·have t1 : ((k : Int) == 9) = true := by simp; omega
    have t2 : decide (1 < (b.toNat : Int)) = false := by simp; omega
    have t3 : 0 < k := by omega
    have t4 : ((b.toNat : Int) == 0) = false := by simp; omega
    have t5 : b.toNat < 128 := by omega
    have HQ : Hid (¬((k = 9 ∧ 1 < b.toNat) ∨ (0 < k ∧ b.toNat = 0)) ∧ b.toNat < 128) := by unfold Hid; omega
    have hor := or7 acc b.toNat k N hk HA.out (group_bd hk (by omega) (by omega)) HN.out
    clear hq
    go_wp2_with (first | (go_at_call 166; refine (peek_in g k b s hlt HB.out _ h).mono ?_; rintro e wz ⟨rfl, rfl⟩) | (go_at_call 106; refine (take_in g (k + 1) _ (by omega) s (by omega) _ h).mono ?_; rintro e wt ⟨rfl, hr1, ho1⟩))
    go_ret
    exact numEnd_ok (rd_step_ok HB.out HR.out HQ.out.1 HQ.out.2) (by rw [← HN.out]) hr1 ho1
   ·have t1 : ((k : Int) == 9) = false := by simp; omega
    have t3 : ¬ 0 < k := by omega
    have t5 : b.toNat < 128 := by omega
    have HQ : Hid (¬((k = 9 ∧ 1 < b.toNat) ∨ (0 < k ∧ b.toNat = 0)) ∧ b.toNat < 128) := by unfold Hid; omega
    have hor := or7 acc b.toNat k N hk HA.out (group_bd hk (by omega) (by omega)) HN.out
    clear hq
    go_wp2_with (first | (go_at_call 166; refine (peek_in g k b s hlt HB.out _ h).mono ?_; rintro e wz ⟨rfl, rfl⟩) | (go_at_call 106; refine (take_in g (k + 1) _ (by omega) s (by omega) _ h).mono ?_; rintro e wt ⟨rfl, hr1, ho1⟩))
    go_ret
    exact numEnd_ok (rd_step_ok HB.out HR.out HQ.out.1 HQ.out.2) (by rw [← HN.out]) hr1 ho1
   ·have t1 : ((k : Int) == 9) = false := by simp; omega
    have t3 : ¬ 0 < k := by omega
    have t5 : 128 ≤ b.toNat := by omega
    have HQ : Hid (¬((k = 9 ∧ 1 < b.toNat) ∨ (0 < k ∧ b.toNat = 0)) ∧ 128 ≤ b.toNat) := by unfold Hid; omega
    have hor := or7 acc b.toNat k N hk HA.out (group_bd hk (by omega) (by omega)) HN.out
    have hk8 : k ≤ 8 := by omega
    clear hq
    go_wp2_with (go_at_call 166; refine (peek_in g k b s hlt HB.out _ h).mono ?_; rintro e wz ⟨rfl, rfl⟩)
    go_round
    case rel => exact ⟨k + 1, N, by omega, by go_num, rfl, by rw [HN.out]; exact group_lt HA.out (by omega), by rw [HN.out]; exact rd_step_more HB.out HR.out HQ.out.1 HQ.out.2⟩
    case measure => simp [Go.RowKit.intOf]; omega
   ·have t1 : ((k : Int) == 9) = false := by simp; omega
    have t3 : 0 < k := by omega
    have t4 : ((b.toNat : Int) == 0) = true := by simp; omega
    have HQ : Hid ((k = 9 ∧ 1 < b.toNat) ∨ (0 < k ∧ b.toNat = 0)) := by unfold Hid; omega
    clear hq
    go_wp2_with (go_at_call 166; refine (peek_in g k b s hlt HB.out _ h).mono ?_; rintro e wz ⟨rfl, rfl⟩)
    exact ⟨rfl, numEnd_long (rd_step_long HB.out HR.out HQ.out)⟩
   ·have t1 : ((k : Int) == 9) = false := by simp; omega
    have t3 : 0 < k := by omega
    have t4 : ((b.toNat : Int) == 0) = false := by simp; omega
    have t5 : b.toNat < 128 := by omega
    have HQ : Hid (¬((k = 9 ∧ 1 < b.toNat) ∨ (0 < k ∧ b.toNat = 0)) ∧ b.toNat < 128) := by unfold Hid; omega
    have hor := or7 acc b.toNat k N hk HA.out (group_bd hk (by omega) (by omega)) HN.out
    clear hq
    go_wp2_with (first | (go_at_call 166; refine (peek_in g k b s hlt HB.out _ h).mono ?_; rintro e wz ⟨rfl, rfl⟩) | (go_at_call 106; refine (take_in g (k + 1) _ (by omega) s (by omega) _ h).mono ?_; rintro e wt ⟨rfl, hr1, ho1⟩))
    go_ret
    exact numEnd_ok (rd_step_ok HB.out HR.out HQ.out.1 HQ.out.2) (by rw [← HN.out]) hr1 ho1
   ·have t1 : ((k : Int) == 9) = false := by simp; omega
    have t3 : 0 < k := by omega
    have t4 : ((b.toNat : Int) == 0) = false := by simp; omega
    have t5 : 128 ≤ b.toNat := by omega
    have HQ : Hid (¬((k = 9 ∧ 1 < b.toNat) ∨ (0 < k ∧ b.toNat = 0)) ∧ 128 ≤ b.toNat) := by unfold Hid; omega
    have hor := or7 acc b.toNat k N hk HA.out (group_bd hk (by omega) (by omega)) HN.out
    have hk8 : k ≤ 8 := by omega
    clear hq
    go_wp2_with (go_at_call 166; refine (peek_in g k b s hlt HB.out _ h).mono ?_; rintro e wz ⟨rfl, rfl⟩)
    go_round
    case rel => exact ⟨k + 1, N, by omega, by go_num, rfl, by rw [HN.out]; exact group_lt HA.out (by omega), by rw [HN.out]; exact rd_step_more HB.out HR.out HQ.out.1 HQ.out.2⟩
    case measure => simp [Go.RowKit.intOf]; omega
  ·go_wp2_with (go_at_call 166; refine (peek_out g k s (by omega) _ h).mono ?_; rintro e wz ⟨rfl, rfl⟩)
   exact ⟨rfl, numEnd_cut (rd_step_cut (by omega) HR.out)⟩
end Go.Proofs.YtojhenpaeedimaaGreat
end
