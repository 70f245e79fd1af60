/-
 What a Reader answers, and what it is behind that: of the bytes that it has not read, and its error. No Go.
 Contracts of the Reader's small functions.
 Contracts of the Reader's num and fix, which leave by a panic.
 What the Reader's recovering closures do.
 Contracts of read, at num, fix and Take: an error leaves by a panic, which is recovered and kept.
 Contracts of the Reader's methods: Num, Int, Fix, Take; of a nil Reader; and New.
-/
import Derived.Test.YtojhenpaeedimaaGreatBc
import Derived.Defers
import Derived.Recover
import Derived.Laws.Pointers
section
namespace Go.Proofs.YtojhenpaeedimaaGreat.Pk
/-- a Reader: the bytes not read, and the error -/
structure St where
 l : List UInt8
 e : Int
def numV (s : St) : Nat := if s.e = 0 then (match rd s.l with | .ok n _ => n | _ => 0) else 0
def numS (s : St) : St := if s.e = 0 then (match rd s.l with | .ok _ u => ⟨s.l.drop u, 0⟩ | .cut => ⟨s.l, 2⟩ | .long => ⟨s.l, 3⟩) else s
def takeV (n : Int) (s : St) : List UInt8 := if s.e = 0 then (if n < 0 ∨ (s.l.length : Int) < n then [] else s.l.take n.toNat) else []
def takeS (n : Int) (s : St) : St := if s.e = 0 then (if n < 0 ∨ (s.l.length : Int) < n then ⟨s.l, 2⟩ else ⟨s.l.drop n.toNat, 0⟩) else s
def doneV (s : St) : Int := if s.e = 0 then (if 0 < s.l.length then 5 else 0) else s.e
theorem num_err {s : St} (h : s.e ≠ 0) : numV s = 0 ∧ numS s = s := by simp [numV, numS, h]
theorem num_ok {s : St} {n u : Nat} (h : s.e = 0) (hr : rd s.l = .ok n u) : numV s = n ∧ numS s = ⟨s.l.drop u, 0⟩ := by simp [numV, numS, h, hr]
theorem num_cut {s : St} (h : s.e = 0) (hr : rd s.l = .cut) : numV s = 0 ∧ numS s = ⟨s.l, 2⟩ := by simp [numV, numS, h, hr]
theorem num_long {s : St} (h : s.e = 0) (hr : rd s.l = .long) : numV s = 0 ∧ numS s = ⟨s.l, 3⟩ := by simp [numV, numS, h, hr]
theorem take_err {n : Int} {s : St} (h : s.e ≠ 0) : takeV n s = [] ∧ takeS n s = s := by simp [takeV, takeS, h]
theorem take_cut {n : Int} {s : St} (h : s.e = 0) (hl : n < 0 ∨ (s.l.length : Int) < n) : takeV n s = [] ∧ takeS n s = ⟨s.l, 2⟩ := by
 unfold takeV takeS
 rw [if_pos h, if_pos h, if_pos hl, if_pos hl]
 exact ⟨rfl, rfl⟩
theorem take_ok {n : Int} {s : St} (h : s.e = 0) (hl : ¬(n < 0 ∨ (s.l.length : Int) < n)) : takeV n s = s.l.take n.toNat ∧ takeS n s = ⟨s.l.drop n.toNat, 0⟩ := by
 unfold takeV takeS
 rw [if_pos h, if_pos h, if_neg hl, if_neg hl]
 exact ⟨rfl, rfl⟩
theorem numV_lt (s : St) : numV s < 18446744073709551616 := by
 unfold numV
 split
 ·cases h : rd s.l with
  | cut => simp
  | long => simp
  | ok n u => exact (rd_inv h).2.2.2.1
 ·omega
/-- it reads no more than it has -/
theorem numS_len (s : St) : (numS s).l.length ≤ s.l.length := by
 unfold numS
 split
 ·cases rd s.l <;> simp
 ·omega
/-- where a document's Reader of s stands that is as far as st -/
theorem drop_at {s l : List UInt8} {k : Nat} (h : s.drop k = l) : l.length = s.length - k := by rw [← h, List.length_drop]
end Go.Proofs.YtojhenpaeedimaaGreat.Pk
end
section
namespace Go.Proofs.YtojhenpaeedimaaGreat
open Go.RowKit
open Pk
set_option maxRecDepth 100000
/-- a Reader in block g -/
def Rdr (w : World) (g : Nat) (s : St) : Prop := Is w g 132 [.string (ba s.l), .int .i64 s.e]
theorem rdr_rest {w : World} {g : Nat} {s : St} (h : Rdr w g s) : w.cell? ⟨g, 0, none⟩ = some (.string (ba s.l)) := is_cell h 0
theorem rdr_err {w : World} {g : Nat} {s : St} (h : Rdr w g s) : w.cell? ⟨g, 1, none⟩ = some (.int .i64 s.e) := is_cell h 1
theorem rdr_setRest {w : World} {g : Nat} {s : St} (h : Rdr w g s) (l : List UInt8) : Rdr (w.setCell ⟨g, 0, none⟩ (.string (ba l))) g ⟨l, s.e⟩ := is_set h 0 _
theorem rdr_setErr {w : World} {g : Nat} {s : St} (h : Rdr w g s) (e : Int) : Rdr (w.setCell ⟨g, 1, none⟩ (.int .i64 e)) g ⟨s.l, e⟩ := is_set h 1 _
theorem only_set (w : World) (g i : Nat) (u : Value) : w.grownBy (w.setCell ⟨g, i, none⟩ u) (some g) :=
 ⟨rfl, rfl, rfl, by simp [World.setCell], fun k _ hne => heap_setCell_other w ⟨g, i, none⟩ k u (fun e => hne (by rw [e]))⟩
theorem only_trans {a b c : World} {g : Nat} (h : a.grownBy b (some g)) (k : b.grownBy c (some g)) : a.grownBy c (some g) :=
 ⟨k.os.trans h.os, k.tape.trans h.tape, k.output.trans h.output, Nat.le_trans h.size k.size, fun i hi hne => (k.block i (Nat.lt_of_lt_of_le hi h.size) hne).trans (h.block i hi hne)⟩
theorem only_below {a b : World} (h : Below a.heap.size a b) (g : Nat) : a.grownBy b (some g) :=
 ⟨h.os, h.tape, h.output, h.size, fun i hi _ => h.block i hi⟩
theorem extract_take (l : List UInt8) (n : Nat) : (ba l).extract 0 n = ba (l.take n) := by
 apply ByteArray.ext
 rw [ByteArray.data_extract]
 simp [ba]
theorem extract_drop (l : List UInt8) (n : Nat) : (ba l).extract n l.length = ba (l.drop n) := by
 apply ByteArray.ext
 rw [ByteArray.data_extract]
 simp [ba, List.take_of_length_le]
theorem extract_mid (l : List UInt8) (a b : Nat) : (ba l).extract a b = ba ((l.take b).drop a) := by
 apply ByteArray.ext
 rw [ByteArray.data_extract]
 simp [ba, List.drop_take]
/-- what a panic of an error leaves -/
def dies (e : Int) : Ending := .panicked [{ v := .iface 27 (.int .i64 e), recovered := false }]
theorem left_c (g : Nat) (s : St) (w : World) (h : Rdr w g s) :
  Calls Tryz.prog 53 #[.pointer (some ⟨g, 0, none⟩)] w fun e w' => e = .returned (.int .i64 (s.l.length : Int)) ∧ w = w' := by
 have h0 := rdr_rest h
 have hs := ba_size s.l
 clear h
 go_enter Tryz.func53, Tryz.ntmps53
 go_wp2
 go_ret
 exact ⟨rfl, rfl⟩
theorem err_c (g : Nat) (s : St) (w : World) (h : Rdr w g s) :
  Calls Tryz.prog 54 #[.pointer (some ⟨g, 0, none⟩)] w fun e w' => e = .returned (.int .i64 s.e) ∧ w = w' := by
 have h0 := rdr_err h
 clear h
 go_enter Tryz.func54, Tryz.ntmps54
 go_wp2
 go_ret
 exact ⟨rfl, rfl⟩
theorem done_c (g : Nat) (s : St) (w : World) (h : Rdr w g s) :
  Calls Tryz.prog 91 #[.pointer (some ⟨g, 0, none⟩)] w fun e w' => e = .returned (.int .i64 (doneV s)) ∧ w = w' := by
 by_cases he : s.e = 0
 ·have hd : (s.e != 0) = false := by rw [he]; rfl
  by_cases hp : 0 < s.l.length
  ·have HV : Hid (doneV s = 5) := by unfold Hid doneV; rw [if_pos he, if_pos hp]
   clear he
   go_enter Tryz.func91, Tryz.ntmps91
   go_wp2_with (first
    | (go_at_call 54; refine (err_c g s _ h).mono ?_; rintro e wz ⟨rfl, rfl⟩)
    | (go_at_call 53; refine (left_c g s _ h).mono ?_; rintro e wz ⟨rfl, rfl⟩))
   go_ret
   exact ⟨ret_int HV.out.symm, rfl⟩
  ·have HV : Hid (doneV s = 0) := by unfold Hid doneV; rw [if_pos he, if_neg hp]
   clear he
   go_enter Tryz.func91, Tryz.ntmps91
   go_wp2_with (first
    | (go_at_call 54; refine (err_c g s _ h).mono ?_; rintro e wz ⟨rfl, rfl⟩)
    | (go_at_call 53; refine (left_c g s _ h).mono ?_; rintro e wz ⟨rfl, rfl⟩))
   go_ret
   exact ⟨ret_int HV.out.symm, rfl⟩
 ·have hd : (s.e != 0) = true := by simpa using he
  have HV : Hid (doneV s = s.e) := by unfold Hid doneV; rw [if_neg he]
  clear he
  go_enter Tryz.func91, Tryz.ntmps91
  go_wp2_with (go_at_call 54; refine (err_c g s _ h).mono ?_; rintro e wz ⟨rfl, rfl⟩)
  go_ret
  exact ⟨ret_int HV.out.symm, rfl⟩
theorem peek_in (g k : Nat) (b : UInt8) (s : St) (hk : k < s.l.length) (hb : s.l[k]? = some b) (w : World) (h : Rdr w g s) :
  Calls Tryz.prog 166 #[.pointer (some ⟨g, 0, none⟩), .int .i64 (k : Int)] w fun e w' => e = .returned (.int .u8 (b.toNat : Int)) ∧ w = w' := by
 have h0 := rdr_rest h
 have hs := ba_size s.l
 have HB := Lib.hid hb
 clear h hb
 go_enter Tryz.func166, Tryz.ntmps166
 go_wp2
 go_ret
 exact ⟨ret_int (by rw [ba_get HB.out]), rfl⟩
theorem peek_out (g k : Nat) (s : St) (hk : s.l.length ≤ k) (w : World) (h : Rdr w g s) :
  Calls Tryz.prog 166 #[.pointer (some ⟨g, 0, none⟩), .int .i64 (k : Int)] w fun e w' => e = .panicked [{ v := .iface 27 (.int .i64 2), recovered := false }] ∧ w = w' := by
 have h0 := rdr_rest h
 have hs := ba_size s.l
 clear h
 go_enter Tryz.func166, Tryz.ntmps166
 go_wp2
 exact ⟨rfl, rfl, rfl⟩
theorem take_in (g k : Nat) (n : Int) (hn : n = (k : Int)) (s : St) (hk : k ≤ s.l.length) (w : World) (h : Rdr w g s) :
  Calls Tryz.prog 106 #[.pointer (some ⟨g, 0, none⟩), .int .i64 n] w fun e w' => e = .returned (.string (ba (s.l.take k))) ∧ Rdr w' g ⟨s.l.drop k, s.e⟩ ∧ w.grownBy w' (some g) := by
 have h0 := rdr_rest h
 have hs := ba_size s.l
 have hf := is_free h 0
 have hx1 := extract_take s.l k
 have hx2 := extract_drop s.l k
 subst hn
 have HR := Lib.hid h
 clear h
 go_enter Tryz.func106, Tryz.ntmps106
 go_wp2
 go_ret
 exact ⟨rfl, rdr_setRest HR.out _, only_set _ _ _ _⟩
theorem take_out (g : Nat) (n : Int) (s : St) (hn : n < 0 ∨ (s.l.length : Int) < n) (w : World) (h : Rdr w g s) :
  Calls Tryz.prog 106 #[.pointer (some ⟨g, 0, none⟩), .int .i64 n] w fun e w' => e = .panicked [{ v := .iface 27 (.int .i64 2), recovered := false }] ∧ w = w' := by
 have h0 := rdr_rest h
 have hs := ba_size s.l
 clear h
 rcases hn with hn | hn
 ·go_enter Tryz.func106, Tryz.ntmps106
  go_wp2
  exact ⟨rfl, rfl, rfl⟩
 ·go_enter Tryz.func106, Tryz.ntmps106
  go_wp2
  exact ⟨rfl, rfl, rfl⟩
end Go.Proofs.YtojhenpaeedimaaGreat
end
section
namespace Go.Proofs.YtojhenpaeedimaaGreat
open Go.RowKit
open Pk
set_option maxRecDepth 100000
/-- how num ends at bytes that are read as r -/
def NumEnd (g : Nat) (s : St) (w : World) (r : Rd) (e : Ending) (w' : World) : Prop :=
 match r with
 | .cut => e = dies 2 ∧ w = w'
 | .long => e = dies 3 ∧ w = w'
 | .ok n u => e = .returned (.int .u64 (n : Int)) ∧ Rdr w' g ⟨s.l.drop u, s.e⟩ ∧ w.grownBy w' (some g)
theorem numEnd_cut {g : Nat} {s : St} {w : World} {r : Rd} (h : r = .cut) : NumEnd g s w r (dies 2) w := by subst h; exact ⟨rfl, rfl⟩
theorem numEnd_long {g : Nat} {s : St} {w : World} {r : Rd} (h : r = .long) : NumEnd g s w r (dies 3) w := by subst h; exact ⟨rfl, rfl⟩
theorem numEnd_ok {g : Nat} {s : St} {w w' : World} {r : Rd} {n u : Nat} {a : Int} (h : r = .ok n u) (ha : a = (n : Int)) (h1 : Rdr w' g ⟨s.l.drop u, s.e⟩) (h2 : w.grownBy w' (some g)) : NumEnd g s w r (.returned (.int .u64 a)) w' := by
 subst h; subst ha; exact ⟨rfl, h1, h2⟩
/-- a group of seven bits, laid behind those ahead -/
theorem or7 (acc c k N : Nat) (hk : k ≤ 9) (ha : acc < 128 ^ k) (hc : c % 128 * 128 ^ k < 18446744073709551616) (hN : N = acc + c % 128 * 128 ^ k) :
  bits BinOp.or IntKind.u64 (acc : Int) (IntKind.u64.wrap ((c : Int) % 128 * 2 ^ (7 * k))) = (N : Int) := by
 subst hN
 have h2 : (128 : Nat) ^ k = 2 ^ (7 * k) := by rw [Nat.pow_mul]
 have hp : 128 ^ k ≤ 128 ^ 9 := Nat.pow_le_pow_right (by omega) hk
 have e : (c : Int) % 128 * 2 ^ (7 * k) = ((c % 128 * 128 ^ k : Nat) : Int) := by rw [h2]; simp
 rw [e, IntKind.wrap_u64]
 have e2 : (((c % 128 * 128 ^ k : Nat) : Int) % 18446744073709551616) = ((c % 128 * 128 ^ k : Nat) : Int) := by omega
 rw [e2, u64_or_nat _ _ (by omega) hc, h2, or_add (by rw [← h2]; exact ha)]
set_option maxHeartbeats 1000000 in
theorem num_end (g : Nat) (s : St) (w : World) (h : Rdr w g s) :
  Calls Tryz.prog 108 #[.pointer (some ⟨g, 0, none⟩)] w fun e w' => NumEnd g s w (rd s.l) e w' := by
 go_enter Tryz.func108, Tryz.ntmps108
 go_wp2
 go_loop [3, 4, 5] (fun n i _ => ∃ k acc : Nat, k ≤ 9 ∧ i = .int .i64 (k : Int) ∧ n = .int .u64 (acc : Int) ∧ acc < 128 ^ k ∧ rdAt k acc (s.l.drop k) = rd s.l)
  (fun _ i _ => 10 - (Go.RowKit.intOf i).toNat)
 case atStart => exact ⟨0, 0, by omega, rfl, rfl, by simp, by simp [rd]⟩
 case round =>
  obtain ⟨k, acc, hk, rfl, rfl, ha, hrd⟩ := hrel
  have HA := Lib.hid ha
  have HR := Lib.hid hrd
  clear ha hrd
  by_cases hlt : k < s.l.length
  ·obtain ⟨b, hb⟩ : ∃ b, s.l[k]? = some b := ⟨_, List.getElem?_eq_getElem hlt⟩
   have HB := Lib.hid hb
   clear hb
   have hbb := b.toNat_lt
   obtain ⟨N, hN⟩ : ∃ N, N = acc + b.toNat % 128 * 128 ^ k := ⟨_, rfl⟩
   have HN := Lib.hid hN
   clear hN
   have hcase : (k = 9 ∧ 1 < b.toNat) ∨ (k = 9 ∧ b.toNat = 0) ∨ (k = 9 ∧ b.toNat = 1) ∨ (k = 0 ∧ b.toNat < 128) ∨ (k = 0 ∧ 128 ≤ b.toNat) ∨ (0 < k ∧ k < 9 ∧ b.toNat = 0) ∨ (0 < k ∧ k < 9 ∧ 0 < b.toNat ∧ b.toNat < 128) ∨ (0 < k ∧ k < 9 ∧ 128 ≤ b.toNat) := by omega
   rcases hcase with hq | hq | hq | hq | hq | hq | hq | hq
   ·have t1 : ((k : Int) == 9) = true := by simp; omega
    have t2 : decide (1 < (b.toNat : Int)) = true := by simp; omega
    have HQ : Hid ((k = 9 ∧ 1 < b.toNat) ∨ (0 < k ∧ b.toNat = 0)) := by unfold Hid; omega
    clear hq
    go_wp2_with (go_at_call 166; refine (peek_in g k b s hlt HB.out _ h).mono ?_; rintro e wz ⟨rfl, rfl⟩)
    exact ⟨rfl, numEnd_long (rd_step_long HB.out HR.out HQ.out)⟩
   ·have t1 : ((k : Int) == 9) = true := by simp; omega
    have t2 : decide (1 < (b.toNat : Int)) = false := by simp; omega
    have t3 : 0 < k := by omega
    have t4 : ((b.toNat : Int) == 0) = true := by simp; omega
    have HQ : Hid ((k = 9 ∧ 1 < b.toNat) ∨ (0 < k ∧ b.toNat = 0)) := by unfold Hid; omega
    clear hq
    go_wp2_with (go_at_call 166; refine (peek_in g k b s hlt HB.out _ h).mono ?_; rintro e wz ⟨rfl, rfl⟩)
    exact ⟨rfl, numEnd_long (rd_step_long HB.out HR.out HQ.out)⟩
   ·have t1 : ((k : Int) == 9) = true := by simp; omega
    have t2 : decide (1 < (b.toNat : Int)) = false := by simp; omega
    have t3 : 0 < k := by omega
    have t4 : ((b.toNat : Int) == 0) = false := by simp; omega
    have t5 : b.toNat < 128 := by omega
    have HQ : Hid (¬((k = 9 ∧ 1 < b.toNat) ∨ (0 < k ∧ b.toNat = 0)) ∧ b.toNat < 128) := by unfold Hid; omega
    have hor := or7 acc b.toNat k N hk HA.out (group_bd hk (by omega) (by omega)) HN.out
    clear hq
    go_wp2_with (first | (go_at_call 166; refine (peek_in g k b s hlt HB.out _ h).mono ?_; rintro e wz ⟨rfl, rfl⟩) | (go_at_call 106; refine (take_in g (k + 1) _ (by omega) s (by omega) _ h).mono ?_; rintro e wt ⟨rfl, hr1, ho1⟩))
    go_ret
    exact numEnd_ok (rd_step_ok HB.out HR.out HQ.out.1 HQ.out.2) (by rw [← HN.out]) hr1 ho1
   ·have t1 : ((k : Int) == 9) = false := by simp; omega
    have t3 : ¬ 0 < k := by omega
    have t5 : b.toNat < 128 := by omega
    have HQ : Hid (¬((k = 9 ∧ 1 < b.toNat) ∨ (0 < k ∧ b.toNat = 0)) ∧ b.toNat < 128) := by unfold Hid; omega
    have hor := or7 acc b.toNat k N hk HA.out (group_bd hk (by omega) (by omega)) HN.out
    clear hq
    go_wp2_with (first | (go_at_call 166; refine (peek_in g k b s hlt HB.out _ h).mono ?_; rintro e wz ⟨rfl, rfl⟩) | (go_at_call 106; refine (take_in g (k + 1) _ (by omega) s (by omega) _ h).mono ?_; rintro e wt ⟨rfl, hr1, ho1⟩))
    go_ret
    exact numEnd_ok (rd_step_ok HB.out HR.out HQ.out.1 HQ.out.2) (by rw [← HN.out]) hr1 ho1
   ·have t1 : ((k : Int) == 9) = false := by simp; omega
    have t3 : ¬ 0 < k := by omega
    have t5 : 128 ≤ b.toNat := by omega
    have HQ : Hid (¬((k = 9 ∧ 1 < b.toNat) ∨ (0 < k ∧ b.toNat = 0)) ∧ 128 ≤ b.toNat) := by unfold Hid; omega
    have hor := or7 acc b.toNat k N hk HA.out (group_bd hk (by omega) (by omega)) HN.out
    have hk8 : k ≤ 8 := by omega
    clear hq
    go_wp2_with (go_at_call 166; refine (peek_in g k b s hlt HB.out _ h).mono ?_; rintro e wz ⟨rfl, rfl⟩)
    go_round
    case rel => exact ⟨k + 1, N, by omega, by go_num, rfl, by rw [HN.out]; exact group_lt HA.out (by omega), by rw [HN.out]; exact rd_step_more HB.out HR.out HQ.out.1 HQ.out.2⟩
    case measure => simp [Go.RowKit.intOf]; omega
   ·have t1 : ((k : Int) == 9) = false := by simp; omega
    have t3 : 0 < k := by omega
    have t4 : ((b.toNat : Int) == 0) = true := by simp; omega
    have HQ : Hid ((k = 9 ∧ 1 < b.toNat) ∨ (0 < k ∧ b.toNat = 0)) := by unfold Hid; omega
    clear hq
    go_wp2_with (go_at_call 166; refine (peek_in g k b s hlt HB.out _ h).mono ?_; rintro e wz ⟨rfl, rfl⟩)
    exact ⟨rfl, numEnd_long (rd_step_long HB.out HR.out HQ.out)⟩
   ·have t1 : ((k : Int) == 9) = false := by simp; omega
    have t3 : 0 < k := by omega
    have t4 : ((b.toNat : Int) == 0) = false := by simp; omega
    have t5 : b.toNat < 128 := by omega
    have HQ : Hid (¬((k = 9 ∧ 1 < b.toNat) ∨ (0 < k ∧ b.toNat = 0)) ∧ b.toNat < 128) := by unfold Hid; omega
    have hor := or7 acc b.toNat k N hk HA.out (group_bd hk (by omega) (by omega)) HN.out
    clear hq
    go_wp2_with (first | (go_at_call 166; refine (peek_in g k b s hlt HB.out _ h).mono ?_; rintro e wz ⟨rfl, rfl⟩) | (go_at_call 106; refine (take_in g (k + 1) _ (by omega) s (by omega) _ h).mono ?_; rintro e wt ⟨rfl, hr1, ho1⟩))
    go_ret
    exact numEnd_ok (rd_step_ok HB.out HR.out HQ.out.1 HQ.out.2) (by rw [← HN.out]) hr1 ho1
   ·have t1 : ((k : Int) == 9) = false := by simp; omega
    have t3 : 0 < k := by omega
    have t4 : ((b.toNat : Int) == 0) = false := by simp; omega
    have t5 : 128 ≤ b.toNat := by omega
    have HQ : Hid (¬((k = 9 ∧ 1 < b.toNat) ∨ (0 < k ∧ b.toNat = 0)) ∧ 128 ≤ b.toNat) := by unfold Hid; omega
    have hor := or7 acc b.toNat k N hk HA.out (group_bd hk (by omega) (by omega)) HN.out
    have hk8 : k ≤ 8 := by omega
    clear hq
    go_wp2_with (go_at_call 166; refine (peek_in g k b s hlt HB.out _ h).mono ?_; rintro e wz ⟨rfl, rfl⟩)
    go_round
    case rel => exact ⟨k + 1, N, by omega, by go_num, rfl, by rw [HN.out]; exact group_lt HA.out (by omega), by rw [HN.out]; exact rd_step_more HB.out HR.out HQ.out.1 HQ.out.2⟩
    case measure => simp [Go.RowKit.intOf]; omega
  ·go_wp2_with (go_at_call 166; refine (peek_out g k s (by omega) _ h).mono ?_; rintro e wz ⟨rfl, rfl⟩)
   exact ⟨rfl, numEnd_cut (rd_step_cut (by omega) HR.out)⟩
end Go.Proofs.YtojhenpaeedimaaGreat
end
section
namespace Go.Proofs.YtojhenpaeedimaaGreat
open Go.RowKit
open Pk
set_option maxRecDepth 100000
theorem assert_errno (x : Int) (w : World) : (Instr.typeAssert (.iface 27 (.int .i64 x)) 20 27 true).run Tryz.prog w = .ok (.tuple #[.int .i64 x, .bool true]) w := by kernel_rfl
theorem assert_nil (w : World) : (Instr.typeAssert .nilIface 20 27 true).run Tryz.prog w = .ok (.tuple #[.int .i64 0, .bool false]) w := by kernel_rfl
theorem catch_num_panic (p : Addr) (g : Nat) (s : St) (x : Int) (older : List PanicEntry) (w : World) (hp : w.cell? p = some (.pointer (some ⟨g, 0, none⟩))) (h : Rdr w g s) :
  CallsD Tryz.prog 165 #[.pointer (some p)] (.panicking ({ v := .iface 27 (.int .i64 x), recovered := false } :: older)) w fun e u' w' =>
   e = .returned (.tuple #[]) ∧ u' = .panicking ({ v := .iface 27 (.int .i64 x), recovered := true } :: older) ∧ w' = w.setCell ⟨g, 1, none⟩ (.int .i64 x) := by
 have h1 := rdr_err h
 have hf := is_free h 1
 have hta := assert_errno x
 clear h
 refine callsD_of_wpS Tryz.func165 rfl fun c₀ cs hu => ?_
 rw [show (#[Value.pointer (some p)] ++ Array.replicate (Tryz.f165.ntmps - #[Value.pointer (some p)].size) undef) = #[Value.pointer (some p), undef, undef, undef, undef, undef, undef, undef, undef, undef, undef, undef, undef] from rfl]
 apply wpS_seq
 apply wpS_region
 simp [wpOpsS, go_sem, recoverD, hu, hta, Exit.thenS]
 apply wpS_seq
 apply wpS_region
 simp [wpOpsS, go_sem, Exit.thenS]
 refine wpS_cond (t := true) rfl ?_
 simp only [if_true]
 apply wpS_region
 simp [wpOpsS, go_sem, hp, h1, hf, bodyPostS, results, Tryz.results165]
theorem catch_num_idle (p : Addr) (w : World) :
  CallsD Tryz.prog 165 #[.pointer (some p)] .returning w fun e u' w' => e = .returned (.tuple #[]) ∧ u' = .returning ∧ w' = w := by
 have hta := assert_nil
 refine callsD_of_wpS Tryz.func165 rfl fun c₀ cs hu => ?_
 rw [show (#[Value.pointer (some p)] ++ Array.replicate (Tryz.f165.ntmps - #[Value.pointer (some p)].size) undef) = #[Value.pointer (some p), undef, undef, undef, undef, undef, undef, undef, undef, undef, undef, undef, undef] from rfl]
 apply wpS_seq
 apply wpS_region
 simp [wpOpsS, go_sem, recoverD, hu, hta, Exit.thenS]
 apply wpS_seq
 apply wpS_region
 simp [wpOpsS, go_sem, Exit.thenS]
 refine wpS_cond (t := false) rfl ?_
 simp only [Bool.false_eq_true, if_false]
 refine wpS_of_wp (wp_skip ?_)
 cases c₀
 simp_all [bodyPostS, results, Tryz.results165]
theorem catch_take_panic (p : Addr) (g : Nat) (s : St) (x : Int) (older : List PanicEntry) (w : World) (hp : w.cell? p = some (.pointer (some ⟨g, 0, none⟩))) (h : Rdr w g s) :
  CallsD Tryz.prog 164 #[.pointer (some p)] (.panicking ({ v := .iface 27 (.int .i64 x), recovered := false } :: older)) w fun e u' w' =>
   e = .returned (.tuple #[]) ∧ u' = .panicking ({ v := .iface 27 (.int .i64 x), recovered := true } :: older) ∧ w' = w.setCell ⟨g, 1, none⟩ (.int .i64 x) := by
 have h1 := rdr_err h
 have hf := is_free h 1
 have hta := assert_errno x
 clear h
 refine callsD_of_wpS Tryz.func164 rfl fun c₀ cs hu => ?_
 rw [show (#[Value.pointer (some p)] ++ Array.replicate (Tryz.f164.ntmps - #[Value.pointer (some p)].size) undef) = #[Value.pointer (some p), undef, undef, undef, undef, undef, undef, undef, undef, undef, undef, undef, undef] from rfl]
 apply wpS_seq
 apply wpS_region
 simp [wpOpsS, go_sem, recoverD, hu, hta, Exit.thenS]
 apply wpS_seq
 apply wpS_region
 simp [wpOpsS, go_sem, Exit.thenS]
 refine wpS_cond (t := true) rfl ?_
 simp only [if_true]
 apply wpS_region
 simp [wpOpsS, go_sem, hp, h1, hf, bodyPostS, results, Tryz.results164]
theorem catch_take_idle (p : Addr) (w : World) :
  CallsD Tryz.prog 164 #[.pointer (some p)] .returning w fun e u' w' => e = .returned (.tuple #[]) ∧ u' = .returning ∧ w' = w := by
 have hta := assert_nil
 refine callsD_of_wpS Tryz.func164 rfl fun c₀ cs hu => ?_
 rw [show (#[Value.pointer (some p)] ++ Array.replicate (Tryz.f164.ntmps - #[Value.pointer (some p)].size) undef) = #[Value.pointer (some p), undef, undef, undef, undef, undef, undef, undef, undef, undef, undef, undef, undef] from rfl]
 apply wpS_seq
 apply wpS_region
 simp [wpOpsS, go_sem, recoverD, hu, hta, Exit.thenS]
 apply wpS_seq
 apply wpS_region
 simp [wpOpsS, go_sem, Exit.thenS]
 refine wpS_cond (t := false) rfl ?_
 simp only [Bool.false_eq_true, if_false]
 refine wpS_of_wp (wp_skip ?_)
 cases c₀
 simp_all [bodyPostS, results, Tryz.results164]
end Go.Proofs.YtojhenpaeedimaaGreat
end
section
namespace Go.Proofs.YtojhenpaeedimaaGreat
open Go.RowKit
open Pk
set_option maxRecDepth 100000
theorem make_func : ∀ (fn : Fn) (first cap : Array Value) (w : World), (Instr.makeFunc fn first cap).run Tryz.prog w = .ok (.func fn first cap) w := fun _ _ _ _ => rfl
theorem boxed_rdr {g : Nat} {s : St} {w : World} (h : Rdr w g s) : Rdr (w.alloc (.cells #[.pointer (some ⟨g, 0, none⟩)] 73)) g s := is_alloc h _
theorem boxed_cell (g : Nat) (w : World) : (w.alloc (.cells #[.pointer (some ⟨g, 0, none⟩)] 73)).cell? ⟨w.heap.size, 0, none⟩ = some (.pointer (some ⟨g, 0, none⟩)) :=
 is_cell (is_new w 73 [.pointer (some ⟨g, 0, none⟩)]) 0
theorem boxed_below (g : Nat) (w : World) (o : Obj) : w.grownBy (w.alloc o) (some g) := only_below ((Below.refl _ _).alloc (Nat.le_refl _) _) g
theorem drop_rdr {w : World} {g : Nat} {s : St} {l : List UInt8} {e : Int} (h : Rdr w g ⟨l, s.e⟩) (he : s.e = e) : Rdr w g ⟨l, e⟩ := by subst he; exact h
theorem readNum_err (g : Nat) (s : St) (he : s.e ≠ 0) (w : World) (h : Rdr w g s) :
  Calls Tryz.prog 107 #[.pointer (some ⟨g, 0, none⟩), .func (Fn.func 108) #[.pointer (some ⟨g, 0, none⟩)] #[]] w fun e w' => e = .returned (.int .u64 0) ∧ Rdr w' g s ∧ w.grownBy w' (some g) := by
 have hd : (s.e != 0) = true := by simpa using he
 have h1 := boxed_rdr h
 clear he
 go_enter_defers Tryz.func107, Tryz.ntmps107
 go_wp2_with (go_at_call 54; refine (err_c g s _ h1).mono ?_; rintro e wz ⟨rfl, rfl⟩)
 exact ⟨_, results_tmp rfl _ _ _, rfl, h1, boxed_below g w _⟩
theorem readNum_ok (g : Nat) (s : St) (he : s.e = 0) (n u : Nat) (hrd : rd s.l = .ok n u) (w : World) (h : Rdr w g s) :
  Calls Tryz.prog 107 #[.pointer (some ⟨g, 0, none⟩), .func (Fn.func 108) #[.pointer (some ⟨g, 0, none⟩)] #[]] w fun e w' => e = .returned (.int .u64 (n : Int)) ∧ Rdr w' g ⟨s.l.drop u, 0⟩ ∧ w.grownBy w' (some g) := by
 have hd : (s.e != 0) = false := by simpa using he
 have h1 := boxed_rdr h
 have HE := Lib.hid he
 have HRD := Lib.hid hrd
 have hmf := make_func
 clear he hrd
 go_enter_defers Tryz.func107, Tryz.ntmps107
 go_wp2_with (first | (go_at_call 54; refine (err_c g s _ h1).mono ?_; rintro e wz ⟨rfl, rfl⟩) | (go_at_call 108; refine (num_end g s _ h1).mono ?_; intro e w2 hne; rw [HRD.out] at hne; obtain ⟨rfl, hr2, ho2⟩ := hne))
 refine leaves_cons (f := 165) (args := #[.pointer (some ⟨w.heap.size, 0, none⟩)]) (by simp) (by simp [go_sem]) ?_
 refine (catch_num_idle _ _).mono ?_
 rintro e u' w'' ⟨rfl, rfl, rfl⟩
 exact ⟨_, results_tmp rfl _ _ _, rfl, drop_rdr hr2 HE.out, only_trans (boxed_below g w _) ho2⟩
theorem readNum_die (g : Nat) (s : St) (he : s.e = 0) (x : Int) (hrd : (rd s.l = .cut ∧ x = 2) ∨ (rd s.l = .long ∧ x = 3)) (w : World) (h : Rdr w g s) :
  Calls Tryz.prog 107 #[.pointer (some ⟨g, 0, none⟩), .func (Fn.func 108) #[.pointer (some ⟨g, 0, none⟩)] #[]] w fun e w' => e = .returned (.int .u64 0) ∧ Rdr w' g ⟨s.l, x⟩ ∧ w.grownBy w' (some g) := by
 have hd : (s.e != 0) = false := by simpa using he
 have h1 := boxed_rdr h
 have hend : Calls Tryz.prog 108 #[.pointer (some ⟨g, 0, none⟩)] (w.alloc (.cells #[.pointer (some ⟨g, 0, none⟩)] 73)) fun e w' => e = .panicked [{ v := .iface 27 (.int .i64 x), recovered := false }] ∧ (w.alloc (.cells #[.pointer (some ⟨g, 0, none⟩)] 73)) = w' := by
  refine (num_end g s _ h1).mono ?_
  intro e w2 hne
  rcases hrd with ⟨hr, rfl⟩ | ⟨hr, rfl⟩
  all_goals
   rw [hr] at hne
   exact hne
 have hmf := make_func
 clear he hrd
 go_enter_defers Tryz.func107, Tryz.ntmps107
 go_wp2_with (first | (go_at_call 54; refine (err_c g s _ h1).mono ?_; rintro e wz ⟨rfl, rfl⟩) | (go_at_call 108; refine hend.mono ?_; rintro e w2 ⟨rfl, rfl⟩))
 refine leaves_cons (f := 165) (args := #[.pointer (some ⟨w.heap.size, 0, none⟩)]) (by simp) (by simp [go_sem]) ?_
 refine (catch_num_panic _ g s x [] _ (boxed_cell g w) h1).mono ?_
 rintro e u' w'' ⟨rfl, rfl, rfl⟩
 exact ⟨_, results_tmp rfl _ _ _, rfl, rdr_setErr h1 x, only_trans (boxed_below g w _) (only_set _ _ _ _)⟩
end Go.Proofs.YtojhenpaeedimaaGreat
end
section
namespace Go.Proofs.YtojhenpaeedimaaGreat
open Go.RowKit
open Pk
set_option maxRecDepth 100000
/-- a call that answers v and leaves the Reader of block g as s -/
def Done_ (w : World) (g : Nat) (s : St) (v : Value) (e : Ending) (w' : World) : Prop := e = .returned v ∧ Rdr w' g s ∧ w.grownBy w' (some g)
theorem done_ok {w w' : World} {g : Nat} {s t : St} {v u : Value} {e : Ending} (h : e = .returned u ∧ Rdr w' g t ∧ w.grownBy w' (some g)) (hv : u = v) (hs : t = s) : Done_ w g s v e w' := by
 subst hv; subst hs; exact h
theorem readNum_all (g : Nat) (s : St) (w : World) (h : Rdr w g s) :
  Calls Tryz.prog 107 #[.pointer (some ⟨g, 0, none⟩), .func (Fn.func 108) #[.pointer (some ⟨g, 0, none⟩)] #[]] w fun e w' => Done_ w g (numS s) (.int .u64 (numV s : Int)) e w' := by
 by_cases he : s.e = 0
 ·cases hr : rd s.l with
  | cut => exact (readNum_die g s he 2 (.inl ⟨hr, rfl⟩) w h).mono fun e w' hq => done_ok hq (by rw [(num_cut he hr).1]; rfl) (num_cut he hr).2.symm
  | long => exact (readNum_die g s he 3 (.inr ⟨hr, rfl⟩) w h).mono fun e w' hq => done_ok hq (by rw [(num_long he hr).1]; rfl) (num_long he hr).2.symm
  | ok n u => exact (readNum_ok g s he n u hr w h).mono fun e w' hq => done_ok hq (by rw [(num_ok he hr).1]) (num_ok he hr).2.symm
 ·exact (readNum_err g s he w h).mono fun e w' hq => done_ok hq (by rw [(num_err he).1]; rfl) (num_err he).2.symm
theorem num_m (g : Nat) (s : St) (w : World) (h : Rdr w g s) :
  Calls Tryz.prog 52 #[.pointer (some ⟨g, 0, none⟩)] w fun e w' => e = .returned (.int .u64 (numV s : Int)) ∧ Rdr w' g (numS s) ∧ w.grownBy w' (some g) := by
 have hmf := make_func
 go_enter Tryz.func52, Tryz.ntmps52
 go_wp2_with (go_at_call 107; refine (readNum_all g s _ h).mono ?_; rintro e w1 ⟨rfl, hr1, ho1⟩)
 go_ret
 exact ⟨rfl, hr1, ho1⟩
theorem int_m (g : Nat) (s : St) (w : World) (h : Rdr w g s) :
  Calls Tryz.prog 211 #[.pointer (some ⟨g, 0, none⟩)] w fun e w' => e = .returned (.int .i64 (zag (numV s))) ∧ Rdr w' g (numS s) ∧ w.grownBy w' (some g) := by
 have hb := numV_lt s
 go_enter Tryz.func211, Tryz.ntmps211
 go_wp2_with (first | (go_at_call 52; refine (num_m g s _ h).mono ?_; rintro e w1 ⟨rfl, hr1, ho1⟩) | (go_at_call 220; refine (zag_c _ hb _).mono ?_; rintro e wz ⟨rfl, rfl⟩))
 go_ret
 exact ⟨rfl, hr1, ho1⟩
/-- Take's own closure: what it captured is as it was -/
theorem takeFn_in (g k : Nat) (n : Int) (hn : n = (k : Int)) (s : St) (hk : k ≤ s.l.length) (p q : Addr) (w : World) (h : Rdr w g s) (hp : w.cell? p = some (.pointer (some ⟨g, 0, none⟩))) (hq : w.cell? q = some (.int .i64 n)) :
  Calls Tryz.prog 105 #[.pointer (some p), .pointer (some q)] w fun e w' => e = .returned (.string (ba (s.l.take k))) ∧ Rdr w' g ⟨s.l.drop k, s.e⟩ ∧ w.grownBy w' (some g) := by
 have HN := Lib.hid hn
 clear hn
 go_enter Tryz.func105, Tryz.ntmps105
 go_wp2_with (go_at_call 106; refine (take_in g k n HN.out s hk _ h).mono ?_; rintro e w1 ⟨rfl, hr1, ho1⟩)
 go_ret
 exact ⟨rfl, hr1, ho1⟩
theorem takeFn_out (g : Nat) (n : Int) (s : St) (hn : n < 0 ∨ (s.l.length : Int) < n) (p q : Addr) (w : World) (h : Rdr w g s) (hp : w.cell? p = some (.pointer (some ⟨g, 0, none⟩))) (hq : w.cell? q = some (.int .i64 n)) :
  Calls Tryz.prog 105 #[.pointer (some p), .pointer (some q)] w fun e w' => e = .panicked [{ v := .iface 27 (.int .i64 2), recovered := false }] ∧ w = w' := by
 have HN := Lib.hid hn
 clear hn
 go_enter Tryz.func105, Tryz.ntmps105
 go_wp2_with (go_at_call 106; refine (take_out g n s HN.out _ h).mono ?_; rintro e wz ⟨rfl, rfl⟩)
 exact ⟨rfl, rfl, rfl⟩
theorem size_alloc (w : World) (o : Obj) : (w.alloc o).heap.size = w.heap.size + 1 := by simp
theorem lt_of_cellB {w : World} {p : Addr} {v : Value} (h : w.cell? p = some v) : p.block < w.heap.size := World.block_lt_of_cell? w p h
theorem cell_boxed {w : World} {p : Addr} {v : Value} (h : w.cell? p = some v) (o : Obj) : (w.alloc o).cell? p = some v := by
 rw [World.cell?_alloc_lt w o p (lt_of_cellB h)]; exact h
theorem readTake_err (g : Nat) (s : St) (he : s.e ≠ 0) (p q : Addr) (w : World) (h : Rdr w g s) :
  Calls Tryz.prog 104 #[.pointer (some ⟨g, 0, none⟩), .func (Fn.func 105) #[] #[.pointer (some p), .pointer (some q)]] w fun e w' => e = .returned (.string (ba [])) ∧ Rdr w' g s ∧ w.grownBy w' (some g) := by
 have hd : (s.e != 0) = true := by simpa using he
 have h1 := boxed_rdr h
 clear he
 go_enter_defers Tryz.func104, Tryz.ntmps104
 go_wp2_with (go_at_call 54; refine (err_c g s _ h1).mono ?_; rintro e wz ⟨rfl, rfl⟩)
 exact ⟨_, results_tmp rfl _ _ _, rfl, h1, boxed_below g w _⟩
theorem readTake_ok (g k : Nat) (n : Int) (hn : n = (k : Int)) (s : St) (he : s.e = 0) (hk : k ≤ s.l.length) (p q : Addr) (w : World) (h : Rdr w g s) (hp : w.cell? p = some (.pointer (some ⟨g, 0, none⟩))) (hq : w.cell? q = some (.int .i64 n)) :
  Calls Tryz.prog 104 #[.pointer (some ⟨g, 0, none⟩), .func (Fn.func 105) #[] #[.pointer (some p), .pointer (some q)]] w fun e w' => e = .returned (.string (ba (s.l.take k))) ∧ Rdr w' g ⟨s.l.drop k, 0⟩ ∧ w.grownBy w' (some g) := by
 have hd : (s.e != 0) = false := by simpa using he
 have h1 := boxed_rdr h
 have hend := takeFn_in g k n hn s hk p q _ h1 (cell_boxed hp _) (cell_boxed hq _)
 have HE := Lib.hid he
 have HEND := Lib.hid hend
 have hmf := make_func
 clear he hend hn hp hq hk
 go_enter_defers Tryz.func104, Tryz.ntmps104
 go_wp2_with (first | (go_at_call 54; refine (err_c g s _ h1).mono ?_; rintro e wz ⟨rfl, rfl⟩) | (go_at_call 105; refine HEND.out.mono ?_; rintro e w2 ⟨rfl, hr2, ho2⟩))
 refine leaves_cons (f := 164) (args := #[.pointer (some ⟨w.heap.size, 0, none⟩)]) (by simp) (by simp [go_sem]) ?_
 refine (catch_take_idle _ _).mono ?_
 rintro e u' w'' ⟨rfl, rfl, rfl⟩
 exact ⟨_, results_tmp rfl _ _ _, rfl, drop_rdr hr2 HE.out, only_trans (boxed_below g w _) ho2⟩
theorem readTake_die (g : Nat) (n : Int) (s : St) (he : s.e = 0) (hn : n < 0 ∨ (s.l.length : Int) < n) (p q : Addr) (w : World) (h : Rdr w g s) (hp : w.cell? p = some (.pointer (some ⟨g, 0, none⟩))) (hq : w.cell? q = some (.int .i64 n)) :
  Calls Tryz.prog 104 #[.pointer (some ⟨g, 0, none⟩), .func (Fn.func 105) #[] #[.pointer (some p), .pointer (some q)]] w fun e w' => e = .returned (.string (ba [])) ∧ Rdr w' g ⟨s.l, 2⟩ ∧ w.grownBy w' (some g) := by
 have hd : (s.e != 0) = false := by simpa using he
 have h1 := boxed_rdr h
 have hend := takeFn_out g n s hn p q _ h1 (cell_boxed hp _) (cell_boxed hq _)
 have HEND := Lib.hid hend
 have hmf := make_func
 clear he hend hn hp hq
 go_enter_defers Tryz.func104, Tryz.ntmps104
 go_wp2_with (first | (go_at_call 54; refine (err_c g s _ h1).mono ?_; rintro e wz ⟨rfl, rfl⟩) | (go_at_call 105; refine HEND.out.mono ?_; rintro e w2 ⟨rfl, rfl⟩))
 refine leaves_cons (f := 164) (args := #[.pointer (some ⟨w.heap.size, 0, none⟩)]) (by simp) (by simp [go_sem]) ?_
 refine (catch_take_panic _ g s 2 [] _ (boxed_cell g w) h1).mono ?_
 rintro e u' w'' ⟨rfl, rfl, rfl⟩
 exact ⟨_, results_tmp rfl _ _ _, rfl, rdr_setErr h1 2, only_trans (boxed_below g w _) (only_set _ _ _ _)⟩
theorem readTake_all (g : Nat) (n : Int) (s : St) (p q : Addr) (w : World) (h : Rdr w g s) (hp : w.cell? p = some (.pointer (some ⟨g, 0, none⟩))) (hq : w.cell? q = some (.int .i64 n)) :
  Calls Tryz.prog 104 #[.pointer (some ⟨g, 0, none⟩), .func (Fn.func 105) #[] #[.pointer (some p), .pointer (some q)]] w fun e w' => Done_ w g (takeS n s) (.string (ba (takeV n s))) e w' := by
 by_cases he : s.e = 0
 ·by_cases hn : n < 0 ∨ (s.l.length : Int) < n
  ·exact (readTake_die g n s he hn p q w h hp hq).mono fun e w' hq => done_ok hq (by rw [(take_cut he hn).1]) (take_cut he hn).2.symm
  ·exact (readTake_ok g n.toNat n (by omega) s he (by omega) p q w h hp hq).mono fun e w' hq => done_ok hq (by rw [(take_ok he hn).1]) (take_ok he hn).2.symm
 ·exact (readTake_err g s he p q w h).mono fun e w' hq => done_ok hq (by rw [(take_err he).1]) (take_err he).2.symm
theorem take_m (g : Nat) (n : Int) (s : St) (w : World) (h : Rdr w g s) :
  Calls Tryz.prog 51 #[.pointer (some ⟨g, 0, none⟩), .int .i64 n] w fun e w' => e = .returned (.string (ba (takeV n s))) ∧ Rdr w' g (takeS n s) ∧ w.grownBy w' (some g) := by
 have hmf := make_func
 have h2 := is_alloc (boxed_rdr h) (.cells #[.int .i64 n] 3)
 have hp := cell_boxed (boxed_cell g w) (.cells #[.int .i64 n] 3)
 have hq := is_cell (is_new (w.alloc (.cells #[.pointer (some ⟨g, 0, none⟩)] 73)) 3 [.int .i64 n]) 0
 rw [size_alloc] at hq
 have HALL := Lib.hid (readTake_all g n s _ _ _ h2 hp hq)
 have ho := only_trans (boxed_below g w (.cells #[.pointer (some ⟨g, 0, none⟩)] 73)) (boxed_below g _ (.cells #[.int .i64 n] 3))
 clear h2 hp hq h
 go_enter Tryz.func51, Tryz.ntmps51
 go_wp2_with (go_at_call 104; refine HALL.out.mono ?_; rintro e w1 ⟨rfl, hr1, ho1⟩)
 go_ret
 exact ⟨rfl, hr1, only_trans ho ho1⟩
theorem new_c (l : List UInt8) (w : World) :
  Calls Tryz.prog 50 #[.string (ba l)] w fun e w' => e = .returned (.pointer (some ⟨w.heap.size, 0, none⟩)) ∧ Rdr w' w.heap.size ⟨l, 0⟩ ∧ w' = w.alloc (.cells #[.string (ba l), .int .i64 0] 132) := by
 go_enter Tryz.func50, Tryz.ntmps50
 go_wp2
 go_ret
 exact ⟨rfl, is_new w 132 [.string (ba l), .int .i64 0], rfl⟩
end Go.Proofs.YtojhenpaeedimaaGreat
end
