/-
  Contracts of the Reader's small functions.
-/
import Derived.Test.YtcbkggjphoeceaaBa
import Derived.Test.YtcbkggjphoeceaaMb
namespace Go.Proofs.Ytcbkggjphoeceaa
open Go.RowKit
open Pk
set_option maxRecDepth 100000

/-- a Reader in block g -/
def Rdr (w : World) (g : Nat) (s : St) : Prop := Is w g 72 [.string (ba s.l), .int .i64 s.e]
theorem rdr_rest {w : World} {g : Nat} {s : St} (h : Rdr w g s) : w.cell? ⟨g, 0, none⟩ = some (.string (ba s.l)) := is_cell h 0
theorem rdr_err {w : World} {g : Nat} {s : St} (h : Rdr w g s) : w.cell? ⟨g, 1, none⟩ = some (.int .i64 s.e) := is_cell h 1
theorem rdr_setRest {w : World} {g : Nat} {s : St} (h : Rdr w g s) (l : List UInt8) : Rdr (w.setCell ⟨g, 0, none⟩ (.string (ba l))) g ⟨l, s.e⟩ := is_set h 0 _
theorem rdr_setErr {w : World} {g : Nat} {s : St} (h : Rdr w g s) (e : Int) : Rdr (w.setCell ⟨g, 1, none⟩ (.int .i64 e)) g ⟨s.l, e⟩ := is_set h 1 _

theorem only_set (w : World) (g i : Nat) (u : Value) : w.grownBy (w.setCell ⟨g, i, none⟩ u) (some g) :=
  ⟨rfl, rfl, rfl, by simp [World.setCell], fun k _ hne => heap_setCell_other w ⟨g, i, none⟩ k u (fun e => hne (by rw [e]))⟩
theorem only_trans {a b c : World} {g : Nat} (h : a.grownBy b (some g)) (k : b.grownBy c (some g)) : a.grownBy c (some g) :=
  ⟨k.os.trans h.os, k.tape.trans h.tape, k.output.trans h.output, Nat.le_trans h.size k.size, fun i hi hne => (k.block i (Nat.lt_of_lt_of_le hi h.size) hne).trans (h.block i hi hne)⟩
theorem only_below {a b : World} (h : Below a.heap.size a b) (g : Nat) : a.grownBy b (some g) :=
  ⟨h.os, h.tape, h.output, h.size, fun i hi _ => h.block i hi⟩

theorem extract_take (l : List UInt8) (n : Nat) : (ba l).extract 0 n = ba (l.take n) := by
  apply ByteArray.ext
  rw [ByteArray.data_extract]
  simp [ba]
theorem extract_drop (l : List UInt8) (n : Nat) : (ba l).extract n l.length = ba (l.drop n) := by
  apply ByteArray.ext
  rw [ByteArray.data_extract]
  simp [ba, List.take_of_length_le]
theorem extract_mid (l : List UInt8) (a b : Nat) : (ba l).extract a b = ba ((l.take b).drop a) := by
  apply ByteArray.ext
  rw [ByteArray.data_extract]
  simp [ba, List.drop_take]

/-- what a panic of an error leaves -/
def dies (e : Int) : Ending := .panicked [{ v := .iface 25 (.int .i64 e), recovered := false }]

theorem left_c (g : Nat) (s : St) (w : World) (h : Rdr w g s) :
    Calls Try.prog 30 #[.pointer (some ⟨g, 0, none⟩)] w fun e w' => e = .returned (.int .i64 (s.l.length : Int)) ∧ w = w' := by
  have h0 := rdr_rest h
  have hs := ba_size s.l
  clear h
  go_enter Try.func30, Try.ntmps30
  go_wp2
  go_ret
  exact ⟨rfl, rfl⟩
theorem err_c (g : Nat) (s : St) (w : World) (h : Rdr w g s) :
    Calls Try.prog 44 #[.pointer (some ⟨g, 0, none⟩)] w fun e w' => e = .returned (.int .i64 s.e) ∧ w = w' := by
  have h0 := rdr_err h
  clear h
  go_enter Try.func44, Try.ntmps44
  go_wp2
  go_ret
  exact ⟨rfl, rfl⟩
theorem left_nil (w : World) :
    Calls Try.prog 30 #[.pointer none] w fun e w' => e = .returned (.int .i64 0) ∧ w = w' := by
  go_enter Try.func30, Try.ntmps30
  go_wp2
  go_ret
  exact ⟨rfl, rfl⟩
theorem err_nil (w : World) :
    Calls Try.prog 44 #[.pointer none] w fun e w' => e = .returned (.int .i64 2) ∧ w = w' := by
  go_enter Try.func44, Try.ntmps44
  go_wp2
  go_ret
  exact ⟨rfl, rfl⟩
theorem peek_in (g k : Nat) (b : UInt8) (s : St) (hk : k < s.l.length) (hb : s.l[k]? = some b) (w : World) (h : Rdr w g s) :
    Calls Try.prog 56 #[.pointer (some ⟨g, 0, none⟩), .int .i64 (k : Int)] w fun e w' => e = .returned (.int .u8 (b.toNat : Int)) ∧ w = w' := by
  have h0 := rdr_rest h
  have hs := ba_size s.l
  have HB := Lib.hid hb
  clear h hb
  go_enter Try.func56, Try.ntmps56
  go_wp2
  go_ret
  exact ⟨ret_int (by rw [ba_get HB.out]), rfl⟩
theorem peek_out (g k : Nat) (s : St) (hk : s.l.length ≤ k) (w : World) (h : Rdr w g s) :
    Calls Try.prog 56 #[.pointer (some ⟨g, 0, none⟩), .int .i64 (k : Int)] w fun e w' => e = .panicked [{ v := .iface 25 (.int .i64 2), recovered := false }] ∧ w = w' := by
  have h0 := rdr_rest h
  have hs := ba_size s.l
  clear h
  go_enter Try.func56, Try.ntmps56
  go_wp2
  exact ⟨rfl, rfl, rfl⟩

theorem take_in (g k : Nat) (n : Int) (hn : n = (k : Int)) (s : St) (hk : k ≤ s.l.length) (w : World) (h : Rdr w g s) :
    Calls Try.prog 51 #[.pointer (some ⟨g, 0, none⟩), .int .i64 n] w fun e w' => e = .returned (.string (ba (s.l.take k))) ∧ Rdr w' g ⟨s.l.drop k, s.e⟩ ∧ w.grownBy w' (some g) := by
  have h0 := rdr_rest h
  have hs := ba_size s.l
  have hf := is_free h 0
  have hx1 := extract_take s.l k
  have hx2 := extract_drop s.l k
  subst hn
  have HR := Lib.hid h
  clear h
  go_enter Try.func51, Try.ntmps51
  go_wp2
  go_ret
  exact ⟨rfl, rdr_setRest HR.out _, only_set _ _ _ _⟩
theorem take_out (g : Nat) (n : Int) (s : St) (hn : n < 0 ∨ (s.l.length : Int) < n) (w : World) (h : Rdr w g s) :
    Calls Try.prog 51 #[.pointer (some ⟨g, 0, none⟩), .int .i64 n] w fun e w' => e = .panicked [{ v := .iface 25 (.int .i64 2), recovered := false }] ∧ w = w' := by
  have h0 := rdr_rest h
  have hs := ba_size s.l
  clear h
  rcases hn with hn | hn
  · go_enter Try.func51, Try.ntmps51
    go_wp2
    exact ⟨rfl, rfl, rfl⟩
  · go_enter Try.func51, Try.ntmps51
    go_wp2
    exact ⟨rfl, rfl, rfl⟩
end Go.Proofs.Ytcbkggjphoeceaa
