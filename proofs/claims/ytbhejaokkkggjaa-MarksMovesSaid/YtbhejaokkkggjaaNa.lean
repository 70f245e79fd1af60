/-
  Contracts of the small functions that bits leans on (math's, and the two of the document's answer that take nothing), and of bits.powers.
  The contract of bits.powers: the ten rows of powers of two.
  The contract of bits.times: a number times a power of two, where the format holds what comes of it and what lies between.
  Contracts of bits.size and bits.Float: the word of e and m, and of any 64 bits.
  Contracts of bits.part, bits.Kind, bits.Minus, bits.Canon.
  Contracts of bits.Canon, bits.Bits, bits.Same.
-/
import Derived.Test.YtbhejaokkkggjaaRows
import Derived.Test.YtbhejaokkkggjaaFa
import Derived.WalkKit
import Derived.WalkLawsBesides
import Derived.Lib.Hide
import Derived.Outline
import Derived.Deep.QuietTactic
import Derived.BigQuiet
section
namespace Go.Proofs.Ytbhejaokkkggjaa
open Go.RowKit
open Fl
set_option maxRecDepth 100000

/-- a float is stored in its one cell -/
@[go_sem] theorem run_store_float {P : Program} (w : World) (a : Addr) (m : Mode) (k : FloatKind) (x : Nat) : (store a (.float k x) m).run P w = stored P w a (.float k x) m := run_store P w a _ m rfl

/-- the minus before a float -/
@[go_sem] theorem run_neg_float {P : Program} (w : World) (x : Nat) : (Op.unary .neg (.float .f64 x)).run P w = .ok (.float .f64 (Op.negFloat .f64 x)) w := rfl

theorem top_c (w : World) :
    Calls Try.prog 129 #[] w fun e w' => e = .returned (.int .u64 9223372036854775808) ∧ w = w' := by
  go_enter Try.func129, Try.ntmps129
  go_wp2
  go_ret
  exact ⟨rfl, rfl⟩

theorem none_c (w : World) :
    Calls Try.prog 127 #[] w fun e w' => e = .returned (.int .u64 9221120237041090560) ∧ w = w' := by
  go_enter Try.func127, Try.ntmps127
  go_wp2
  go_ret
  exact ⟨rfl, rfl⟩
end Go.Proofs.Ytbhejaokkkggjaa
end

section
namespace Go.Proofs.Ytbhejaokkkggjaa
open Go.RowKit
open Fl
set_option maxRecDepth 100000

/-- the cells of the rows -/
def powCells : Array Value := #[.int .i64 512, .float .f64 6913025428013711360, .float .f64 2301339409586323456, .int .i64 256, .float .f64 5760103923406864384, .float .f64 3454260914193170432,
  .int .i64 128, .float .f64 5183643171103440896, .float .f64 4030721666496593920, .int .i64 64, .float .f64 4895412794951729152, .float .f64 4318952042648305664,
  .int .i64 32, .float .f64 4751297606875873280, .float .f64 4463067230724161536, .int .i64 16, .float .f64 4679240012837945344, .float .f64 4535124824762089472,
  .int .i64 8, .float .f64 4643211215818981376, .float .f64 4571153621781053440, .int .i64 4, .float .f64 4625196817309499392, .float .f64 4589168020290535424,
  .int .i64 2, .float .f64 4616189618054758400, .float .f64 4598175219545276416, .int .i64 1, .float .f64 4611686018427387904, .float .f64 4602678819172646912]
def powRows : Value := .agg powCells
/-- one row, as it is built -/
def powRow (a : Int) (x y : Nat) : Value := .agg #[.int .i64 a, .float .f64 x, .float .f64 y]

theorem below_setRow1 {B g : Nat} {w0 w : World} (hb : Below B w0 w) (hBg : B ≤ g) (cs : Array Value) : Below B w0 (w.setRow g cs) := by
  refine ⟨hb.os, hb.tape, hb.output, by rw [size_setRow]; exact hb.size, fun k hk => ?_⟩
  rw [setRow_other w g k cs (by omega)]
  exact hb.block k hk

end Go.Proofs.Ytbhejaokkkggjaa
end

section
namespace Go.Proofs.Ytbhejaokkkggjaa
open Go.RowKit
open Fl
set_option maxRecDepth 100000

/-- block B holds row k -/
def HasRow (B k : Nat) (w : World) : Prop := w.cell? ⟨B, 0, none⟩ = some (.int .i64 (pw k)) ∧ w.cell? ⟨B, 1, none⟩ = some (.float .f64 (pUp k)) ∧ w.cell? ⟨B, 2, none⟩ = some (.float .f64 (pDn k))

theorem hasRow_drewN {B k : Nat} {w : World} (h : HasRow B k w) (n : Nat) : HasRow B k (w.drewN n) := h

end Go.Proofs.Ytbhejaokkkggjaa
end

section
namespace Go.Proofs.Ytbhejaokkkggjaa
open Go.RowKit
open Fl
set_option maxRecDepth 100000

/-- the word that size makes -/
def szw (e m : Nat) : Nat := if e = 2047 then (if m = 0 then 9218868437227405312 else 9221120237041090561) else e * 4503599627370496 + m

theorem ofNat_en (m : Nat) (hm : m < 9007199254740992) : floatOfInt .f64 (m : Int) = en m B := ofNat_eq m hm

theorem ng_cases (u : Nat) : (ng u = true ∧ 9223372036854775808 ≤ u) ∨ (ng u = false ∧ u < 9223372036854775808) := by
  unfold ng
  by_cases h : 9223372036854775808 ≤ u
  · exact .inl ⟨by simp [h], h⟩
  · exact .inr ⟨by simp [h], by omega⟩

/-- what size makes of e and m, and the minus before it -/
theorem szw_fl (u : Nat) (hu : u < 18446744073709551616) :
    (ng u = false → fl u = szw (u / 4503599627370496 % 2048) (u % 4503599627370496)) ∧ (ng u = true → fl u = Op.negFloat .f64 (szw (u / 4503599627370496 % 2048) (u % 4503599627370496))) := by
  have hs : szw (u / 4503599627370496 % 2048) (u % 4503599627370496) < 9223372036854775808 := by
    unfold szw; split <;> (try split) <;> omega
  have hn := neg_eq false _ hs
  have e1 : wd false (szw (u / 4503599627370496 % 2048) (u % 4503599627370496)) = szw (u / 4503599627370496 % 2048) (u % 4503599627370496) := by simp [wd]
  rw [e1] at hn
  rw [hn]
  unfold fl nn wd
  rcases ng_cases u with ⟨h1, h2⟩ | ⟨h1, h2⟩
  · refine ⟨fun h => absurd (h.symm.trans h1) (by simp), fun _ => ?_⟩
    rw [h1]
    simp only [Bool.not_false, if_true]
    unfold szw
    by_cases hq : 9218868437227405312 < u % 9223372036854775808
    · rw [decide_eq_true hq, if_pos rfl, if_pos (by omega), if_neg (by omega)]
    · rw [decide_eq_false hq, if_neg (by simp)]
      split
      · rw [if_pos (by omega)]; omega
      · omega
  · refine ⟨fun _ => ?_, fun h => absurd (h.symm.trans h1) (by simp)⟩
    rw [h1]
    simp only [Bool.false_eq_true, if_false]
    unfold szw
    by_cases hq : 9218868437227405312 < u % 9223372036854775808
    · rw [decide_eq_true hq, if_pos rfl, if_pos (by omega), if_neg (by omega)]
    · rw [decide_eq_false hq, if_neg (by simp)]
      split
      · rw [if_pos (by omega)]; omega
      · omega

end Go.Proofs.Ytbhejaokkkggjaa
end

section
namespace Go.Proofs.Ytbhejaokkkggjaa
open Go.RowKit
open Fl
set_option maxRecDepth 100000

end Go.Proofs.Ytbhejaokkkggjaa
end

section
namespace Go.Proofs.Ytbhejaokkkggjaa
open Go.RowKit
open Fl
set_option maxRecDepth 100000

theorem kd_of (x : Nat) : (nn x = true ∧ kd x = 4 ∧ cb x = 9221120237041090560) ∨ (nn x = false ∧ cb x = x ∧ mg x ≤ 9218868437227405312 ∧
    ((kd x = 3 ∧ mg x = 9218868437227405312) ∨ (kd x = 0 ∧ mg x = 0) ∨ (kd x = 1 ∧ mg x < 4503599627370496) ∨ (kd x = 2 ∧ 4503599627370496 ≤ mg x ∧ mg x < 9218868437227405312))) := by
  cases hn : nn x
  · right
    have hle : mg x ≤ 9218868437227405312 := by rw [nn_mg] at hn; simpa using hn
    refine ⟨rfl, by simp [cb, hn], hle, ?_⟩
    by_cases h1 : mg x = 9218868437227405312
    · exact .inl ⟨by simp [kd, hn, h1], h1⟩
    · by_cases h0 : mg x = 0
      · exact .inr (.inl ⟨by simp [kd, hn, h0], h0⟩)
      · by_cases h2 : mg x < 4503599627370496
        · exact .inr (.inr (.inl ⟨by simp [kd, hn, h0, h1, h2], h2⟩))
        · exact .inr (.inr (.inr ⟨by simp [kd, hn, h0, h1, h2], by omega, by omega⟩))
  · exact .inl ⟨rfl, by simp [kd, hn], by simp [cb, hn]⟩

end Go.Proofs.Ytbhejaokkkggjaa
end
