/-
 Contracts of word's First, Valid, Count, Cut and Put.
-/
import Derived.Test.YtojhenpaeedimaaGreatEa
import Derived.Test.YtojhenpaeedimaaGreatBc
import Derived.Test.YtojhenpaeedimaaGreatBe
namespace Go.Proofs.YtojhenpaeedimaaGreat
open Go.RowKit
open Wd
set_option maxRecDepth 100000
/-- where the first bytes stand that begin with no sign -/
def fstV (l : List UInt8) : Nat := if valid l = true then 0 else ends l
theorem ret_ib {a c : Int} {b d : Bool} (h : a = c) (h' : b = d) : Ending.returned (.tuple #[.int .i64 a, .bool b]) = .returned (.tuple #[.int .i64 c, .bool d]) := by rw [h, h']
theorem ends_lt {l : List UInt8} (h : ¬ valid l = true) : ends l < l.length := by
 have h1 := (ends_le l).1
 have h2 : ¬ ends l = l.length := fun e => h (valid_iff.2 e)
 omega
theorem first_c (l : List UInt8) (hl : l.length ≤ 140737488351232) (w : World) :
  Calls Tryz.prog 219 #[.string (ba l)] w fun e w' => e = .returned (.tuple #[.int .i64 (fstV l : Int), .bool (!valid l)]) ∧ w = w' := by
 have hs := ba_size l
 by_cases hv : valid l = true
 ·have ht : (((ends l : Nat) : Int) == (l.length : Int)) = true := by rw [valid_iff.1 hv]; simp
  have HF : Hid (fstV l = 0 ∧ (!valid l) = false) := by unfold Hid fstV; rw [if_pos hv, hv]; exact ⟨rfl, rfl⟩
  clear hv
  go_enter Tryz.func219, Tryz.ntmps219
  go_wp2_with (go_at_call 226; refine (signs_c l hl _).mono ?_; rintro e wz ⟨rfl, rfl⟩)
  go_ret2
  exact ⟨ret_ib (by rw [HF.out.1]; rfl) (by rw [HF.out.2]), rfl⟩
 ·have h1 := ends_lt hv
  have ht : (((ends l : Nat) : Int) == (l.length : Int)) = false := by simp; omega
  have HF : Hid (fstV l = ends l ∧ (!valid l) = true) := by unfold Hid fstV; rw [if_neg hv]; exact ⟨rfl, by simpa using hv⟩
  clear hv h1
  go_enter Tryz.func219, Tryz.ntmps219
  go_wp2_with (go_at_call 226; refine (signs_c l hl _).mono ?_; rintro e wz ⟨rfl, rfl⟩)
  go_ret2
  exact ⟨ret_ib (by rw [HF.out.1]) (by rw [HF.out.2]), rfl⟩
theorem valid_c (l : List UInt8) (hl : l.length ≤ 140737488351232) (w : World) :
  Calls Tryz.prog 198 #[.string (ba l)] w fun e w' => e = .returned (.bool (valid l)) ∧ w = w' := by
 go_enter Tryz.func198, Tryz.ntmps198
 go_wp2_with (go_at_call 219; refine (first_c l hl _).mono ?_; rintro e wz ⟨rfl, rfl⟩)
 go_ret
 exact ⟨ret_bool (by simp), rfl⟩
theorem wput_c (l : List UInt8) (hl : l.length ≤ 140737488351232) (w : World) :
  Calls Tryz.prog 98 #[.string (ba l)] w fun e w' => e = .returned (.string (ba (Pk.put l.length ++ l))) ∧ Below w.heap.size w w' := by
 have hs := ba_size l
 have hp := Pk.put_len10 (n := l.length) (by omega)
 have hadd : ∀ wx : World, (Op.stringOp .add (ba (Pk.put l.length)) (ba l)).run Tryz.prog wx = .ok (.string (ba (Pk.put l.length ++ l))) wx := fun wx => by
  rw [run_string_add_sum wx (ba (Pk.put l.length)) (ba l) (by rw [ba_size, ba_size]; omega)]
  congr 2
 clear hp
 go_enter Tryz.func98, Tryz.ntmps98
 go_wp2_with (go_at_call 42; refine (put_c l.length (by omega) _).mono ?_; rintro e w1 ⟨rfl, hb1⟩)
 go_ret
 exact ⟨rfl, hb1⟩
end Go.Proofs.YtojhenpaeedimaaGreat
