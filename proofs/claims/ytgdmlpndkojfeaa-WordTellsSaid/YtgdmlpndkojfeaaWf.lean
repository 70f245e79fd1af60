/-
  The walks of WordTells and WordTakes.
-/
import Derived.Test.YtgdmlpndkojfeaaEg
import Derived.Test.YtgdmlpndkojfeaaEf
import Derived.Test.YtgdmlpndkojfeaaWa
namespace Go.Proofs.Ytgdmlpndkojfeaa
open Go.RowKit
open Wd
set_option maxRecDepth 100000

namespace wordTells
theorem walk_out (l : List UInt8) (most : Int) (hz : l.length ≤ maxLen) (h : 500 < l.length) (w : World) :
    Calls Try.prog 9 #[.string (ba l), .int .i64 most] w fun e w' => e = .returned (.bool true) ∧ Below w.heap.size w w' := by
  have hs := ba_size l
  unfold maxLen at hz
  go_enter Try.func9, Try.ntmps9
  go_wp2_with (go_at_call 38; refine (live4_c _).mono ?_; rintro e w5 ⟨rfl, hb5⟩)
  go_ret
  exact ⟨rfl, hb5⟩

set_option maxHeartbeats 2000000 in
theorem walk_in (l : List UInt8) (most : Int) (h : l.length ≤ 500) (w : World) :
    Calls Try.prog 9 #[.string (ba l), .int .i64 most] w fun e w' => e = .returned (.bool true) ∧ Below w.heap.size w w' := by
  have hs := ba_size l
  have hl : l.length ≤ 140737488351232 := by omega
  go_enter Try.func9, Try.ntmps9
  go_wp2_with (first
    | (go_at_call 39; refine (first_c l hl _).mono ?_; rintro e wz ⟨rfl, rfl⟩)
    | (go_at_call 40; refine (rFirst_c l hl _).mono ?_; rintro e wz ⟨rfl, rfl⟩)
    | (go_at_call 41; refine (count_c l hl _).mono ?_; rintro e wz ⟨rfl, rfl⟩)
    | (go_at_call 42; refine (rCount_c l hl _).mono ?_; rintro e wz ⟨rfl, rfl⟩)
    | (go_at_call 43; refine (valid_c l hl _).mono ?_; rintro e wz ⟨rfl, rfl⟩)
    | (go_at_call 44; refine (rValid_c l hl _).mono ?_; rintro e wz ⟨rfl, rfl⟩)
    | (go_at_call 45; refine (cut_c l hl most _).mono ?_; rintro e wz ⟨rfl, rfl⟩)
    | (go_at_call 46; refine (rCut_c l hl most _).mono ?_; rintro e wz ⟨rfl, rfl⟩)
    | (go_at_call 47; refine (wput_c l hl _).mono ?_; rintro e w1 ⟨rfl, hb1⟩)
    | (go_at_call 48; refine (rwput_c l hl _).mono ?_; rintro e w2 ⟨rfl, hb2⟩)
    | (go_at_call 38; refine (live4_c _).mono ?_; rintro e w5 ⟨rfl, hb5⟩))
  go_ret
  have c2 := hb1.trans (hb2.mono hb1.size)
  exact ⟨rfl, c2.trans (hb5.mono c2.size)⟩
theorem walk (l : List UInt8) (most : Int) (hz : l.length ≤ maxLen) (_wm : (Lit.int .i64 most).wf = true) (w : World) :
    Calls Try.prog 9 #[.string (ba l), .int .i64 most] w fun e w' => e = .returned (.bool true) ∧ Below w.heap.size w w' := by
  rcases Nat.lt_or_ge 500 l.length with h | h
  · exact walk_out l most hz h w
  · exact walk_in l most h w
end wordTells
end Go.Proofs.Ytgdmlpndkojfeaa
