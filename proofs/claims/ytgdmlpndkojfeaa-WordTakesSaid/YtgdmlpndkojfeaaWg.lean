/-
  The walk of WordTakes.
-/
import Derived.Test.YtgdmlpndkojfeaaEg
import Derived.Test.YtgdmlpndkojfeaaEf
import Derived.Test.YtgdmlpndkojfeaaWa
namespace Go.Proofs.Ytgdmlpndkojfeaa
open Go.RowKit
open Wd
set_option maxRecDepth 100000
namespace wordTakes
theorem walk_out (l : List UInt8) (at_ most : Int) (hz : l.length ≤ maxLen) (h : 500 < l.length) (w : World) :
    Calls Try.prog 10 #[.string (ba l), .int .i64 at_, .int .i64 most] w fun e w' => e = .returned (.bool true) ∧ Below w.heap.size w w' := by
  have hs := ba_size l
  unfold maxLen at hz
  go_enter Try.func10, Try.ntmps10
  go_wp2_with (go_at_call 38; refine (live4_c _).mono ?_; rintro e w5 ⟨rfl, hb5⟩)
  go_ret
  exact ⟨rfl, hb5⟩
set_option maxHeartbeats 2000000 in
theorem walk_in (l : List UInt8) (at_ most : Int) (hm : most ≤ 9223372036854775807) (h : l.length ≤ 500) (w : World) :
    Calls Try.prog 10 #[.string (ba l), .int .i64 at_, .int .i64 most] w fun e w' => e = .returned (.bool true) ∧ Below w.heap.size w w' := by
  have hs := ba_size l
  have hl : l.length ≤ 140737488351232 := by omega
  have HM := Lib.hid hm
  clear hm
  obtain ⟨T, hT⟩ : ∃ T, T = tk l at_ most := ⟨_, rfl⟩
  obtain ⟨a, b, c⟩ := T
  have HT := Lib.hid hT
  clear hT
  go_enter Try.func10, Try.ntmps10
  go_wp2_with fail
  refine (take_w l hl at_ most HM.out _).mono ?_
  rintro e w1 ⟨htk, hb1⟩
  unfold Tk at htk
  rw [← HT.out] at htk
  subst htk
  go_wp2_with fail
  refine (rtake_w l hl at_ most HM.out _).mono ?_
  rintro e w2 ⟨htk, hb2⟩
  unfold Tk at htk
  rw [← HT.out] at htk
  subst htk
  have c2 := hb1.trans (hb2.mono hb1.size)
  go_wp2_with (go_at_call 38; refine (live4_c _).mono ?_; rintro e w5 ⟨rfl, hb5⟩)
  go_ret
  exact ⟨rfl, c2.trans (hb5.mono c2.size)⟩
theorem walk (l : List UInt8) (at_ most : Int) (hz : l.length ≤ maxLen) (_wa : (Lit.int .i64 at_).wf = true) (wm : (Lit.int .i64 most).wf = true) (w : World) :
    Calls Try.prog 10 #[.string (ba l), .int .i64 at_, .int .i64 most] w fun e w' => e = .returned (.bool true) ∧ Below w.heap.size w w' := by
  rcases Nat.lt_or_ge 500 l.length with h | h
  · exact walk_out l at_ most hz h w
  · exact walk_in l at_ most (by have := (i64_of wm).2; omega) h w
end wordTakes
end Go.Proofs.Ytgdmlpndkojfeaa
