/-
  The walk of ReplayNil.
-/
import Derived.Test.YtnkckoilhhbllaaJd
namespace Go.Proofs.Ytnkckoilhhbllaa
open Go.RowKit Go.IntWalk
set_option maxRecDepth 100000
attribute [local go_sem] Oper.semAt_some

namespace replayNil
set_option maxHeartbeats 4000000 in
theorem walk (m : Mv) (hm2 : (nm (mw m)).length ≤ maxLen) (w : World) :
    Calls Try.prog 15 #[.agg #[.int .i64 (mc m), .int .i64 (mr m), .int .i64 (pa (mw m)), .int .i64 (ch (mw m)), .string (ba (nm (mw m))), .float .f64 (rk (mw m))]] w fun e w' => e = .returned (.bool true) ∧ Below w.heap.size w w' := by
  obtain ⟨w0, hw0⟩ : ∃ w0, w0 = w.alloc (.cells #[.int .i64 (mc m), .int .i64 (mr m), .int .i64 (pa (mw m)), .int .i64 (ch (mw m)), .string (ba (nm (mw m))), .float .f64 (rk (mw m))] 27) := ⟨_, rfl⟩
  have HBX := Lib.hid (show Below w.heap.size w w0 by rw [hw0]; exact (Below.refl w.heap.size w).alloc (Nat.le_refl _) _)
  have HI := Lib.hid (show Is w0 w.heap.size 27 [.int .i64 (mc m), .int .i64 (mr m), .int .i64 (pa (mw m)), .int .i64 (ch (mw m)), .string (ba (nm (mw m))), .float .f64 (rk (mw m))] by rw [hw0]; exact is_new w 27 _)
  have HW := Lib.hid hw0
  have hsz := ba_size (nm (mw m))
  obtain ⟨g0, g1, g2, g3, g4, g5⟩ := box6 (m := m) HI.out
  unfold maxLen at hm2
  rw [hw0] at g0 g1 g2 g3 g4 g5
  clear hw0
  by_cases hlong : 100 < (nm (mw m)).length
  · have hlz : (100 : Int) < ((nm (mw m)).length : Int) := by omega
    have hd1 : decide (100 < (nm (mw m)).length) = true := decide_eq_true hlong
    go_enter Try.func15, Try.ntmps15
    go_wp2_with fail
    rw [← HW.out]
    refine (live16_c _).mono ?_
    rintro e w2 ⟨rfl, hb⟩
    go_wp2_with fail
    go_ret
    exact ⟨rfl, HBX.out.trans (hb.mono HBX.out.size)⟩
  · have hlz : ¬ (100 : Int) < ((nm (mw m)).length : Int) := by omega
    have hd1 : decide (100 < (nm (mw m)).length) = false := decide_eq_false hlong
    go_enter Try.func15, Try.ntmps15
    go_wp2_with fail
    rw [← HW.out]
    refine (tadd_nil m _).mono ?_
    rintro e w2 ⟨rfl, hb⟩
    have HB2 := Lib.hid (HBX.out.trans (hb.mono HBX.out.size))
    clear hb g0 g1 g2 g3 g4 g5
    go_wp2_with fail
    refine (trows_nil _).mono ?_
    rintro e w3 ⟨rfl, rfl⟩
    go_wp2_with fail
    refine (tlog_nil _).mono ?_
    rintro e w3 ⟨rfl, rfl⟩
    go_wp2_with fail
    refine (tsteps_nil _).mono ?_
    rintro e w3 ⟨rfl, rfl⟩
    go_wp2_with fail
    refine (tbase_nil _).mono ?_
    rintro e w3 ⟨rfl, rfl⟩
    go_wp2_with fail
    refine (live16_c _).mono ?_
    rintro e w4 ⟨rfl, hb⟩
    go_wp2_with fail
    go_ret
    exact ⟨rfl, HB2.out.trans (hb.mono HB2.out.size)⟩
end replayNil
end Go.Proofs.Ytnkckoilhhbllaa
