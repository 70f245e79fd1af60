/-
  What the Reader's recovering closures do.
-/
import Derived.Test.YtcbkggjphoeceaaBe
import Derived.Defers
import Derived.Recover
import Derived.Laws.Pointers
namespace Go.Proofs.Ytcbkggjphoeceaa
open Go.RowKit
open Pk
set_option maxRecDepth 100000

theorem assert_errno (x : Int) (w : World) : (Instr.typeAssert (.iface 25 (.int .i64 x)) 20 25 true).run Try.prog w = .ok (.tuple #[.int .i64 x, .bool true]) w := by kernel_rfl
theorem assert_nil (w : World) : (Instr.typeAssert .nilIface 20 25 true).run Try.prog w = .ok (.tuple #[.int .i64 0, .bool false]) w := by kernel_rfl

theorem catch_num_panic (p : Addr) (g : Nat) (s : St) (x : Int) (older : List PanicEntry) (w : World) (hp : w.cell? p = some (.pointer (some ⟨g, 0, none⟩))) (h : Rdr w g s) :
    CallsD Try.prog 55 #[.pointer (some p)] (.panicking ({ v := .iface 25 (.int .i64 x), recovered := false } :: older)) w fun e u' w' =>
      e = .returned (.tuple #[]) ∧ u' = .panicking ({ v := .iface 25 (.int .i64 x), recovered := true } :: older) ∧ w' = w.setCell ⟨g, 1, none⟩ (.int .i64 x) := by
  have h1 := rdr_err h
  have hf := is_free h 1
  have hta := assert_errno x
  clear h
  refine callsD_of_wpS Try.func55 rfl fun c₀ cs hu => ?_
  rw [show (#[Value.pointer (some p)] ++ Array.replicate (Try.f55.ntmps - #[Value.pointer (some p)].size) undef) = #[Value.pointer (some p), undef, undef, undef, undef, undef, undef, undef, undef, undef, undef, undef, undef] from rfl]
  apply wpS_seq
  apply wpS_region
  simp [wpOpsS, go_sem, recoverD, hu, hta, Exit.thenS]
  apply wpS_seq
  apply wpS_region
  simp [wpOpsS, go_sem, Exit.thenS]
  refine wpS_cond (t := true) rfl ?_
  simp only [if_true]
  apply wpS_region
  simp [wpOpsS, go_sem, hp, h1, hf, bodyPostS, results, Try.results55]

theorem catch_num_idle (p : Addr) (w : World) :
    CallsD Try.prog 55 #[.pointer (some p)] .returning w fun e u' w' => e = .returned (.tuple #[]) ∧ u' = .returning ∧ w' = w := by
  have hta := assert_nil
  refine callsD_of_wpS Try.func55 rfl fun c₀ cs hu => ?_
  rw [show (#[Value.pointer (some p)] ++ Array.replicate (Try.f55.ntmps - #[Value.pointer (some p)].size) undef) = #[Value.pointer (some p), undef, undef, undef, undef, undef, undef, undef, undef, undef, undef, undef, undef] from rfl]
  apply wpS_seq
  apply wpS_region
  simp [wpOpsS, go_sem, recoverD, hu, hta, Exit.thenS]
  apply wpS_seq
  apply wpS_region
  simp [wpOpsS, go_sem, Exit.thenS]
  refine wpS_cond (t := false) rfl ?_
  simp only [Bool.false_eq_true, if_false]
  refine wpS_of_wp (wp_skip ?_)
  cases c₀
  simp_all [bodyPostS, results, Try.results55]

theorem catch_take_panic (p : Addr) (g : Nat) (s : St) (x : Int) (older : List PanicEntry) (w : World) (hp : w.cell? p = some (.pointer (some ⟨g, 0, none⟩))) (h : Rdr w g s) :
    CallsD Try.prog 54 #[.pointer (some p)] (.panicking ({ v := .iface 25 (.int .i64 x), recovered := false } :: older)) w fun e u' w' =>
      e = .returned (.tuple #[]) ∧ u' = .panicking ({ v := .iface 25 (.int .i64 x), recovered := true } :: older) ∧ w' = w.setCell ⟨g, 1, none⟩ (.int .i64 x) := by
  have h1 := rdr_err h
  have hf := is_free h 1
  have hta := assert_errno x
  clear h
  refine callsD_of_wpS Try.func54 rfl fun c₀ cs hu => ?_
  rw [show (#[Value.pointer (some p)] ++ Array.replicate (Try.f54.ntmps - #[Value.pointer (some p)].size) undef) = #[Value.pointer (some p), undef, undef, undef, undef, undef, undef, undef, undef, undef, undef, undef, undef] from rfl]
  apply wpS_seq
  apply wpS_region
  simp [wpOpsS, go_sem, recoverD, hu, hta, Exit.thenS]
  apply wpS_seq
  apply wpS_region
  simp [wpOpsS, go_sem, Exit.thenS]
  refine wpS_cond (t := true) rfl ?_
  simp only [if_true]
  apply wpS_region
  simp [wpOpsS, go_sem, hp, h1, hf, bodyPostS, results, Try.results54]

theorem catch_take_idle (p : Addr) (w : World) :
    CallsD Try.prog 54 #[.pointer (some p)] .returning w fun e u' w' => e = .returned (.tuple #[]) ∧ u' = .returning ∧ w' = w := by
  have hta := assert_nil
  refine callsD_of_wpS Try.func54 rfl fun c₀ cs hu => ?_
  rw [show (#[Value.pointer (some p)] ++ Array.replicate (Try.f54.ntmps - #[Value.pointer (some p)].size) undef) = #[Value.pointer (some p), undef, undef, undef, undef, undef, undef, undef, undef, undef, undef, undef, undef] from rfl]
  apply wpS_seq
  apply wpS_region
  simp [wpOpsS, go_sem, recoverD, hu, hta, Exit.thenS]
  apply wpS_seq
  apply wpS_region
  simp [wpOpsS, go_sem, Exit.thenS]
  refine wpS_cond (t := false) rfl ?_
  simp only [Bool.false_eq_true, if_false]
  refine wpS_of_wp (wp_skip ?_)
  cases c₀
  simp_all [bodyPostS, results, Try.results54]
end Go.Proofs.Ytcbkggjphoeceaa
