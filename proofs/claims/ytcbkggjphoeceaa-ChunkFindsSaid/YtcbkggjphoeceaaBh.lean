/-
  Contracts of read, at num, fix and Take: an error leaves by a panic, which is recovered and kept.
-/
import Derived.Test.YtcbkggjphoeceaaBg
namespace Go.Proofs.Ytcbkggjphoeceaa
open Go.RowKit
open Pk
set_option maxRecDepth 100000

theorem make_func : ∀ (fn : Fn) (first cap : Array Value) (w : World), (Instr.makeFunc fn first cap).run Try.prog w = .ok (.func fn first cap) w := fun _ _ _ _ => rfl

/-- the block of the captured Reader -/
def boxed (g : Nat) (w : World) : World := w.alloc (.cells #[.pointer (some ⟨g, 0, none⟩)] 58)
theorem boxed_rdr {g : Nat} {s : St} {w : World} (h : Rdr w g s) : Rdr (w.alloc (.cells #[.pointer (some ⟨g, 0, none⟩)] 58)) g s := is_alloc h _
theorem boxed_cell (g : Nat) (w : World) : (w.alloc (.cells #[.pointer (some ⟨g, 0, none⟩)] 58)).cell? ⟨w.heap.size, 0, none⟩ = some (.pointer (some ⟨g, 0, none⟩)) :=
  is_cell (is_new w 58 [.pointer (some ⟨g, 0, none⟩)]) 0
theorem boxed_below (g : Nat) (w : World) (o : Obj) : w.grownBy (w.alloc o) (some g) := only_below ((Below.refl _ _).alloc (Nat.le_refl _) _) g
theorem drop_rdr {w : World} {g : Nat} {s : St} {l : List UInt8} {e : Int} (h : Rdr w g ⟨l, s.e⟩) (he : s.e = e) : Rdr w g ⟨l, e⟩ := by subst he; exact h

theorem readNum_err (g : Nat) (s : St) (he : s.e ≠ 0) (w : World) (h : Rdr w g s) :
    Calls Try.prog 52 #[.pointer (some ⟨g, 0, none⟩), .func (Fn.func 53) #[.pointer (some ⟨g, 0, none⟩)] #[]] w fun e w' => e = .returned (.int .u64 0) ∧ Rdr w' g s ∧ w.grownBy w' (some g) := by
  have hd : (s.e != 0) = true := by simpa using he
  have h1 := boxed_rdr h
  clear he
  go_enter_defers Try.func52, Try.ntmps52
  go_wp2_with (go_at_call 44; refine (err_c g s _ h1).mono ?_; rintro e wz ⟨rfl, rfl⟩)
  exact ⟨_, results_tmp rfl _ _ _, rfl, h1, boxed_below g w _⟩

theorem readNum_ok (g : Nat) (s : St) (he : s.e = 0) (n u : Nat) (hrd : rd s.l = .ok n u) (w : World) (h : Rdr w g s) :
    Calls Try.prog 52 #[.pointer (some ⟨g, 0, none⟩), .func (Fn.func 53) #[.pointer (some ⟨g, 0, none⟩)] #[]] w fun e w' => e = .returned (.int .u64 (n : Int)) ∧ Rdr w' g ⟨s.l.drop u, 0⟩ ∧ w.grownBy w' (some g) := by
  have hd : (s.e != 0) = false := by simpa using he
  have h1 := boxed_rdr h
  have HE := Lib.hid he
  have HRD := Lib.hid hrd
  have hmf := make_func
  clear he hrd
  go_enter_defers Try.func52, Try.ntmps52
  go_wp2_with (first | (go_at_call 44; refine (err_c g s _ h1).mono ?_; rintro e wz ⟨rfl, rfl⟩) | (go_at_call 53; refine (num_end g s _ h1).mono ?_; intro e w2 hne; rw [HRD.out] at hne; obtain ⟨rfl, hr2, ho2⟩ := hne))
  refine leaves_cons (f := 55) (args := #[.pointer (some ⟨w.heap.size, 0, none⟩)]) (by simp) (by simp [go_sem]) ?_
  refine (catch_num_idle _ _).mono ?_
  rintro e u' w'' ⟨rfl, rfl, rfl⟩
  exact ⟨_, results_tmp rfl _ _ _, rfl, drop_rdr hr2 HE.out, only_trans (boxed_below g w _) ho2⟩

theorem readNum_die (g : Nat) (s : St) (he : s.e = 0) (x : Int) (hrd : (rd s.l = .cut ∧ x = 2) ∨ (rd s.l = .long ∧ x = 3)) (w : World) (h : Rdr w g s) :
    Calls Try.prog 52 #[.pointer (some ⟨g, 0, none⟩), .func (Fn.func 53) #[.pointer (some ⟨g, 0, none⟩)] #[]] w fun e w' => e = .returned (.int .u64 0) ∧ Rdr w' g ⟨s.l, x⟩ ∧ w.grownBy w' (some g) := by
  have hd : (s.e != 0) = false := by simpa using he
  have h1 := boxed_rdr h
  have hend : Calls Try.prog 53 #[.pointer (some ⟨g, 0, none⟩)] (w.alloc (.cells #[.pointer (some ⟨g, 0, none⟩)] 58)) fun e w' => e = .panicked [{ v := .iface 25 (.int .i64 x), recovered := false }] ∧ (w.alloc (.cells #[.pointer (some ⟨g, 0, none⟩)] 58)) = w' := by
    refine (num_end g s _ h1).mono ?_
    intro e w2 hne
    rcases hrd with ⟨hr, rfl⟩ | ⟨hr, rfl⟩
    all_goals
      rw [hr] at hne
      exact hne
  have hmf := make_func
  clear he hrd
  go_enter_defers Try.func52, Try.ntmps52
  go_wp2_with (first | (go_at_call 44; refine (err_c g s _ h1).mono ?_; rintro e wz ⟨rfl, rfl⟩) | (go_at_call 53; refine hend.mono ?_; rintro e w2 ⟨rfl, rfl⟩))
  refine leaves_cons (f := 55) (args := #[.pointer (some ⟨w.heap.size, 0, none⟩)]) (by simp) (by simp [go_sem]) ?_
  refine (catch_num_panic _ g s x [] _ (boxed_cell g w) h1).mono ?_
  rintro e u' w'' ⟨rfl, rfl, rfl⟩
  exact ⟨_, results_tmp rfl _ _ _, rfl, rdr_setErr h1 x, only_trans (boxed_below g w _) (only_set _ _ _ _)⟩

end Go.Proofs.Ytcbkggjphoeceaa
