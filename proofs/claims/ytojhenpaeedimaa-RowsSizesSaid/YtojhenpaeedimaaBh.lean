/-
 Contracts of read, at num, fix and Take: an error leaves by a panic, which is recovered and kept.
-/
import Derived.Test.YtojhenpaeedimaaBg
namespace Go.Proofs.Ytojhenpaeedimaa
open Go.RowKit
open Pk
set_option maxRecDepth 100000
theorem make_func : ∀ (fn : Fn) (first cap : Array Value) (w : World), (Instr.makeFunc fn first cap).run Try.prog w = .ok (.func fn first cap) w := fun _ _ _ _ => rfl
theorem boxed_rdr {g : Nat} {s : St} {w : World} (h : Rdr w g s) : Rdr (w.alloc (.cells #[.pointer (some ⟨g, 0, none⟩)] 56)) g s := is_alloc h _
theorem boxed_cell (g : Nat) (w : World) : (w.alloc (.cells #[.pointer (some ⟨g, 0, none⟩)] 56)).cell? ⟨w.heap.size, 0, none⟩ = some (.pointer (some ⟨g, 0, none⟩)) :=
 is_cell (is_new w 56 [.pointer (some ⟨g, 0, none⟩)]) 0
theorem boxed_below (g : Nat) (w : World) (o : Obj) : w.grownBy (w.alloc o) (some g) := only_below ((Below.refl _ _).alloc (Nat.le_refl _) _) g
theorem drop_rdr {w : World} {g : Nat} {s : St} {l : List UInt8} {e : Int} (h : Rdr w g ⟨l, s.e⟩) (he : s.e = e) : Rdr w g ⟨l, e⟩ := by subst he; exact h
theorem readNum_err (g : Nat) (s : St) (he : s.e ≠ 0) (w : World) (h : Rdr w g s) :
  Calls Try.prog 82 #[.pointer (some ⟨g, 0, none⟩), .func (Fn.func 83) #[.pointer (some ⟨g, 0, none⟩)] #[]] w fun e w' => e = .returned (.int .u64 0) ∧ Rdr w' g s ∧ w.grownBy w' (some g) := by
 have hd : (s.e != 0) = true := by simpa using he
 have h1 := boxed_rdr h
 clear he
 go_enter_defers Try.func82, Try.ntmps82
 go_wp2_with (go_at_call 57; refine (err_c g s _ h1).mono ?_; rintro e wz ⟨rfl, rfl⟩)
 exact ⟨_, results_tmp rfl _ _ _, rfl, h1, boxed_below g w _⟩
theorem readNum_ok (g : Nat) (s : St) (he : s.e = 0) (n u : Nat) (hrd : rd s.l = .ok n u) (w : World) (h : Rdr w g s) :
  Calls Try.prog 82 #[.pointer (some ⟨g, 0, none⟩), .func (Fn.func 83) #[.pointer (some ⟨g, 0, none⟩)] #[]] w fun e w' => e = .returned (.int .u64 (n : Int)) ∧ Rdr w' g ⟨s.l.drop u, 0⟩ ∧ w.grownBy w' (some g) := by
 have hd : (s.e != 0) = false := by simpa using he
 have h1 := boxed_rdr h
 have HE := Lib.hid he
 have HRD := Lib.hid hrd
 have hmf := make_func
 clear he hrd
 go_enter_defers Try.func82, Try.ntmps82
 go_wp2_with (first | (go_at_call 57; refine (err_c g s _ h1).mono ?_; rintro e wz ⟨rfl, rfl⟩) | (go_at_call 83; refine (num_end g s _ h1).mono ?_; intro e w2 hne; rw [HRD.out] at hne; obtain ⟨rfl, hr2, ho2⟩ := hne))
 refine leaves_cons (f := 94) (args := #[.pointer (some ⟨w.heap.size, 0, none⟩)]) (by simp) (by simp [go_sem]) ?_
 refine (catch_num_idle _ _).mono ?_
 rintro e u' w'' ⟨rfl, rfl, rfl⟩
 exact ⟨_, results_tmp rfl _ _ _, rfl, drop_rdr hr2 HE.out, only_trans (boxed_below g w _) ho2⟩
theorem readNum_die (g : Nat) (s : St) (he : s.e = 0) (x : Int) (hrd : (rd s.l = .cut ∧ x = 2) ∨ (rd s.l = .long ∧ x = 3)) (w : World) (h : Rdr w g s) :
  Calls Try.prog 82 #[.pointer (some ⟨g, 0, none⟩), .func (Fn.func 83) #[.pointer (some ⟨g, 0, none⟩)] #[]] w fun e w' => e = .returned (.int .u64 0) ∧ Rdr w' g ⟨s.l, x⟩ ∧ w.grownBy w' (some g) := by
 have hd : (s.e != 0) = false := by simpa using he
 have h1 := boxed_rdr h
 have hend : Calls Try.prog 83 #[.pointer (some ⟨g, 0, none⟩)] (w.alloc (.cells #[.pointer (some ⟨g, 0, none⟩)] 56)) fun e w' => e = .panicked [{ v := .iface 31 (.int .i64 x), recovered := false }] ∧ (w.alloc (.cells #[.pointer (some ⟨g, 0, none⟩)] 56)) = w' := by
  refine (num_end g s _ h1).mono ?_
  intro e w2 hne
  rcases hrd with ⟨hr, rfl⟩ | ⟨hr, rfl⟩
  all_goals
   rw [hr] at hne
   exact hne
 have hmf := make_func
 clear he hrd
 go_enter_defers Try.func82, Try.ntmps82
 go_wp2_with (first | (go_at_call 57; refine (err_c g s _ h1).mono ?_; rintro e wz ⟨rfl, rfl⟩) | (go_at_call 83; refine hend.mono ?_; rintro e w2 ⟨rfl, rfl⟩))
 refine leaves_cons (f := 94) (args := #[.pointer (some ⟨w.heap.size, 0, none⟩)]) (by simp) (by simp [go_sem]) ?_
 refine (catch_num_panic _ g s x [] _ (boxed_cell g w) h1).mono ?_
 rintro e u' w'' ⟨rfl, rfl, rfl⟩
 exact ⟨_, results_tmp rfl _ _ _, rfl, rdr_setErr h1 x, only_trans (boxed_below g w _) (only_set _ _ _ _)⟩
theorem readFix_err (g : Nat) (s : St) (he : s.e ≠ 0) (w : World) (h : Rdr w g s) :
  Calls Try.prog 82 #[.pointer (some ⟨g, 0, none⟩), .func (Fn.func 99) #[.pointer (some ⟨g, 0, none⟩)] #[]] w fun e w' => e = .returned (.int .u64 0) ∧ Rdr w' g s ∧ w.grownBy w' (some g) := by
 have hd : (s.e != 0) = true := by simpa using he
 have h1 := boxed_rdr h
 clear he
 go_enter_defers Try.func82, Try.ntmps82
 go_wp2_with (go_at_call 57; refine (err_c g s _ h1).mono ?_; rintro e wz ⟨rfl, rfl⟩)
 exact ⟨_, results_tmp rfl _ _ _, rfl, h1, boxed_below g w _⟩
theorem readFix_ok (g : Nat) (s : St) (he : s.e = 0) (hl : 8 ≤ s.l.length) (w : World) (h : Rdr w g s) :
  Calls Try.prog 82 #[.pointer (some ⟨g, 0, none⟩), .func (Fn.func 99) #[.pointer (some ⟨g, 0, none⟩)] #[]] w fun e w' => e = .returned (.int .u64 ((num8 (s.l.take 8) : Nat) : Int)) ∧ Rdr w' g ⟨s.l.drop 8, 0⟩ ∧ w.grownBy w' (some g) := by
 have hd : (s.e != 0) = false := by simpa using he
 have h1 := boxed_rdr h
 have HE := Lib.hid he
 have hmf := make_func
 clear he
 go_enter_defers Try.func82, Try.ntmps82
 go_wp2_with (first | (go_at_call 57; refine (err_c g s _ h1).mono ?_; rintro e wz ⟨rfl, rfl⟩) | (go_at_call 99; refine (fix_in g s hl _ h1).mono ?_; rintro e w2 ⟨rfl, hr2, ho2⟩))
 refine leaves_cons (f := 94) (args := #[.pointer (some ⟨w.heap.size, 0, none⟩)]) (by simp) (by simp [go_sem]) ?_
 refine (catch_num_idle _ _).mono ?_
 rintro e u' w'' ⟨rfl, rfl, rfl⟩
 exact ⟨_, results_tmp rfl _ _ _, rfl, drop_rdr hr2 HE.out, only_trans (boxed_below g w _) ho2⟩
theorem readFix_die (g : Nat) (s : St) (he : s.e = 0) (hl : s.l.length < 8) (w : World) (h : Rdr w g s) :
  Calls Try.prog 82 #[.pointer (some ⟨g, 0, none⟩), .func (Fn.func 99) #[.pointer (some ⟨g, 0, none⟩)] #[]] w fun e w' => e = .returned (.int .u64 0) ∧ Rdr w' g ⟨s.l, 2⟩ ∧ w.grownBy w' (some g) := by
 have hd : (s.e != 0) = false := by simpa using he
 have h1 := boxed_rdr h
 have hend := fix_out g s hl (w.alloc (.cells #[.pointer (some ⟨g, 0, none⟩)] 56)) h1
 have hmf := make_func
 clear he
 go_enter_defers Try.func82, Try.ntmps82
 go_wp2_with (first | (go_at_call 57; refine (err_c g s _ h1).mono ?_; rintro e wz ⟨rfl, rfl⟩) | (go_at_call 99; refine hend.mono ?_; rintro e w2 ⟨rfl, rfl⟩))
 refine leaves_cons (f := 94) (args := #[.pointer (some ⟨w.heap.size, 0, none⟩)]) (by simp) (by simp [go_sem]) ?_
 refine (catch_num_panic _ g s 2 [] _ (boxed_cell g w) h1).mono ?_
 rintro e u' w'' ⟨rfl, rfl, rfl⟩
 exact ⟨_, results_tmp rfl _ _ _, rfl, rdr_setErr h1 2, only_trans (boxed_below g w _) (only_set _ _ _ _)⟩
end Go.Proofs.Ytojhenpaeedimaa
