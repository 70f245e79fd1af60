/-
  Contracts of the Reader's methods: Num, Int, Fix, Take; of a nil Reader; and New.
-/
import Derived.Test.YtjjbiepmfngipaaBh
import Derived.Test.YtjjbiepmfngipaaBb
namespace Go.Proofs.Ytjjbiepmfngipaa
open Go.RowKit
open Pk
set_option maxRecDepth 100000

/-- a call that answers v and leaves the Reader of block g as s -/
def Done_ (w : World) (g : Nat) (s : St) (v : Value) (e : Ending) (w' : World) : Prop := e = .returned v ∧ Rdr w' g s ∧ w.grownBy w' (some g)
theorem done_ok {w w' : World} {g : Nat} {s t : St} {v u : Value} {e : Ending} (h : e = .returned u ∧ Rdr w' g t ∧ w.grownBy w' (some g)) (hv : u = v) (hs : t = s) : Done_ w g s v e w' := by
  subst hv; subst hs; exact h
theorem done_end {w w' : World} {g : Nat} {s : St} {v u : Value} (h : Done_ w g s v (.returned u) w') : u = v ∧ Rdr w' g s ∧ w.grownBy w' (some g) := by
  obtain ⟨h1, h2⟩ := h
  injection h1 with h1
  exact ⟨h1, h2⟩

theorem readNum_all (g : Nat) (s : St) (w : World) (h : Rdr w g s) :
    Calls Try.prog 69 #[.pointer (some ⟨g, 0, none⟩), .func (Fn.func 70) #[.pointer (some ⟨g, 0, none⟩)] #[]] w fun e w' => Done_ w g (numS s) (.int .u64 (numV s : Int)) e w' := by
  by_cases he : s.e = 0
  · cases hr : rd s.l with
    | cut => exact (readNum_die g s he 2 (.inl ⟨hr, rfl⟩) w h).mono fun e w' hq => done_ok hq (by rw [(num_cut he hr).1]; rfl) (num_cut he hr).2.symm
    | long => exact (readNum_die g s he 3 (.inr ⟨hr, rfl⟩) w h).mono fun e w' hq => done_ok hq (by rw [(num_long he hr).1]; rfl) (num_long he hr).2.symm
    | ok n u => exact (readNum_ok g s he n u hr w h).mono fun e w' hq => done_ok hq (by rw [(num_ok he hr).1]) (num_ok he hr).2.symm
  · exact (readNum_err g s he w h).mono fun e w' hq => done_ok hq (by rw [(num_err he).1]; rfl) (num_err he).2.symm

theorem num_m (g : Nat) (s : St) (w : World) (h : Rdr w g s) :
    Calls Try.prog 44 #[.pointer (some ⟨g, 0, none⟩)] w fun e w' => e = .returned (.int .u64 (numV s : Int)) ∧ Rdr w' g (numS s) ∧ w.grownBy w' (some g) := by
  have hmf := make_func
  go_enter Try.func44, Try.ntmps44
  go_wp2_with (go_at_call 69; refine (readNum_all g s _ h).mono ?_; rintro e w1 ⟨rfl, hr1, ho1⟩)
  go_ret
  exact ⟨rfl, hr1, ho1⟩

theorem readNum_nil (w : World) :
    Calls Try.prog 69 #[.pointer none, .func (Fn.func 70) #[.pointer none] #[]] w fun e w' => e = .returned (.int .u64 0) ∧ Below w.heap.size w w' := by
  go_enter_defers Try.func69, Try.ntmps69
  go_wp2_with (go_at_call 45; refine (err_nil _).mono ?_; rintro e wz ⟨rfl, rfl⟩)
  exact ⟨_, results_tmp rfl _ _ _, rfl, (Below.refl _ _).alloc (Nat.le_refl _) _⟩
theorem num_nil (w : World) :
    Calls Try.prog 44 #[.pointer none] w fun e w' => e = .returned (.int .u64 0) ∧ Below w.heap.size w w' := by
  have hmf := make_func
  go_enter Try.func44, Try.ntmps44
  go_wp2_with (go_at_call 69; refine (readNum_nil _).mono ?_; rintro e w1 ⟨rfl, hb1⟩)
  go_ret
  exact ⟨rfl, hb1⟩

theorem size_alloc (w : World) (o : Obj) : (w.alloc o).heap.size = w.heap.size + 1 := by simp
theorem lt_of_cell {w : World} {p : Addr} {v : Value} (h : w.cell? p = some v) : p.block < w.heap.size := World.block_lt_of_cell? w p h
theorem cell_boxed {w : World} {p : Addr} {v : Value} (h : w.cell? p = some v) (o : Obj) : (w.alloc o).cell? p = some v := by
  rw [World.cell?_alloc_lt w o p (lt_of_cell h)]; exact h

theorem new_c (l : List UInt8) (w : World) :
    Calls Try.prog 43 #[.string (ba l)] w fun e w' => e = .returned (.pointer (some ⟨w.heap.size, 0, none⟩)) ∧ Rdr w' w.heap.size ⟨l, 0⟩ ∧ w' = w.alloc (.cells #[.string (ba l), .int .i64 0] 85) := by
  go_enter Try.func43, Try.ntmps43
  go_wp2
  go_ret
  exact ⟨rfl, is_new w 85 [.string (ba l), .int .i64 0], rfl⟩
end Go.Proofs.Ytjjbiepmfngipaa
