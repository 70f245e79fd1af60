/-
 Contracts of the Reader's methods: Num, Int, Fix, Take; of a nil Reader; and New.
-/
import Derived.Test.YtojhenpaeedimaaBh
import Derived.Test.YtojhenpaeedimaaBc
namespace Go.Proofs.Ytojhenpaeedimaa
open Go.RowKit
open Pk
set_option maxRecDepth 100000
/-- a call that answers v and leaves the Reader of block g as s -/
def Done_ (w : World) (g : Nat) (s : St) (v : Value) (e : Ending) (w' : World) : Prop := e = .returned v ∧ Rdr w' g s ∧ w.grownBy w' (some g)
theorem done_ok {w w' : World} {g : Nat} {s t : St} {v u : Value} {e : Ending} (h : e = .returned u ∧ Rdr w' g t ∧ w.grownBy w' (some g)) (hv : u = v) (hs : t = s) : Done_ w g s v e w' := by
 subst hv; subst hs; exact h
theorem readNum_all (g : Nat) (s : St) (w : World) (h : Rdr w g s) :
  Calls Try.prog 82 #[.pointer (some ⟨g, 0, none⟩), .func (Fn.func 83) #[.pointer (some ⟨g, 0, none⟩)] #[]] w fun e w' => Done_ w g (numS s) (.int .u64 (numV s : Int)) e w' := by
 by_cases he : s.e = 0
 ·cases hr : rd s.l with
  | cut => exact (readNum_die g s he 2 (.inl ⟨hr, rfl⟩) w h).mono fun e w' hq => done_ok hq (by rw [(num_cut he hr).1]; rfl) (num_cut he hr).2.symm
  | long => exact (readNum_die g s he 3 (.inr ⟨hr, rfl⟩) w h).mono fun e w' hq => done_ok hq (by rw [(num_long he hr).1]; rfl) (num_long he hr).2.symm
  | ok n u => exact (readNum_ok g s he n u hr w h).mono fun e w' hq => done_ok hq (by rw [(num_ok he hr).1]) (num_ok he hr).2.symm
 ·exact (readNum_err g s he w h).mono fun e w' hq => done_ok hq (by rw [(num_err he).1]; rfl) (num_err he).2.symm
theorem num_m (g : Nat) (s : St) (w : World) (h : Rdr w g s) :
  Calls Try.prog 56 #[.pointer (some ⟨g, 0, none⟩)] w fun e w' => e = .returned (.int .u64 (numV s : Int)) ∧ Rdr w' g (numS s) ∧ w.grownBy w' (some g) := by
 have hmf := make_func
 go_enter Try.func56, Try.ntmps56
 go_wp2_with (go_at_call 82; refine (readNum_all g s _ h).mono ?_; rintro e w1 ⟨rfl, hr1, ho1⟩)
 go_ret
 exact ⟨rfl, hr1, ho1⟩
theorem readFix_all (g : Nat) (s : St) (w : World) (h : Rdr w g s) :
  Calls Try.prog 82 #[.pointer (some ⟨g, 0, none⟩), .func (Fn.func 99) #[.pointer (some ⟨g, 0, none⟩)] #[]] w fun e w' => Done_ w g (fixS s) (.int .u64 (fixV s : Int)) e w' := by
 by_cases he : s.e = 0
 ·by_cases hl : s.l.length < 8
  ·exact (readFix_die g s he hl w h).mono fun e w' hq => done_ok hq (by rw [(fix_cut he hl).1]; rfl) (fix_cut he hl).2.symm
  ·exact (readFix_ok g s he (by omega) w h).mono fun e w' hq => done_ok hq (by rw [(fix_ok he (by omega)).1]) (fix_ok he (by omega)).2.symm
 ·exact (readFix_err g s he w h).mono fun e w' hq => done_ok hq (by rw [(fix_err he).1]; rfl) (fix_err he).2.symm
theorem fix_m (g : Nat) (s : St) (w : World) (h : Rdr w g s) :
  Calls Try.prog 85 #[.pointer (some ⟨g, 0, none⟩)] w fun e w' => e = .returned (.int .u64 (fixV s : Int)) ∧ Rdr w' g (fixS s) ∧ w.grownBy w' (some g) := by
 have hmf := make_func
 go_enter Try.func85, Try.ntmps85
 go_wp2_with (go_at_call 82; refine (readFix_all g s _ h).mono ?_; rintro e w1 ⟨rfl, hr1, ho1⟩)
 go_ret
 exact ⟨rfl, hr1, ho1⟩
/-- Take's own closure: what it captured is as it was -/
theorem takeFn_in (g k : Nat) (n : Int) (hn : n = (k : Int)) (s : St) (hk : k ≤ s.l.length) (p q : Addr) (w : World) (h : Rdr w g s) (hp : w.cell? p = some (.pointer (some ⟨g, 0, none⟩))) (hq : w.cell? q = some (.int .i64 n)) :
  Calls Try.prog 106 #[.pointer (some p), .pointer (some q)] w fun e w' => e = .returned (.string (ba (s.l.take k))) ∧ Rdr w' g ⟨s.l.drop k, s.e⟩ ∧ w.grownBy w' (some g) := by
 have HN := Lib.hid hn
 clear hn
 go_enter Try.func106, Try.ntmps106
 go_wp2_with (go_at_call 96; refine (take_in g k n HN.out s hk _ h).mono ?_; rintro e w1 ⟨rfl, hr1, ho1⟩)
 go_ret
 exact ⟨rfl, hr1, ho1⟩
theorem takeFn_out (g : Nat) (n : Int) (s : St) (hn : n < 0 ∨ (s.l.length : Int) < n) (p q : Addr) (w : World) (h : Rdr w g s) (hp : w.cell? p = some (.pointer (some ⟨g, 0, none⟩))) (hq : w.cell? q = some (.int .i64 n)) :
  Calls Try.prog 106 #[.pointer (some p), .pointer (some q)] w fun e w' => e = .panicked [{ v := .iface 31 (.int .i64 2), recovered := false }] ∧ w = w' := by
 have HN := Lib.hid hn
 clear hn
 go_enter Try.func106, Try.ntmps106
 go_wp2_with (go_at_call 96; refine (take_out g n s HN.out _ h).mono ?_; rintro e wz ⟨rfl, rfl⟩)
 exact ⟨rfl, rfl, rfl⟩
theorem size_alloc (w : World) (o : Obj) : (w.alloc o).heap.size = w.heap.size + 1 := by simp
theorem lt_of_cellB {w : World} {p : Addr} {v : Value} (h : w.cell? p = some v) : p.block < w.heap.size := World.block_lt_of_cell? w p h
theorem cell_boxed {w : World} {p : Addr} {v : Value} (h : w.cell? p = some v) (o : Obj) : (w.alloc o).cell? p = some v := by
 rw [World.cell?_alloc_lt w o p (lt_of_cellB h)]; exact h
theorem readTake_err (g : Nat) (s : St) (he : s.e ≠ 0) (p q : Addr) (w : World) (h : Rdr w g s) :
  Calls Try.prog 105 #[.pointer (some ⟨g, 0, none⟩), .func (Fn.func 106) #[] #[.pointer (some p), .pointer (some q)]] w fun e w' => e = .returned (.string (ba [])) ∧ Rdr w' g s ∧ w.grownBy w' (some g) := by
 have hd : (s.e != 0) = true := by simpa using he
 have h1 := boxed_rdr h
 clear he
 go_enter_defers Try.func105, Try.ntmps105
 go_wp2_with (go_at_call 57; refine (err_c g s _ h1).mono ?_; rintro e wz ⟨rfl, rfl⟩)
 exact ⟨_, results_tmp rfl _ _ _, rfl, h1, boxed_below g w _⟩
theorem readTake_ok (g k : Nat) (n : Int) (hn : n = (k : Int)) (s : St) (he : s.e = 0) (hk : k ≤ s.l.length) (p q : Addr) (w : World) (h : Rdr w g s) (hp : w.cell? p = some (.pointer (some ⟨g, 0, none⟩))) (hq : w.cell? q = some (.int .i64 n)) :
  Calls Try.prog 105 #[.pointer (some ⟨g, 0, none⟩), .func (Fn.func 106) #[] #[.pointer (some p), .pointer (some q)]] w fun e w' => e = .returned (.string (ba (s.l.take k))) ∧ Rdr w' g ⟨s.l.drop k, 0⟩ ∧ w.grownBy w' (some g) := by
 have hd : (s.e != 0) = false := by simpa using he
 have h1 := boxed_rdr h
 have hend := takeFn_in g k n hn s hk p q _ h1 (cell_boxed hp _) (cell_boxed hq _)
 have HE := Lib.hid he
 have HEND := Lib.hid hend
 have hmf := make_func
 clear he hend hn hp hq hk
 go_enter_defers Try.func105, Try.ntmps105
 go_wp2_with (first | (go_at_call 57; refine (err_c g s _ h1).mono ?_; rintro e wz ⟨rfl, rfl⟩) | (go_at_call 106; refine HEND.out.mono ?_; rintro e w2 ⟨rfl, hr2, ho2⟩))
 refine leaves_cons (f := 112) (args := #[.pointer (some ⟨w.heap.size, 0, none⟩)]) (by simp) (by simp [go_sem]) ?_
 refine (catch_take_idle _ _).mono ?_
 rintro e u' w'' ⟨rfl, rfl, rfl⟩
 exact ⟨_, results_tmp rfl _ _ _, rfl, drop_rdr hr2 HE.out, only_trans (boxed_below g w _) ho2⟩
theorem readTake_die (g : Nat) (n : Int) (s : St) (he : s.e = 0) (hn : n < 0 ∨ (s.l.length : Int) < n) (p q : Addr) (w : World) (h : Rdr w g s) (hp : w.cell? p = some (.pointer (some ⟨g, 0, none⟩))) (hq : w.cell? q = some (.int .i64 n)) :
  Calls Try.prog 105 #[.pointer (some ⟨g, 0, none⟩), .func (Fn.func 106) #[] #[.pointer (some p), .pointer (some q)]] w fun e w' => e = .returned (.string (ba [])) ∧ Rdr w' g ⟨s.l, 2⟩ ∧ w.grownBy w' (some g) := by
 have hd : (s.e != 0) = false := by simpa using he
 have h1 := boxed_rdr h
 have hend := takeFn_out g n s hn p q _ h1 (cell_boxed hp _) (cell_boxed hq _)
 have HEND := Lib.hid hend
 have hmf := make_func
 clear he hend hn hp hq
 go_enter_defers Try.func105, Try.ntmps105
 go_wp2_with (first | (go_at_call 57; refine (err_c g s _ h1).mono ?_; rintro e wz ⟨rfl, rfl⟩) | (go_at_call 106; refine HEND.out.mono ?_; rintro e w2 ⟨rfl, rfl⟩))
 refine leaves_cons (f := 112) (args := #[.pointer (some ⟨w.heap.size, 0, none⟩)]) (by simp) (by simp [go_sem]) ?_
 refine (catch_take_panic _ g s 2 [] _ (boxed_cell g w) h1).mono ?_
 rintro e u' w'' ⟨rfl, rfl, rfl⟩
 exact ⟨_, results_tmp rfl _ _ _, rfl, rdr_setErr h1 2, only_trans (boxed_below g w _) (only_set _ _ _ _)⟩
theorem readTake_all (g : Nat) (n : Int) (s : St) (p q : Addr) (w : World) (h : Rdr w g s) (hp : w.cell? p = some (.pointer (some ⟨g, 0, none⟩))) (hq : w.cell? q = some (.int .i64 n)) :
  Calls Try.prog 105 #[.pointer (some ⟨g, 0, none⟩), .func (Fn.func 106) #[] #[.pointer (some p), .pointer (some q)]] w fun e w' => Done_ w g (takeS n s) (.string (ba (takeV n s))) e w' := by
 by_cases he : s.e = 0
 ·by_cases hn : n < 0 ∨ (s.l.length : Int) < n
  ·exact (readTake_die g n s he hn p q w h hp hq).mono fun e w' hq => done_ok hq (by rw [(take_cut he hn).1]) (take_cut he hn).2.symm
  ·exact (readTake_ok g n.toNat n (by omega) s he (by omega) p q w h hp hq).mono fun e w' hq => done_ok hq (by rw [(take_ok he hn).1]) (take_ok he hn).2.symm
 ·exact (readTake_err g s he p q w h).mono fun e w' hq => done_ok hq (by rw [(take_err he).1]) (take_err he).2.symm
theorem take_m (g : Nat) (n : Int) (s : St) (w : World) (h : Rdr w g s) :
  Calls Try.prog 98 #[.pointer (some ⟨g, 0, none⟩), .int .i64 n] w fun e w' => e = .returned (.string (ba (takeV n s))) ∧ Rdr w' g (takeS n s) ∧ w.grownBy w' (some g) := by
 have hmf := make_func
 have h2 := is_alloc (boxed_rdr h) (.cells #[.int .i64 n] 3)
 have hp := cell_boxed (boxed_cell g w) (.cells #[.int .i64 n] 3)
 have hq := is_cell (is_new (w.alloc (.cells #[.pointer (some ⟨g, 0, none⟩)] 56)) 3 [.int .i64 n]) 0
 rw [size_alloc] at hq
 have HALL := Lib.hid (readTake_all g n s _ _ _ h2 hp hq)
 have ho := only_trans (boxed_below g w (.cells #[.pointer (some ⟨g, 0, none⟩)] 56)) (boxed_below g _ (.cells #[.int .i64 n] 3))
 clear h2 hp hq h
 go_enter Try.func98, Try.ntmps98
 go_wp2_with (go_at_call 105; refine HALL.out.mono ?_; rintro e w1 ⟨rfl, hr1, ho1⟩)
 go_ret
 exact ⟨rfl, hr1, only_trans ho ho1⟩
theorem new_c (l : List UInt8) (w : World) :
  Calls Try.prog 30 #[.string (ba l)] w fun e w' => e = .returned (.pointer (some ⟨w.heap.size, 0, none⟩)) ∧ Rdr w' w.heap.size ⟨l, 0⟩ ∧ w' = w.alloc (.cells #[.string (ba l), .int .i64 0] 86) := by
 go_enter Try.func30, Try.ntmps30
 go_wp2
 go_ret
 exact ⟨rfl, is_new w 86 [.string (ba l), .int .i64 0], rfl⟩
end Go.Proofs.Ytojhenpaeedimaa
