/-
  A move's row, whether it may be, and its place by its time: the program's, and the document's.
-/
import Derived.Test.YtbhejaokkkggjaaUd
import Derived.Laws.StructEq
namespace Go.Proofs.Ytbhejaokkkggjaa
open Go.RowKit Go.IntWalk
open Wd Fl
set_option maxRecDepth 100000
attribute [local go_sem] Oper.semAt_some

theorem time_under : Try.prog.underlying 35 = some (.struct (Try.prog.fieldsOf 35)) := by kernel_rfl
theorem time_stood : Try.prog.stoodInHeld 35 = false := by kernel_rfl
theorem time_guard : Try.prog.eqGuardType Try.prog.depth 35 = false := by kernel_rfl
theorem eql_times (a b c d : Int) (w : World) : (binOp .eql 35 (.agg #[.int .i64 a, .int .i64 b]) (.agg #[.int .i64 c, .int .i64 d])).run Try.prog w = .ok (.bool (decide (c = a) && decide (d = b))) w := by
  rw [run_eql_struct, show (10000 : Nat) = 9999 + 1 from rfl, run_equalIn_agg w 9999 _ _ _ time_under time_stood]
  simp only [Program.fieldsOf, Try.underlying35]
  simp [Op.eqFields, go_sem, run_equalIn_int _ 9998 _ _ _ _ _ Try.underlying3]
  by_cases h1 : a = c <;> by_cases h2 : b = d <;> simp [h1, h2, eq_comm]
attribute [-go_sem] run_eql_struct

theorem mrow_c (m : Mv) (w : World) :
    Calls Try.prog 91 #[mv m] w fun e w' => e = .returned (rv (mw m)) ∧ Below w.heap.size w w' := by
  obtain ⟨c, r, k, p, n, f⟩ := m
  show Calls Try.prog 91 #[.agg #[.int .i64 c, .int .i64 r, .int .i64 p, .int .i64 k, .string (ba n), .float .f64 f]] w fun e w' => e = .returned (.agg #[.int .i64 k, .int .i64 p, .string (ba n), .float .f64 f]) ∧ _
  go_enter Try.func91, Try.ntmps91
  go_wp2
  refine bodyPost_ret (v := .agg #[.int .i64 k, .int .i64 p, .string (ba n), .float .f64 f]) (by simp [results, Try.f91, go_sem]) rfl ?_
  exact ⟨rfl, by go_grown⟩
theorem rmrow_c (m : Mv) (w : World) :
    Calls Try.prog 66 #[mv m] w fun e w' => e = .returned (rv (mw m)) ∧ Below w.heap.size w w' := by
  obtain ⟨c, r, k, p, n, f⟩ := m
  show Calls Try.prog 66 #[.agg #[.int .i64 c, .int .i64 r, .int .i64 p, .int .i64 k, .string (ba n), .float .f64 f]] w fun e w' => e = .returned (.agg #[.int .i64 k, .int .i64 p, .string (ba n), .float .f64 f]) ∧ _
  go_enter Try.func66, Try.ntmps66
  go_wp2
  refine bodyPost_ret (v := .agg #[.int .i64 k, .int .i64 p, .string (ba n), .float .f64 f]) (by simp [results, Try.f66, go_sem]) rfl ?_
  exact ⟨rfl, by go_grown⟩

def isT (c r : Int) (m : Mv) : Bool := decide (mc m = c) && decide (mr m = r)
theorem mis_c (c r : Int) (m : Mv) (w : World) :
    Calls Try.prog 82 #[.agg #[.int .i64 c, .int .i64 r], mv m] w fun e w' => e = .returned (.bool (isT c r m)) ∧ Below w.heap.size w w' := by
  obtain ⟨c2, r2, k, p, n, f⟩ := m
  show Calls Try.prog 82 #[.agg #[.int .i64 c, .int .i64 r], .agg #[.int .i64 c2, .int .i64 r2, .int .i64 p, .int .i64 k, .string (ba n), .float .f64 f]] w fun e w' => e = .returned (.bool (decide (c2 = c) && decide (r2 = r))) ∧ _
  have hq := fun w => eql_times c r c2 r2 w
  obtain ⟨q, hqq⟩ : ∃ q, (decide (c2 = c) && decide (r2 = r)) = q := ⟨_, rfl⟩
  rw [hqq] at hq ⊢
  clear hqq
  have hg := time_guard
  go_enter Try.func82, Try.ntmps82
  go_wp2
  go_ret
  exact ⟨rfl, by go_grown⟩
theorem mbefore_c (c r : Int) (m : Mv) (w : World) :
    Calls Try.prog 83 #[.agg #[.int .i64 c, .int .i64 r], mv m] w fun e w' => e = .returned (.bool (befM c r m)) ∧ Below w.heap.size w w' := by
  obtain ⟨c2, r2, k, p, n, f⟩ := m
  show Calls Try.prog 83 #[.agg #[.int .i64 c, .int .i64 r], .agg #[.int .i64 c2, .int .i64 r2, .int .i64 p, .int .i64 k, .string (ba n), .float .f64 f]] w fun e w' => e = .returned (.bool (befT c r c2 r2)) ∧ _
  have hb := ((Below.refl w.heap.size w).alloc (Nat.le_refl _) (.cells #[.int .i64 c, .int .i64 r] 110)).alloc (by simp) (.cells #[.int .i64 c2, .int .i64 r2, .int .i64 p, .int .i64 k, .string (ba n), .float .f64 f] 38)
  go_enter Try.func83, Try.ntmps83
  go_wp2_with fail
  refine (bef_c c r c2 r2 _).mono ?_
  rintro e w1 ⟨rfl, hb1⟩
  go_wp2_with fail
  go_ret
  exact ⟨rfl, hb.trans (hb1.mono hb.size)⟩

/-- a way of standing that was handed on, asked of a move -/
theorem mfirstF_c (g : Nat) (p : Mv → Bool) (c r : Int) (S T : Nat) (eg : ∀ args w, (callFunc g args).run Try.prog w = .ok (.enter g args) w)
    (hp : ∀ (m : Mv) (w : World), Calls Try.prog g #[.agg #[.int .i64 c, .int .i64 r], mv m] w fun e w' => e = .returned (.bool (p m)) ∧ Below w.heap.size w w') (m : Mv) (w : World)
    (h0 : w.cell? ⟨S, 0, none⟩ = some (.func (.func g) #[] #[])) (h1 : w.cell? ⟨T, 0, none⟩ = some (.int .i64 c)) (h2 : w.cell? ⟨T, 1, none⟩ = some (.int .i64 r)) :
    Calls Try.prog 103 #[mv m, .pointer (some ⟨S, 0, none⟩), .pointer (some ⟨T, 0, none⟩)] w fun e w' => e = .returned (.bool (p m)) ∧ Below w.heap.size w w' := by
  have HP := Lib.hid hp
  clear hp
  have hb := (Below.refl w.heap.size w).alloc (Nat.le_refl _) (.cells (mcs m).toArray 38)
  have k0 := keep_cell hb h0
  have k1 := keep_cell hb h1
  have k2 := keep_cell hb h2
  unfold mcs at hb k0 k1 k2
  show Calls Try.prog 103 #[.agg #[.int .i64 (mc m), .int .i64 (mr m), .int .i64 (pa (mw m)), .int .i64 (ch (mw m)), .string (ba (nm (mw m))), .float .f64 (rk (mw m))], .pointer (some ⟨S, 0, none⟩), .pointer (some ⟨T, 0, none⟩)] w _
  have hcall := fun W => HP.out m W
  unfold mv at hcall
  have HCALL := Lib.hid hcall
  clear hcall
  go_enter Try.func103, Try.ntmps103
  go_wp2_with (go_at_fn g; refine (HCALL.out _).mono ?_; rintro e w1 ⟨rfl, hb1⟩)
  go_ret
  exact ⟨rfl, hb.trans (hb1.mono hb.size)⟩
theorem mfirst_c (g : Nat) (p : Mv → Bool) (c r : Int) (eg : ∀ args w, (callFunc g args).run Try.prog w = .ok (.enter g args) w)
    (hp : ∀ (m : Mv) (w : World), Calls Try.prog g #[.agg #[.int .i64 c, .int .i64 r], mv m] w fun e w' => e = .returned (.bool (p m)) ∧ Below w.heap.size w w')
    (A : Option Addr) (cap : Nat) (l : List Mv) (hl : l.length ≤ maxLen) (w : World) (hc : At w w.heap.size A (mvs l)) :
    Calls Try.prog 81 #[.slice A l.length cap, .agg #[.int .i64 c, .int .i64 r], .func (.func g) #[] #[]] w fun e w' => e = .returned (.int .i64 (idxM p l)) ∧ Below w.heap.size w w' := by
  have hb := ((Below.refl w.heap.size w).alloc (Nat.le_refl _) (.cells #[.int .i64 c, .int .i64 r] 35)).alloc (by simp) (.cells #[.func (.func g) #[] #[]] 109)
  have hcw := hc.keep hb
  have hmf : ∀ (fn : Fn) (first cap : Array Value) (w : World), (Instr.makeFunc fn first cap).run Try.prog w = .ok (.func fn first cap) w := fun _ _ _ _ => rfl
  have hpred : PredM 103 #[.pointer (some ⟨w.heap.size + 1, 0, none⟩), .pointer (some ⟨w.heap.size, 0, none⟩)] p ((w.alloc (.cells #[.int .i64 c, .int .i64 r] 35)).alloc (.cells #[.func (.func g) #[] #[]] 109)) l := by
    intro W m hW _
    have t0 : ((w.alloc (.cells #[.int .i64 c, .int .i64 r] 35)).alloc (.cells #[.func (.func g) #[] #[]] 109)).cell? ⟨w.heap.size + 1, 0, none⟩ = some (.func (.func g) #[] #[]) := by
      rw [World.cell?_alloc_at _ _ _ _ (by simp)]; rfl
    have t1 : ∀ i v, #[Value.int .i64 c, Value.int .i64 r][i]? = some v → ((w.alloc (.cells #[.int .i64 c, .int .i64 r] 35)).alloc (.cells #[.func (.func g) #[] #[]] 109)).cell? ⟨w.heap.size, i, none⟩ = some v := fun i v hv => by
      rw [World.cell?_alloc_past _ _ _ (by simp), World.cell?_alloc_at _ _ _ _ rfl]; exact hv
    exact mfirstF_c g p c r _ _ eg hp m W (keep_cell hW t0) (keep_cell hW (t1 0 _ rfl)) (keep_cell hW (t1 1 _ rfl))
  have HPRED := Lib.hid hpred
  have HC := Lib.hid hcw
  have HL := Lib.hid hl
  clear hpred hcw hc hl hp
  go_enter Try.func81, Try.ntmps81
  go_wp2_with fail
  refine (mindexFunc_c A cap l _ _ p HL.out (enters_of Try.func103 (by kernel_rfl) rfl) _ HC.out HPRED.out).mono ?_
  rintro e w1 ⟨rfl, hb1⟩
  go_wp2_with fail
  go_ret
  exact ⟨rfl, hb.trans (hb1.mono hb.size)⟩
theorem mfirst_is (c r x : Int) (A : Option Addr) (cap : Nat) (l : List Mv) (hx : idxM (isT c r) l = x) (hl : l.length ≤ maxLen) (w : World) (hc : At w w.heap.size A (mvs l)) :
    Calls Try.prog 81 #[.slice A l.length cap, .agg #[.int .i64 c, .int .i64 r], .func (.func 82) #[] #[]] w fun e w' => e = .returned (.int .i64 x) ∧ Below w.heap.size w w' := by
  subst hx
  exact mfirst_c _ _ c r (enters_of Try.func82 (by kernel_rfl) rfl) (fun m w => mis_c c r m w) A cap l hl w hc
theorem mfirst_bef (c r x : Int) (A : Option Addr) (cap : Nat) (l : List Mv) (hx : idxM (befM c r) l = x) (hl : l.length ≤ maxLen) (w : World) (hc : At w w.heap.size A (mvs l)) :
    Calls Try.prog 81 #[.slice A l.length cap, .agg #[.int .i64 c, .int .i64 r], .func (.func 83) #[] #[]] w fun e w' => e = .returned (.int .i64 x) ∧ Below w.heap.size w w' := by
  subst hx
  exact mfirst_c _ _ c r (enters_of Try.func83 (by kernel_rfl) rfl) (fun m w => mbefore_c c r m w) A cap l hl w hc
theorem box6 {w : World} {G : Nat} {m : Mv} (h : Is w G 38 [.int .i64 (mc m), .int .i64 (mr m), .int .i64 (pa (mw m)), .int .i64 (ch (mw m)), .string (ba (nm (mw m))), .float .f64 (rk (mw m))]) :
    w.cell? ⟨G, 0, none⟩ = some (.int .i64 (mc m)) ∧ w.cell? ⟨G, 1, none⟩ = some (.int .i64 (mr m)) ∧ w.cell? ⟨G, 2, none⟩ = some (.int .i64 (pa (mw m))) ∧ w.cell? ⟨G, 3, none⟩ = some (.int .i64 (ch (mw m))) ∧ w.cell? ⟨G, 4, none⟩ = some (.string (ba (nm (mw m)))) ∧ w.cell? ⟨G, 5, none⟩ = some (.float .f64 (rk (mw m))) :=
  ⟨is_cell h 0, is_cell h 1, is_cell h 2, is_cell h 3, is_cell h 4, is_cell h 5⟩
end Go.Proofs.Ytbhejaokkkggjaa
