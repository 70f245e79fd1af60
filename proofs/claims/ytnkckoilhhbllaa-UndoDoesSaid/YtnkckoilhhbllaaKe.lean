/-
  The walk of UndoDoes.
-/
import Derived.Test.YtnkckoilhhbllaaKc
namespace Go.Proofs.Ytnkckoilhhbllaa
open Go.RowKit Go.IntWalk
open Gr
set_option maxRecDepth 100000
attribute [local go_sem] Oper.semAt_some

theorem rpalike_t {a : Sp} (ha : rk (mw (sm a)) < 18446744073709551616) (ha2 : rk (so a) < 18446744073709551616) (w : World) :
    Calls Try.prog 40 #[.agg #[.int .i64 (mc (sm a)), .int .i64 (mr (sm a)), .int .i64 (pa (mw (sm a))), .int .i64 (ch (mw (sm a))), .string (ba (nm (mw (sm a)))), .float .f64 (rk (mw (sm a))), .bool (sd a), .bool (sh a), .int .i64 (ch (so a)), .int .i64 (pa (so a)), .string (ba (nm (so a))), .float .f64 (rk (so a))], .agg #[.int .i64 (mc (sm a)), .int .i64 (mr (sm a)), .int .i64 (pa (mw (sm a))), .int .i64 (ch (mw (sm a))), .string (ba (nm (mw (sm a)))), .float .f64 (rk (mw (sm a))), .bool (sd a), .bool (sh a), .int .i64 (ch (so a)), .int .i64 (pa (so a)), .string (ba (nm (so a))), .float .f64 (rk (so a))]] w fun e w' => e = .returned (.bool true) ∧ Below w.heap.size w w' :=
  rpalike_k (alikeS_refl a) ha ha ha2 ha2 w
theorem mundo_k {A : Option Addr} {cap : Nat} {l X : List Rw} {s : Sp} (hX : undoP l s = X) (hl : l.length ≤ 100000) (hA : A = none → cap = 0) (hcap : l.length ≤ cap) {w : World} (hc : At w w.heap.size A (tvs l)) :
    Calls Try.prog 41 #[.slice A l.length cap, .agg #[.int .i64 (mc (sm s)), .int .i64 (mr (sm s)), .int .i64 (pa (mw (sm s))), .int .i64 (ch (mw (sm s))), .string (ba (nm (mw (sm s)))), .float .f64 (rk (mw (sm s))), .bool (sd s), .bool (sh s), .int .i64 (ch (so s)), .int .i64 (pa (so s)), .string (ba (nm (so s))), .float .f64 (rk (so s))]] w (Told_ X w) := by
  subst hX
  exact mundo_c A cap l s hl hA hcap w hc
theorem rundo_k {A : Option Addr} {cap : Nat} {l X : List Rw} {s : Sp} (hX : undoP l s = X) (hl : l.length ≤ 100000) (hA : A = none → cap = 0) (hcap : l.length ≤ cap) {w : World} (hc : At w w.heap.size A (tvs l)) :
    Calls Try.prog 42 #[.slice A l.length cap, .agg #[.int .i64 (mc (sm s)), .int .i64 (mr (sm s)), .int .i64 (pa (mw (sm s))), .int .i64 (ch (mw (sm s))), .string (ba (nm (mw (sm s)))), .float .f64 (rk (mw (sm s))), .bool (sd s), .bool (sh s), .int .i64 (ch (so s)), .int .i64 (pa (so s)), .string (ba (nm (so s))), .float .f64 (rk (so s))]] w (Told_ X w) := by
  subst hX
  exact rundo_c A cap l s hl hA hcap w hc

theorem hold36 {G5 G8 G10 : Nat} {s x : Sp} {w1 W W' : World} (h : W.cell? ⟨G5, 0, none⟩ = some (.int .i64 (mc (sm s))) ∧ W.cell? ⟨G5, 1, none⟩ = some (.int .i64 (mr (sm s))) ∧ W.cell? ⟨G5, 2, none⟩ = some (.int .i64 (pa (mw (sm s)))) ∧ W.cell? ⟨G5, 3, none⟩ = some (.int .i64 (ch (mw (sm s)))) ∧ W.cell? ⟨G5, 4, none⟩ = some (.string (ba (nm (mw (sm s))))) ∧ W.cell? ⟨G5, 5, none⟩ = some (.float .f64 (rk (mw (sm s)))) ∧ W.cell? ⟨G5, 6, none⟩ = some (.bool (sd s)) ∧ W.cell? ⟨G5, 7, none⟩ = some (.bool (sh s)) ∧ W.cell? ⟨G5, 8, none⟩ = some (.int .i64 (ch (so s))) ∧ W.cell? ⟨G5, 9, none⟩ = some (.int .i64 (pa (so s))) ∧ W.cell? ⟨G5, 10, none⟩ = some (.string (ba (nm (so s)))) ∧ W.cell? ⟨G5, 11, none⟩ = some (.float .f64 (rk (so s))) ∧ W.cell? ⟨G8, 0, none⟩ = some (.int .i64 (mc (sm x))) ∧ W.cell? ⟨G8, 1, none⟩ = some (.int .i64 (mr (sm x))) ∧ W.cell? ⟨G8, 2, none⟩ = some (.int .i64 (pa (mw (sm x)))) ∧ W.cell? ⟨G8, 3, none⟩ = some (.int .i64 (ch (mw (sm x)))) ∧ W.cell? ⟨G8, 4, none⟩ = some (.string (ba (nm (mw (sm x))))) ∧ W.cell? ⟨G8, 5, none⟩ = some (.float .f64 (rk (mw (sm x)))) ∧ W.cell? ⟨G8, 6, none⟩ = some (.bool (sd x)) ∧ W.cell? ⟨G8, 7, none⟩ = some (.bool (sh x)) ∧ W.cell? ⟨G8, 8, none⟩ = some (.int .i64 (ch (so x))) ∧ W.cell? ⟨G8, 9, none⟩ = some (.int .i64 (pa (so x))) ∧ W.cell? ⟨G8, 10, none⟩ = some (.string (ba (nm (so x)))) ∧ W.cell? ⟨G8, 11, none⟩ = some (.float .f64 (rk (so x))) ∧ W.cell? ⟨G10, 0, none⟩ = some (.int .i64 (mc (sm x))) ∧ W.cell? ⟨G10, 1, none⟩ = some (.int .i64 (mr (sm x))) ∧ W.cell? ⟨G10, 2, none⟩ = some (.int .i64 (pa (mw (sm x)))) ∧ W.cell? ⟨G10, 3, none⟩ = some (.int .i64 (ch (mw (sm x)))) ∧ W.cell? ⟨G10, 4, none⟩ = some (.string (ba (nm (mw (sm x))))) ∧ W.cell? ⟨G10, 5, none⟩ = some (.float .f64 (rk (mw (sm x)))) ∧ W.cell? ⟨G10, 6, none⟩ = some (.bool (sd x)) ∧ W.cell? ⟨G10, 7, none⟩ = some (.bool (sh x)) ∧ W.cell? ⟨G10, 8, none⟩ = some (.int .i64 (ch (so x))) ∧ W.cell? ⟨G10, 9, none⟩ = some (.int .i64 (pa (so x))) ∧ W.cell? ⟨G10, 10, none⟩ = some (.string (ba (nm (so x)))) ∧ W.cell? ⟨G10, 11, none⟩ = some (.float .f64 (rk (so x))) ∧ Below w1.heap.size w1 W) (hb : Below W.heap.size W W') : W'.cell? ⟨G5, 0, none⟩ = some (.int .i64 (mc (sm s))) ∧ W'.cell? ⟨G5, 1, none⟩ = some (.int .i64 (mr (sm s))) ∧ W'.cell? ⟨G5, 2, none⟩ = some (.int .i64 (pa (mw (sm s)))) ∧ W'.cell? ⟨G5, 3, none⟩ = some (.int .i64 (ch (mw (sm s)))) ∧ W'.cell? ⟨G5, 4, none⟩ = some (.string (ba (nm (mw (sm s))))) ∧ W'.cell? ⟨G5, 5, none⟩ = some (.float .f64 (rk (mw (sm s)))) ∧ W'.cell? ⟨G5, 6, none⟩ = some (.bool (sd s)) ∧ W'.cell? ⟨G5, 7, none⟩ = some (.bool (sh s)) ∧ W'.cell? ⟨G5, 8, none⟩ = some (.int .i64 (ch (so s))) ∧ W'.cell? ⟨G5, 9, none⟩ = some (.int .i64 (pa (so s))) ∧ W'.cell? ⟨G5, 10, none⟩ = some (.string (ba (nm (so s)))) ∧ W'.cell? ⟨G5, 11, none⟩ = some (.float .f64 (rk (so s))) ∧ W'.cell? ⟨G8, 0, none⟩ = some (.int .i64 (mc (sm x))) ∧ W'.cell? ⟨G8, 1, none⟩ = some (.int .i64 (mr (sm x))) ∧ W'.cell? ⟨G8, 2, none⟩ = some (.int .i64 (pa (mw (sm x)))) ∧ W'.cell? ⟨G8, 3, none⟩ = some (.int .i64 (ch (mw (sm x)))) ∧ W'.cell? ⟨G8, 4, none⟩ = some (.string (ba (nm (mw (sm x))))) ∧ W'.cell? ⟨G8, 5, none⟩ = some (.float .f64 (rk (mw (sm x)))) ∧ W'.cell? ⟨G8, 6, none⟩ = some (.bool (sd x)) ∧ W'.cell? ⟨G8, 7, none⟩ = some (.bool (sh x)) ∧ W'.cell? ⟨G8, 8, none⟩ = some (.int .i64 (ch (so x))) ∧ W'.cell? ⟨G8, 9, none⟩ = some (.int .i64 (pa (so x))) ∧ W'.cell? ⟨G8, 10, none⟩ = some (.string (ba (nm (so x)))) ∧ W'.cell? ⟨G8, 11, none⟩ = some (.float .f64 (rk (so x))) ∧ W'.cell? ⟨G10, 0, none⟩ = some (.int .i64 (mc (sm x))) ∧ W'.cell? ⟨G10, 1, none⟩ = some (.int .i64 (mr (sm x))) ∧ W'.cell? ⟨G10, 2, none⟩ = some (.int .i64 (pa (mw (sm x)))) ∧ W'.cell? ⟨G10, 3, none⟩ = some (.int .i64 (ch (mw (sm x)))) ∧ W'.cell? ⟨G10, 4, none⟩ = some (.string (ba (nm (mw (sm x))))) ∧ W'.cell? ⟨G10, 5, none⟩ = some (.float .f64 (rk (mw (sm x)))) ∧ W'.cell? ⟨G10, 6, none⟩ = some (.bool (sd x)) ∧ W'.cell? ⟨G10, 7, none⟩ = some (.bool (sh x)) ∧ W'.cell? ⟨G10, 8, none⟩ = some (.int .i64 (ch (so x))) ∧ W'.cell? ⟨G10, 9, none⟩ = some (.int .i64 (pa (so x))) ∧ W'.cell? ⟨G10, 10, none⟩ = some (.string (ba (nm (so x)))) ∧ W'.cell? ⟨G10, 11, none⟩ = some (.float .f64 (rk (so x))) ∧ Below w1.heap.size w1 W' := by
  obtain ⟨p0, p1, p2, p3, p4, p5, p6, p7, p8, p9, p10, p11, q0, q1, q2, q3, q4, q5, q6, q7, q8, q9, q10, q11, r0, r1, r2, r3, r4, r5, r6, r7, r8, r9, r10, r11, hB⟩ := h
  exact ⟨keep_cell hb p0, keep_cell hb p1, keep_cell hb p2, keep_cell hb p3, keep_cell hb p4, keep_cell hb p5, keep_cell hb p6, keep_cell hb p7, keep_cell hb p8, keep_cell hb p9, keep_cell hb p10, keep_cell hb p11, keep_cell hb q0, keep_cell hb q1, keep_cell hb q2, keep_cell hb q3, keep_cell hb q4, keep_cell hb q5, keep_cell hb q6, keep_cell hb q7, keep_cell hb q8, keep_cell hb q9, keep_cell hb q10, keep_cell hb q11, keep_cell hb r0, keep_cell hb r1, keep_cell hb r2, keep_cell hb r3, keep_cell hb r4, keep_cell hb r5, keep_cell hb r6, keep_cell hb r7, keep_cell hb r8, keep_cell hb r9, keep_cell hb r10, keep_cell hb r11, hB.trans (hb.mono hB.size)⟩
theorem hold36d {G5 G8 G10 : Nat} {s x : Sp} {w1 W : World} (h : W.cell? ⟨G5, 0, none⟩ = some (.int .i64 (mc (sm s))) ∧ W.cell? ⟨G5, 1, none⟩ = some (.int .i64 (mr (sm s))) ∧ W.cell? ⟨G5, 2, none⟩ = some (.int .i64 (pa (mw (sm s)))) ∧ W.cell? ⟨G5, 3, none⟩ = some (.int .i64 (ch (mw (sm s)))) ∧ W.cell? ⟨G5, 4, none⟩ = some (.string (ba (nm (mw (sm s))))) ∧ W.cell? ⟨G5, 5, none⟩ = some (.float .f64 (rk (mw (sm s)))) ∧ W.cell? ⟨G5, 6, none⟩ = some (.bool (sd s)) ∧ W.cell? ⟨G5, 7, none⟩ = some (.bool (sh s)) ∧ W.cell? ⟨G5, 8, none⟩ = some (.int .i64 (ch (so s))) ∧ W.cell? ⟨G5, 9, none⟩ = some (.int .i64 (pa (so s))) ∧ W.cell? ⟨G5, 10, none⟩ = some (.string (ba (nm (so s)))) ∧ W.cell? ⟨G5, 11, none⟩ = some (.float .f64 (rk (so s))) ∧ W.cell? ⟨G8, 0, none⟩ = some (.int .i64 (mc (sm x))) ∧ W.cell? ⟨G8, 1, none⟩ = some (.int .i64 (mr (sm x))) ∧ W.cell? ⟨G8, 2, none⟩ = some (.int .i64 (pa (mw (sm x)))) ∧ W.cell? ⟨G8, 3, none⟩ = some (.int .i64 (ch (mw (sm x)))) ∧ W.cell? ⟨G8, 4, none⟩ = some (.string (ba (nm (mw (sm x))))) ∧ W.cell? ⟨G8, 5, none⟩ = some (.float .f64 (rk (mw (sm x)))) ∧ W.cell? ⟨G8, 6, none⟩ = some (.bool (sd x)) ∧ W.cell? ⟨G8, 7, none⟩ = some (.bool (sh x)) ∧ W.cell? ⟨G8, 8, none⟩ = some (.int .i64 (ch (so x))) ∧ W.cell? ⟨G8, 9, none⟩ = some (.int .i64 (pa (so x))) ∧ W.cell? ⟨G8, 10, none⟩ = some (.string (ba (nm (so x)))) ∧ W.cell? ⟨G8, 11, none⟩ = some (.float .f64 (rk (so x))) ∧ W.cell? ⟨G10, 0, none⟩ = some (.int .i64 (mc (sm x))) ∧ W.cell? ⟨G10, 1, none⟩ = some (.int .i64 (mr (sm x))) ∧ W.cell? ⟨G10, 2, none⟩ = some (.int .i64 (pa (mw (sm x)))) ∧ W.cell? ⟨G10, 3, none⟩ = some (.int .i64 (ch (mw (sm x)))) ∧ W.cell? ⟨G10, 4, none⟩ = some (.string (ba (nm (mw (sm x))))) ∧ W.cell? ⟨G10, 5, none⟩ = some (.float .f64 (rk (mw (sm x)))) ∧ W.cell? ⟨G10, 6, none⟩ = some (.bool (sd x)) ∧ W.cell? ⟨G10, 7, none⟩ = some (.bool (sh x)) ∧ W.cell? ⟨G10, 8, none⟩ = some (.int .i64 (ch (so x))) ∧ W.cell? ⟨G10, 9, none⟩ = some (.int .i64 (pa (so x))) ∧ W.cell? ⟨G10, 10, none⟩ = some (.string (ba (nm (so x)))) ∧ W.cell? ⟨G10, 11, none⟩ = some (.float .f64 (rk (so x))) ∧ Below w1.heap.size w1 W) : W.drew.cell? ⟨G5, 0, none⟩ = some (.int .i64 (mc (sm s))) ∧ W.drew.cell? ⟨G5, 1, none⟩ = some (.int .i64 (mr (sm s))) ∧ W.drew.cell? ⟨G5, 2, none⟩ = some (.int .i64 (pa (mw (sm s)))) ∧ W.drew.cell? ⟨G5, 3, none⟩ = some (.int .i64 (ch (mw (sm s)))) ∧ W.drew.cell? ⟨G5, 4, none⟩ = some (.string (ba (nm (mw (sm s))))) ∧ W.drew.cell? ⟨G5, 5, none⟩ = some (.float .f64 (rk (mw (sm s)))) ∧ W.drew.cell? ⟨G5, 6, none⟩ = some (.bool (sd s)) ∧ W.drew.cell? ⟨G5, 7, none⟩ = some (.bool (sh s)) ∧ W.drew.cell? ⟨G5, 8, none⟩ = some (.int .i64 (ch (so s))) ∧ W.drew.cell? ⟨G5, 9, none⟩ = some (.int .i64 (pa (so s))) ∧ W.drew.cell? ⟨G5, 10, none⟩ = some (.string (ba (nm (so s)))) ∧ W.drew.cell? ⟨G5, 11, none⟩ = some (.float .f64 (rk (so s))) ∧ W.drew.cell? ⟨G8, 0, none⟩ = some (.int .i64 (mc (sm x))) ∧ W.drew.cell? ⟨G8, 1, none⟩ = some (.int .i64 (mr (sm x))) ∧ W.drew.cell? ⟨G8, 2, none⟩ = some (.int .i64 (pa (mw (sm x)))) ∧ W.drew.cell? ⟨G8, 3, none⟩ = some (.int .i64 (ch (mw (sm x)))) ∧ W.drew.cell? ⟨G8, 4, none⟩ = some (.string (ba (nm (mw (sm x))))) ∧ W.drew.cell? ⟨G8, 5, none⟩ = some (.float .f64 (rk (mw (sm x)))) ∧ W.drew.cell? ⟨G8, 6, none⟩ = some (.bool (sd x)) ∧ W.drew.cell? ⟨G8, 7, none⟩ = some (.bool (sh x)) ∧ W.drew.cell? ⟨G8, 8, none⟩ = some (.int .i64 (ch (so x))) ∧ W.drew.cell? ⟨G8, 9, none⟩ = some (.int .i64 (pa (so x))) ∧ W.drew.cell? ⟨G8, 10, none⟩ = some (.string (ba (nm (so x)))) ∧ W.drew.cell? ⟨G8, 11, none⟩ = some (.float .f64 (rk (so x))) ∧ W.drew.cell? ⟨G10, 0, none⟩ = some (.int .i64 (mc (sm x))) ∧ W.drew.cell? ⟨G10, 1, none⟩ = some (.int .i64 (mr (sm x))) ∧ W.drew.cell? ⟨G10, 2, none⟩ = some (.int .i64 (pa (mw (sm x)))) ∧ W.drew.cell? ⟨G10, 3, none⟩ = some (.int .i64 (ch (mw (sm x)))) ∧ W.drew.cell? ⟨G10, 4, none⟩ = some (.string (ba (nm (mw (sm x))))) ∧ W.drew.cell? ⟨G10, 5, none⟩ = some (.float .f64 (rk (mw (sm x)))) ∧ W.drew.cell? ⟨G10, 6, none⟩ = some (.bool (sd x)) ∧ W.drew.cell? ⟨G10, 7, none⟩ = some (.bool (sh x)) ∧ W.drew.cell? ⟨G10, 8, none⟩ = some (.int .i64 (ch (so x))) ∧ W.drew.cell? ⟨G10, 9, none⟩ = some (.int .i64 (pa (so x))) ∧ W.drew.cell? ⟨G10, 10, none⟩ = some (.string (ba (nm (so x)))) ∧ W.drew.cell? ⟨G10, 11, none⟩ = some (.float .f64 (rk (so x))) ∧ Below w1.heap.size w1 W.drew := by
  obtain ⟨p0, p1, p2, p3, p4, p5, p6, p7, p8, p9, p10, p11, q0, q1, q2, q3, q4, q5, q6, q7, q8, q9, q10, q11, r0, r1, r2, r3, r4, r5, r6, r7, r8, r9, r10, r11, hB⟩ := h
  exact ⟨p0, p1, p2, p3, p4, p5, p6, p7, p8, p9, p10, p11, q0, q1, q2, q3, q4, q5, q6, q7, q8, q9, q10, q11, r0, r1, r2, r3, r4, r5, r6, r7, r8, r9, r10, r11, hB.drew⟩
theorem hold36b {G5 G8 G10 : Nat} {s x : Sp} {w1 W : World} (h : W.cell? ⟨G5, 0, none⟩ = some (.int .i64 (mc (sm s))) ∧ W.cell? ⟨G5, 1, none⟩ = some (.int .i64 (mr (sm s))) ∧ W.cell? ⟨G5, 2, none⟩ = some (.int .i64 (pa (mw (sm s)))) ∧ W.cell? ⟨G5, 3, none⟩ = some (.int .i64 (ch (mw (sm s)))) ∧ W.cell? ⟨G5, 4, none⟩ = some (.string (ba (nm (mw (sm s))))) ∧ W.cell? ⟨G5, 5, none⟩ = some (.float .f64 (rk (mw (sm s)))) ∧ W.cell? ⟨G5, 6, none⟩ = some (.bool (sd s)) ∧ W.cell? ⟨G5, 7, none⟩ = some (.bool (sh s)) ∧ W.cell? ⟨G5, 8, none⟩ = some (.int .i64 (ch (so s))) ∧ W.cell? ⟨G5, 9, none⟩ = some (.int .i64 (pa (so s))) ∧ W.cell? ⟨G5, 10, none⟩ = some (.string (ba (nm (so s)))) ∧ W.cell? ⟨G5, 11, none⟩ = some (.float .f64 (rk (so s))) ∧ W.cell? ⟨G8, 0, none⟩ = some (.int .i64 (mc (sm x))) ∧ W.cell? ⟨G8, 1, none⟩ = some (.int .i64 (mr (sm x))) ∧ W.cell? ⟨G8, 2, none⟩ = some (.int .i64 (pa (mw (sm x)))) ∧ W.cell? ⟨G8, 3, none⟩ = some (.int .i64 (ch (mw (sm x)))) ∧ W.cell? ⟨G8, 4, none⟩ = some (.string (ba (nm (mw (sm x))))) ∧ W.cell? ⟨G8, 5, none⟩ = some (.float .f64 (rk (mw (sm x)))) ∧ W.cell? ⟨G8, 6, none⟩ = some (.bool (sd x)) ∧ W.cell? ⟨G8, 7, none⟩ = some (.bool (sh x)) ∧ W.cell? ⟨G8, 8, none⟩ = some (.int .i64 (ch (so x))) ∧ W.cell? ⟨G8, 9, none⟩ = some (.int .i64 (pa (so x))) ∧ W.cell? ⟨G8, 10, none⟩ = some (.string (ba (nm (so x)))) ∧ W.cell? ⟨G8, 11, none⟩ = some (.float .f64 (rk (so x))) ∧ W.cell? ⟨G10, 0, none⟩ = some (.int .i64 (mc (sm x))) ∧ W.cell? ⟨G10, 1, none⟩ = some (.int .i64 (mr (sm x))) ∧ W.cell? ⟨G10, 2, none⟩ = some (.int .i64 (pa (mw (sm x)))) ∧ W.cell? ⟨G10, 3, none⟩ = some (.int .i64 (ch (mw (sm x)))) ∧ W.cell? ⟨G10, 4, none⟩ = some (.string (ba (nm (mw (sm x))))) ∧ W.cell? ⟨G10, 5, none⟩ = some (.float .f64 (rk (mw (sm x)))) ∧ W.cell? ⟨G10, 6, none⟩ = some (.bool (sd x)) ∧ W.cell? ⟨G10, 7, none⟩ = some (.bool (sh x)) ∧ W.cell? ⟨G10, 8, none⟩ = some (.int .i64 (ch (so x))) ∧ W.cell? ⟨G10, 9, none⟩ = some (.int .i64 (pa (so x))) ∧ W.cell? ⟨G10, 10, none⟩ = some (.string (ba (nm (so x)))) ∧ W.cell? ⟨G10, 11, none⟩ = some (.float .f64 (rk (so x))) ∧ Below w1.heap.size w1 W) : Below w1.heap.size w1 W := h.2.2.2.2.2.2.2.2.2.2.2.2.2.2.2.2.2.2.2.2.2.2.2.2.2.2.2.2.2.2.2.2.2.2.2.2
theorem hold36s {G5 G8 G10 : Nat} {s x : Sp} {w1 : World} (p0 : w1.cell? ⟨G5, 0, none⟩ = some (.int .i64 (mc (sm s)))) (p1 : w1.cell? ⟨G5, 1, none⟩ = some (.int .i64 (mr (sm s)))) (p2 : w1.cell? ⟨G5, 2, none⟩ = some (.int .i64 (pa (mw (sm s))))) (p3 : w1.cell? ⟨G5, 3, none⟩ = some (.int .i64 (ch (mw (sm s))))) (p4 : w1.cell? ⟨G5, 4, none⟩ = some (.string (ba (nm (mw (sm s)))))) (p5 : w1.cell? ⟨G5, 5, none⟩ = some (.float .f64 (rk (mw (sm s))))) (p6 : w1.cell? ⟨G5, 6, none⟩ = some (.bool (sd s))) (p7 : w1.cell? ⟨G5, 7, none⟩ = some (.bool (sh s))) (p8 : w1.cell? ⟨G5, 8, none⟩ = some (.int .i64 (ch (so s)))) (p9 : w1.cell? ⟨G5, 9, none⟩ = some (.int .i64 (pa (so s)))) (p10 : w1.cell? ⟨G5, 10, none⟩ = some (.string (ba (nm (so s))))) (p11 : w1.cell? ⟨G5, 11, none⟩ = some (.float .f64 (rk (so s)))) (q0 : w1.cell? ⟨G8, 0, none⟩ = some (.int .i64 (mc (sm x)))) (q1 : w1.cell? ⟨G8, 1, none⟩ = some (.int .i64 (mr (sm x)))) (q2 : w1.cell? ⟨G8, 2, none⟩ = some (.int .i64 (pa (mw (sm x))))) (q3 : w1.cell? ⟨G8, 3, none⟩ = some (.int .i64 (ch (mw (sm x))))) (q4 : w1.cell? ⟨G8, 4, none⟩ = some (.string (ba (nm (mw (sm x)))))) (q5 : w1.cell? ⟨G8, 5, none⟩ = some (.float .f64 (rk (mw (sm x))))) (q6 : w1.cell? ⟨G8, 6, none⟩ = some (.bool (sd x))) (q7 : w1.cell? ⟨G8, 7, none⟩ = some (.bool (sh x))) (q8 : w1.cell? ⟨G8, 8, none⟩ = some (.int .i64 (ch (so x)))) (q9 : w1.cell? ⟨G8, 9, none⟩ = some (.int .i64 (pa (so x)))) (q10 : w1.cell? ⟨G8, 10, none⟩ = some (.string (ba (nm (so x))))) (q11 : w1.cell? ⟨G8, 11, none⟩ = some (.float .f64 (rk (so x)))) (r0 : w1.cell? ⟨G10, 0, none⟩ = some (.int .i64 (mc (sm x)))) (r1 : w1.cell? ⟨G10, 1, none⟩ = some (.int .i64 (mr (sm x)))) (r2 : w1.cell? ⟨G10, 2, none⟩ = some (.int .i64 (pa (mw (sm x))))) (r3 : w1.cell? ⟨G10, 3, none⟩ = some (.int .i64 (ch (mw (sm x))))) (r4 : w1.cell? ⟨G10, 4, none⟩ = some (.string (ba (nm (mw (sm x)))))) (r5 : w1.cell? ⟨G10, 5, none⟩ = some (.float .f64 (rk (mw (sm x))))) (r6 : w1.cell? ⟨G10, 6, none⟩ = some (.bool (sd x))) (r7 : w1.cell? ⟨G10, 7, none⟩ = some (.bool (sh x))) (r8 : w1.cell? ⟨G10, 8, none⟩ = some (.int .i64 (ch (so x)))) (r9 : w1.cell? ⟨G10, 9, none⟩ = some (.int .i64 (pa (so x)))) (r10 : w1.cell? ⟨G10, 10, none⟩ = some (.string (ba (nm (so x))))) (r11 : w1.cell? ⟨G10, 11, none⟩ = some (.float .f64 (rk (so x)))) : w1.drew.cell? ⟨G5, 0, none⟩ = some (.int .i64 (mc (sm s))) ∧ w1.drew.cell? ⟨G5, 1, none⟩ = some (.int .i64 (mr (sm s))) ∧ w1.drew.cell? ⟨G5, 2, none⟩ = some (.int .i64 (pa (mw (sm s)))) ∧ w1.drew.cell? ⟨G5, 3, none⟩ = some (.int .i64 (ch (mw (sm s)))) ∧ w1.drew.cell? ⟨G5, 4, none⟩ = some (.string (ba (nm (mw (sm s))))) ∧ w1.drew.cell? ⟨G5, 5, none⟩ = some (.float .f64 (rk (mw (sm s)))) ∧ w1.drew.cell? ⟨G5, 6, none⟩ = some (.bool (sd s)) ∧ w1.drew.cell? ⟨G5, 7, none⟩ = some (.bool (sh s)) ∧ w1.drew.cell? ⟨G5, 8, none⟩ = some (.int .i64 (ch (so s))) ∧ w1.drew.cell? ⟨G5, 9, none⟩ = some (.int .i64 (pa (so s))) ∧ w1.drew.cell? ⟨G5, 10, none⟩ = some (.string (ba (nm (so s)))) ∧ w1.drew.cell? ⟨G5, 11, none⟩ = some (.float .f64 (rk (so s))) ∧ w1.drew.cell? ⟨G8, 0, none⟩ = some (.int .i64 (mc (sm x))) ∧ w1.drew.cell? ⟨G8, 1, none⟩ = some (.int .i64 (mr (sm x))) ∧ w1.drew.cell? ⟨G8, 2, none⟩ = some (.int .i64 (pa (mw (sm x)))) ∧ w1.drew.cell? ⟨G8, 3, none⟩ = some (.int .i64 (ch (mw (sm x)))) ∧ w1.drew.cell? ⟨G8, 4, none⟩ = some (.string (ba (nm (mw (sm x))))) ∧ w1.drew.cell? ⟨G8, 5, none⟩ = some (.float .f64 (rk (mw (sm x)))) ∧ w1.drew.cell? ⟨G8, 6, none⟩ = some (.bool (sd x)) ∧ w1.drew.cell? ⟨G8, 7, none⟩ = some (.bool (sh x)) ∧ w1.drew.cell? ⟨G8, 8, none⟩ = some (.int .i64 (ch (so x))) ∧ w1.drew.cell? ⟨G8, 9, none⟩ = some (.int .i64 (pa (so x))) ∧ w1.drew.cell? ⟨G8, 10, none⟩ = some (.string (ba (nm (so x)))) ∧ w1.drew.cell? ⟨G8, 11, none⟩ = some (.float .f64 (rk (so x))) ∧ w1.drew.cell? ⟨G10, 0, none⟩ = some (.int .i64 (mc (sm x))) ∧ w1.drew.cell? ⟨G10, 1, none⟩ = some (.int .i64 (mr (sm x))) ∧ w1.drew.cell? ⟨G10, 2, none⟩ = some (.int .i64 (pa (mw (sm x)))) ∧ w1.drew.cell? ⟨G10, 3, none⟩ = some (.int .i64 (ch (mw (sm x)))) ∧ w1.drew.cell? ⟨G10, 4, none⟩ = some (.string (ba (nm (mw (sm x))))) ∧ w1.drew.cell? ⟨G10, 5, none⟩ = some (.float .f64 (rk (mw (sm x)))) ∧ w1.drew.cell? ⟨G10, 6, none⟩ = some (.bool (sd x)) ∧ w1.drew.cell? ⟨G10, 7, none⟩ = some (.bool (sh x)) ∧ w1.drew.cell? ⟨G10, 8, none⟩ = some (.int .i64 (ch (so x))) ∧ w1.drew.cell? ⟨G10, 9, none⟩ = some (.int .i64 (pa (so x))) ∧ w1.drew.cell? ⟨G10, 10, none⟩ = some (.string (ba (nm (so x)))) ∧ w1.drew.cell? ⟨G10, 11, none⟩ = some (.float .f64 (rk (so x))) ∧ Below w1.heap.size w1 w1.drew := ⟨p0, p1, p2, p3, p4, p5, p6, p7, p8, p9, p10, p11, q0, q1, q2, q3, q4, q5, q6, q7, q8, q9, q10, q11, r0, r1, r2, r3, r4, r5, r6, r7, r8, r9, r10, r11, (Below.refl _ _).drew⟩

namespace undoDoes
set_option maxHeartbeats 32000000 in
theorem walk (A : Option Addr) (cap : Nat) (l : List Rw) (m : Mv) (s : Sp) (hA : A = none → cap = 0) (hcap : l.length ≤ cap) (hl : l.length ≤ maxLen) (hM : Rows_ l) (hm1 : rk (mw m) < 18446744073709551616) (hm2 : (nm (mw m)).length ≤ maxLen)
    (hs : rk (mw (sm s)) < 18446744073709551616 ∧ (nm (mw (sm s))).length ≤ maxLen ∧ rk (so s) < 18446744073709551616 ∧ (nm (so s)).length ≤ maxLen) (w : World) (hc : At w w.heap.size A (tvs l)) :
    Calls Try.prog 7 #[.slice A l.length cap, .agg #[.int .i64 (mc m), .int .i64 (mr m), .int .i64 (pa (mw m)), .int .i64 (ch (mw m)), .string (ba (nm (mw m))), .float .f64 (rk (mw m))], .agg #[.int .i64 (mc (sm s)), .int .i64 (mr (sm s)), .int .i64 (pa (mw (sm s))), .int .i64 (ch (mw (sm s))), .string (ba (nm (mw (sm s)))), .float .f64 (rk (mw (sm s))), .bool (sd s), .bool (sh s), .int .i64 (ch (so s)), .int .i64 (pa (so s)), .string (ba (nm (so s))), .float .f64 (rk (so s))]] w fun e w' => e = .returned (.bool true) ∧ Below w.heap.size w w' := by
  obtain ⟨w0, hw0⟩ : ∃ w0, w0 = (w.alloc (.cells #[.int .i64 (mc m), .int .i64 (mr m), .int .i64 (pa (mw m)), .int .i64 (ch (mw m)), .string (ba (nm (mw m))), .float .f64 (rk (mw m))] 27)).alloc (.cells #[.int .i64 (mc (sm s)), .int .i64 (mr (sm s)), .int .i64 (pa (mw (sm s))), .int .i64 (ch (mw (sm s))), .string (ba (nm (mw (sm s)))), .float .f64 (rk (mw (sm s))), .bool (sd s), .bool (sh s), .int .i64 (ch (so s)), .int .i64 (pa (so s)), .string (ba (nm (so s))), .float .f64 (rk (so s))] 51) := ⟨_, rfl⟩
  have HBX := Lib.hid (show Below w.heap.size w w0 by rw [hw0]; exact ((Below.refl w.heap.size w).alloc (Nat.le_refl _) _).alloc (by simp) _)
  have HI := Lib.hid (show Is w0 w.heap.size 27 [.int .i64 (mc m), .int .i64 (mr m), .int .i64 (pa (mw m)), .int .i64 (ch (mw m)), .string (ba (nm (mw m))), .float .f64 (rk (mw m))] by rw [hw0]; exact is_alloc (is_new w 27 [.int .i64 (mc m), .int .i64 (mr m), .int .i64 (pa (mw m)), .int .i64 (ch (mw m)), .string (ba (nm (mw m))), .float .f64 (rk (mw m))]) _)
  have HJ := Lib.hid (show Is w0 (w.heap.size + 1) 51 [.int .i64 (mc (sm s)), .int .i64 (mr (sm s)), .int .i64 (pa (mw (sm s))), .int .i64 (ch (mw (sm s))), .string (ba (nm (mw (sm s)))), .float .f64 (rk (mw (sm s))), .bool (sd s), .bool (sh s), .int .i64 (ch (so s)), .int .i64 (pa (so s)), .string (ba (nm (so s))), .float .f64 (rk (so s))] by rw [hw0]; exact is_newA w 51 [.int .i64 (mc (sm s)), .int .i64 (mr (sm s)), .int .i64 (pa (mw (sm s))), .int .i64 (ch (mw (sm s))), .string (ba (nm (mw (sm s)))), .float .f64 (rk (mw (sm s))), .bool (sd s), .bool (sh s), .int .i64 (ch (so s)), .int .i64 (pa (so s)), .string (ba (nm (so s))), .float .f64 (rk (so s))] _)
  obtain ⟨ws, hws⟩ : ∃ ws, ws = w0.alloc (.cells #[.int .i64 (mc (sm s)), .int .i64 (mr (sm s)), .int .i64 (pa (mw (sm s))), .int .i64 (ch (mw (sm s))), .string (ba (nm (mw (sm s)))), .float .f64 (rk (mw (sm s))), .bool (sd s), .bool (sh s), .int .i64 (ch (so s)), .int .i64 (pa (so s)), .string (ba (nm (so s))), .float .f64 (rk (so s))] 51) := ⟨_, rfl⟩
  have hbs : Below w0.heap.size w0 ws := by rw [hws]; exact (Below.refl _ _).alloc (Nat.le_refl _) _
  have HSB := Lib.hid (show At ws ws.heap.size (some ⟨w0.heap.size, 0, none⟩) (pvs [s]) by rw [hws]; exact at_lits w0 51 (pvs [s]))
  have HBS := Lib.hid hbs
  have HWS := Lib.hid hws
  have HC := Lib.hid (hc.keep HBX.out)
  have HA := Lib.hid hA
  have HM := Lib.hid hM
  have HM2 := Lib.hid (And.intro hm1 hm2)
  have HS := Lib.hid hs
  have HL := Lib.hid hl
  have HW := Lib.hid hw0
  have hsz := ba_size (nm (mw m))
  obtain ⟨g0, g1, g2, g3, g4, g5⟩ := box6 (m := m) HI.out
  obtain ⟨j0, j1, j2, j3, j4, j5, j6, j7, j8, j9, j10, j11⟩ := box12 (s := s) HJ.out
  simp only [Nat.zero_add] at j0 j1 j2 j3 j4 j5 j6 j7 j8 j9 j10 j11
  unfold maxLen at hm2
  clear hc hA hM hl hm1 hw0 hws hbs hs
  cases hf : few l with
  | false =>
    have HF := Lib.hid hf
    clear hf
    go_enter Try.func7, Try.ntmps7
    go_wp2_with fail
    rw [← HW.out]
    refine (few_c A cap l HL.out _ HC.out).mono ?_
    rintro e w1 ⟨rfl, rfl⟩
    rw [HF.out]
    go_wp2_with fail
    refine (live15_c _).mono ?_
    rintro e w2 ⟨rfl, hb⟩
    go_wp2_with fail
    go_ret
    exact ⟨rfl, HBX.out.trans (hb.mono HBX.out.size)⟩
  | true =>
    obtain ⟨hl60, -⟩ := few_in hf
    have HF := Lib.hid hf
    clear hf
    by_cases hlong : 100 < (nm (mw m)).length
    · have hd1 : decide (100 < (nm (mw m)).length) = true := decide_eq_true hlong
      go_enter Try.func7, Try.ntmps7
      go_wp2_with fail
      rw [← HW.out]
      refine (few_c A cap l HL.out _ HC.out).mono ?_
      rintro e w1 ⟨rfl, rfl⟩
      rw [HF.out]
      go_wp2_with fail
      refine (live15_c _).mono ?_
      rintro e w2 ⟨rfl, hb⟩
      go_wp2_with fail
      go_ret
      exact ⟨rfl, HBX.out.trans (hb.mono HBX.out.size)⟩
    · have hd1 : decide (100 < (nm (mw m)).length) = false := decide_eq_false hlong
      cases hk : fewS [s] 1 with
      | false =>
        have HK := Lib.hid hk
        clear hk
        go_enter Try.func7, Try.ntmps7
        go_wp2_with fail
        rw [← HW.out]
        refine (few_c A cap l HL.out _ HC.out).mono ?_
        rintro e w1 ⟨rfl, rfl⟩
        rw [HF.out]
        go_wp2_with fail
        rw [← HWS.out]
        refine (rpfew_c (some ⟨w0.heap.size, 0, none⟩) 1 [s] 1 (by unfold maxLen; simp) (by decide) _ HSB.out).mono ?_
        rintro e w1 ⟨rfl, rfl⟩
        rw [HK.out]
        clear g0 g1 g2 g3 g4 g5 j0 j1 j2 j3 j4 j5 j6 j7 j8 j9 j10 j11
        go_wp2_with fail
        refine (live15_c _).mono ?_
        rintro e w2 ⟨rfl, hb⟩
        go_wp2_with fail
        go_ret
        exact ⟨rfl, HBX.out.trans ((HBS.out.trans (hb.mono HBS.out.size)).mono HBX.out.size)⟩
      | true =>
        have HK := Lib.hid hk
        clear hk
        have hl' : l.length ≤ 100000 := by omega
        go_enter Try.func7, Try.ntmps7
        go_wp2_with fail
        rw [← HW.out]
        refine (few_c A cap l HL.out _ HC.out).mono ?_
        rintro e w1 ⟨rfl, rfl⟩
        rw [HF.out]
        go_wp2_with fail
        rw [← HWS.out]
        refine (rpfew_c (some ⟨w0.heap.size, 0, none⟩) 1 [s] 1 (by unfold maxLen; simp) (by decide) _ HSB.out).mono ?_
        rintro e w1 ⟨rfl, rfl⟩
        rw [HK.out]
        clear g0 g1 g2 g3 g4 g5 j0 j1 j2 j3 j4 j5 j6 j7 j8 j9 j10 j11
        have HI1 := Lib.hid (is_below HI.out HBS.out (is_lt HI.out))
        have HJ1 := Lib.hid (is_below HJ.out HBS.out (is_lt HJ.out))
        have HC1 := Lib.hid (HC.out.keep HBS.out)
        have HB1 := Lib.hid (HBX.out.trans (HBS.out.mono HBX.out.size))
        obtain ⟨g0, g1, g2, g3, g4, g5⟩ := box6 (m := m) HI1.out
        go_wp2_with fail
        refine (mudo_c A cap l m hl' HA.out hcap (fun a b W h => above_any hl' A cap a b W h) _ HC1.out).mono ?_
        rintro e w3 ⟨A3, c3, rfl, p3, -, -, hb3, -⟩
        have HX := Lib.hid (stepP_ok HM.out HM2.out)
        obtain ⟨x, hx⟩ : ∃ x, stepP l m = x := ⟨_, rfl⟩
        rw [hx] at HX
        rw [hx, pv_eq]
        have HXE := Lib.hid hx
        clear hx
        obtain ⟨w4, hw4⟩ : ∃ w4, w4 = w3.alloc (.cells #[.int .i64 (mc (sm x)), .int .i64 (mr (sm x)), .int .i64 (pa (mw (sm x))), .int .i64 (ch (mw (sm x))), .string (ba (nm (mw (sm x)))), .float .f64 (rk (mw (sm x))), .bool (sd x), .bool (sh x), .int .i64 (ch (so x)), .int .i64 (pa (so x)), .string (ba (nm (so x))), .float .f64 (rk (so x))] 51) := ⟨_, rfl⟩
        have hb34 : Below w3.heap.size w3 w4 := by rw [hw4]; exact (Below.refl _ _).alloc (Nat.le_refl _) _
        have hb14 := hb3.trans (hb34.mono hb3.size)
        have HI4 := Lib.hid (is_below HI1.out hb14 (is_lt HI1.out))
        have HJ4 := Lib.hid (is_below HJ1.out hb14 (is_lt HJ1.out))
        have HX4 := Lib.hid (show Is w4 w3.heap.size 51 [.int .i64 (mc (sm x)), .int .i64 (mr (sm x)), .int .i64 (pa (mw (sm x))), .int .i64 (ch (mw (sm x))), .string (ba (nm (mw (sm x)))), .float .f64 (rk (mw (sm x))), .bool (sd x), .bool (sh x), .int .i64 (ch (so x)), .int .i64 (pa (so x)), .string (ba (nm (so x))), .float .f64 (rk (so x))] by rw [hw4]; exact is_new w3 51 [.int .i64 (mc (sm x)), .int .i64 (mr (sm x)), .int .i64 (pa (mw (sm x))), .int .i64 (ch (mw (sm x))), .string (ba (nm (mw (sm x)))), .float .f64 (rk (mw (sm x))), .bool (sd x), .bool (sh x), .int .i64 (ch (so x)), .int .i64 (pa (so x)), .string (ba (nm (so x))), .float .f64 (rk (so x))])
        have HC4 := Lib.hid (HC1.out.keep hb14)
        have HB4 := Lib.hid (HB1.out.trans (hb14.mono HB1.out.size))
        have P3 := Lib.hid (p3.keep hb34)
        have HW4 := Lib.hid hw4
        clear g0 g1 g2 g3 g4 g5
        obtain ⟨g0, g1, g2, g3, g4, g5⟩ := box6 (m := m) HI4.out
        rw [hw4] at g0 g1 g2 g3 g4 g5
        clear hb3 hb34 hb14 p3 hw4
        go_wp2_with fail
        rw [← HW4.out]
        refine (rudo_c A cap l m hl' HA.out hcap (fun a b W h => rabove_c A cap l a b HL.out W h) _ HC4.out).mono ?_
        rintro e w5 ⟨A5, c5, rfl, p5, -, -, hb5, -⟩
        rw [HXE.out, pv_eq]
        obtain ⟨w6, hw6⟩ : ∃ w6, w6 = w5.alloc (.cells #[.int .i64 (mc (sm x)), .int .i64 (mr (sm x)), .int .i64 (pa (mw (sm x))), .int .i64 (ch (mw (sm x))), .string (ba (nm (mw (sm x)))), .float .f64 (rk (mw (sm x))), .bool (sd x), .bool (sh x), .int .i64 (ch (so x)), .int .i64 (pa (so x)), .string (ba (nm (so x))), .float .f64 (rk (so x))] 51) := ⟨_, rfl⟩
        have hb56 : Below w5.heap.size w5 w6 := by rw [hw6]; exact (Below.refl _ _).alloc (Nat.le_refl _) _
        have hb46 := hb5.trans (hb56.mono hb5.size)
        have HJ6 := Lib.hid (is_below HJ4.out hb46 (is_lt HJ4.out))
        have HX6 := Lib.hid (is_below HX4.out hb46 (is_lt HX4.out))
        have HY6 := Lib.hid (show Is w6 w5.heap.size 51 [.int .i64 (mc (sm x)), .int .i64 (mr (sm x)), .int .i64 (pa (mw (sm x))), .int .i64 (ch (mw (sm x))), .string (ba (nm (mw (sm x)))), .float .f64 (rk (mw (sm x))), .bool (sd x), .bool (sh x), .int .i64 (ch (so x)), .int .i64 (pa (so x)), .string (ba (nm (so x))), .float .f64 (rk (so x))] by rw [hw6]; exact is_new w5 51 [.int .i64 (mc (sm x)), .int .i64 (mr (sm x)), .int .i64 (pa (mw (sm x))), .int .i64 (ch (mw (sm x))), .string (ba (nm (mw (sm x)))), .float .f64 (rk (mw (sm x))), .bool (sd x), .bool (sh x), .int .i64 (ch (so x)), .int .i64 (pa (so x)), .string (ba (nm (so x))), .float .f64 (rk (so x))])
        have HC6 := Lib.hid (HC4.out.keep hb46)
        have HB6 := Lib.hid (HB4.out.trans (hb46.mono HB4.out.size))
        have P3b := Lib.hid (P3.out.keep hb46)
        have P5 := Lib.hid (p5.keep hb56)
        have HW6 := Lib.hid hw6
        have hlt : (doP l m).length ≤ maxLen := by have := doP_len l m; unfold maxLen; omega
        have HLT := Lib.hid hlt
        have HRT := Lib.hid (doP_rows HM.out HM2.out)
        obtain ⟨T, hT⟩ : ∃ T, doP l m = T := ⟨_, rfl⟩
        rw [hT] at P3b P5 HLT HRT ⊢
        have hlu : (undoP l s).length ≤ maxLen := by have := undoP_len l s; unfold maxLen; omega
        have HRU := Lib.hid (undoP_rows HM.out ⟨HS.out.2.2.1, HS.out.2.2.2⟩ : Rows_ (undoP l s))
        obtain ⟨U, hU⟩ : ∃ U, undoP l s = U := ⟨_, rfl⟩
        rw [hU] at HRU hlu
        have HLU := Lib.hid hlu
        have HU := Lib.hid hU
        obtain ⟨G5, hG5⟩ : ∃ G, G = w.heap.size + 1 := ⟨_, rfl⟩
        obtain ⟨G8, hG8⟩ : ∃ G, G = w3.heap.size := ⟨_, rfl⟩
        obtain ⟨G10, hG10⟩ : ∃ G, G = w5.heap.size := ⟨_, rfl⟩
        rw [← hG5] at HJ6
        rw [← hG8] at HX6
        rw [← hG10] at HY6
        obtain ⟨p0, p1, p2, p3, p4, p5, p6, p7, p8, p9, p10, p11⟩ := box12 (s := s) HJ6.out
        obtain ⟨q0, q1, q2, q3, q4, q5, q6, q7, q8, q9, q10, q11⟩ := box12 (s := x) HX6.out
        obtain ⟨r0, r1, r2, r3, r4, r5, r6, r7, r8, r9, r10, r11⟩ := box12 (s := x) HY6.out
        simp only [Nat.zero_add] at p0 p1 p2 p3 p4 p5 p6 p7 p8 p9 p10 p11 q0 q1 q2 q3 q4 q5 q6 q7 q8 q9 q10 q11 r0 r1 r2 r3 r4 r5 r6 r7 r8 r9 r10 r11
        clear hb5 hb56 hb46 hw6 hT hU hlt hlu g0 g1 g2 g3 g4 g5
        go_wp2_with fail
        rw [← HW6.out, ← hG5, ← hG8, ← hG10]
        clear hG5 hG8 hG10
        go_region_held3 (fun w' => w'.cell? ⟨G5, 0, none⟩ = some (.int .i64 (mc (sm s))) ∧ w'.cell? ⟨G5, 1, none⟩ = some (.int .i64 (mr (sm s))) ∧ w'.cell? ⟨G5, 2, none⟩ = some (.int .i64 (pa (mw (sm s)))) ∧ w'.cell? ⟨G5, 3, none⟩ = some (.int .i64 (ch (mw (sm s)))) ∧ w'.cell? ⟨G5, 4, none⟩ = some (.string (ba (nm (mw (sm s))))) ∧ w'.cell? ⟨G5, 5, none⟩ = some (.float .f64 (rk (mw (sm s)))) ∧ w'.cell? ⟨G5, 6, none⟩ = some (.bool (sd s)) ∧ w'.cell? ⟨G5, 7, none⟩ = some (.bool (sh s)) ∧ w'.cell? ⟨G5, 8, none⟩ = some (.int .i64 (ch (so s))) ∧ w'.cell? ⟨G5, 9, none⟩ = some (.int .i64 (pa (so s))) ∧ w'.cell? ⟨G5, 10, none⟩ = some (.string (ba (nm (so s)))) ∧ w'.cell? ⟨G5, 11, none⟩ = some (.float .f64 (rk (so s))) ∧ w'.cell? ⟨G8, 0, none⟩ = some (.int .i64 (mc (sm x))) ∧ w'.cell? ⟨G8, 1, none⟩ = some (.int .i64 (mr (sm x))) ∧ w'.cell? ⟨G8, 2, none⟩ = some (.int .i64 (pa (mw (sm x)))) ∧ w'.cell? ⟨G8, 3, none⟩ = some (.int .i64 (ch (mw (sm x)))) ∧ w'.cell? ⟨G8, 4, none⟩ = some (.string (ba (nm (mw (sm x))))) ∧ w'.cell? ⟨G8, 5, none⟩ = some (.float .f64 (rk (mw (sm x)))) ∧ w'.cell? ⟨G8, 6, none⟩ = some (.bool (sd x)) ∧ w'.cell? ⟨G8, 7, none⟩ = some (.bool (sh x)) ∧ w'.cell? ⟨G8, 8, none⟩ = some (.int .i64 (ch (so x))) ∧ w'.cell? ⟨G8, 9, none⟩ = some (.int .i64 (pa (so x))) ∧ w'.cell? ⟨G8, 10, none⟩ = some (.string (ba (nm (so x)))) ∧ w'.cell? ⟨G8, 11, none⟩ = some (.float .f64 (rk (so x))) ∧ w'.cell? ⟨G10, 0, none⟩ = some (.int .i64 (mc (sm x))) ∧ w'.cell? ⟨G10, 1, none⟩ = some (.int .i64 (mr (sm x))) ∧ w'.cell? ⟨G10, 2, none⟩ = some (.int .i64 (pa (mw (sm x)))) ∧ w'.cell? ⟨G10, 3, none⟩ = some (.int .i64 (ch (mw (sm x)))) ∧ w'.cell? ⟨G10, 4, none⟩ = some (.string (ba (nm (mw (sm x))))) ∧ w'.cell? ⟨G10, 5, none⟩ = some (.float .f64 (rk (mw (sm x)))) ∧ w'.cell? ⟨G10, 6, none⟩ = some (.bool (sd x)) ∧ w'.cell? ⟨G10, 7, none⟩ = some (.bool (sh x)) ∧ w'.cell? ⟨G10, 8, none⟩ = some (.int .i64 (ch (so x))) ∧ w'.cell? ⟨G10, 9, none⟩ = some (.int .i64 (pa (so x))) ∧ w'.cell? ⟨G10, 10, none⟩ = some (.string (ba (nm (so x)))) ∧ w'.cell? ⟨G10, 11, none⟩ = some (.float .f64 (rk (so x))) ∧ Below w6.heap.size w6 w')
          (first
            | (exact hold36 (by assumption) hbn)
            | (exact hold36d (by assumption))
            | (exact hold36s p0 p1 p2 p3 p4 p5 p6 p7 p8 p9 p10 p11 q0 q1 q2 q3 q4 q5 q6 q7 q8 q9 q10 q11 r0 r1 r2 r3 r4 r5 r6 r7 r8 r9 r10 r11)
            | go_keep)
          (first
            | (go_at_call 21; (with_reducible refine (rsame_t HLT.out HRT.out (P3b.out.keep (hold36b (by assumption))) (P5.out.keep (hold36b (by assumption)))).mono ?_); rintro e wa ⟨rfl, hbn⟩)
            | (go_at_call 40; refine (rpalike_t HX.out.1 HX.out.2.2.1 _).mono ?_; rintro e wa ⟨rfl, hbn⟩)
            | (go_at_call 41; refine (mundo_k HU.out hl' HA.out hcap (HC6.out.keep (hold36b (by assumption)))).mono ?_; rintro e wb ⟨E1, f1, rfl, t1, -, -, hbn⟩)
            | (go_at_call 42; refine (rundo_k HU.out hl' HA.out hcap (HC6.out.keep (hold36b (by assumption)))).mono ?_; rintro e wb ⟨E2, f2, rfl, t2, -, -, hbn⟩; have t1 := t1.keep hbn)
            | (go_at_call 21; refine (rsame_t HLU.out HRU.out t1 t2).mono ?_; rintro e wa ⟨rfl, hbn⟩)
            | (go_at_call 37; refine (live15_c _).mono ?_; rintro e wd ⟨rfl, hbn⟩))
        have hbz : Below w6.heap.size w6 wd := hold36b (by assumption)
        have HBZ := Lib.hid (HB6.out.trans (hbz.mono HB6.out.size))
        go_wp2_with fail
        go_ret
        exact ⟨rfl, HBZ.out⟩
end undoDoes
end Go.Proofs.Ytnkckoilhhbllaa
