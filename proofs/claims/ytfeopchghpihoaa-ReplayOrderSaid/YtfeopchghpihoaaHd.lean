/-
  A step that is undone: the program's, and the document's.
-/
import Derived.Test.YtfeopchghpihoaaHa
import Derived.Test.YtfeopchghpihoaaTx
namespace Go.Proofs.Ytfeopchghpihoaa
open Go.RowKit Go.IntWalk
open Gr
set_option maxRecDepth 100000
attribute [local go_sem] Oper.semAt_some

theorem Fresh_.told {l : List Rw} {w w' : World} {e : Ending} (h : Fresh_ l w e w') : Told_ l w e w' := by
  obtain ⟨A, cap, rfl, hown, hb⟩ := h
  exact own_toldR hown hb
theorem Told_.from {l : List Rw} {w w1 w' : World} {e : Ending} (h : Told_ l w1 e w') (hb : Below w.heap.size w w1) : Told_ l w e w' := by
  obtain ⟨A, cap, he, hat, hn, hc, hb2⟩ := h
  exact ⟨A, cap, he, hat, hn, hc, hb.trans (hb2.mono hb.size)⟩

/-- rows that are told: those that came in, or in memory that was made since -/
def ToldO (A0 : Option Addr) (l0 l : List Rw) (w : World) (e : Ending) (w' : World) : Prop :=
  ∃ A cap, e = .returned (.slice A l.length cap) ∧ At w' w'.heap.size A (tvs l) ∧ (A = none → cap = 0) ∧ l.length ≤ cap ∧ Below w.heap.size w w' ∧ ((A = A0 ∧ l = l0) ∨ Fresh w.heap.size A)
theorem ToldO.told {A0 : Option Addr} {l0 l : List Rw} {w w' : World} {e : Ending} (h : ToldO A0 l0 l w e w') : Told_ l w e w' := by
  obtain ⟨A, cap, he, ha, hn, hc, hb, _⟩ := h
  exact ⟨A, cap, he, ha, hn, hc, hb⟩
theorem Fresh_.toldF {l : List Rw} {w w' : World} {e : Ending} (h : Fresh_ l w e w') : ToldF l w e w' := by
  obtain ⟨A, cap, rfl, hown, hb⟩ := h
  exact own_toldF hown (Nat.le_refl _) hb

theorem mundo_f (A : Option Addr) (cap : Nat) (l : List Rw) (s : Sp) (hl : l.length ≤ 100000) (hA : A = none → cap = 0) (hcap : l.length ≤ cap) (w : World) (hc : At w w.heap.size A (tvs l)) :
    Calls Try.prog 56 #[.slice A l.length cap, pv s] w (ToldO A l (undoP l s) w) := by
  have hb := (Below.refl w.heap.size w).alloc (Nat.le_refl _) (.cells #[.int .i64 (mc (sm s)), .int .i64 (mr (sm s)), .int .i64 (pa (mw (sm s))), .int .i64 (ch (mw (sm s))), .string (ba (nm (mw (sm s)))), .float .f64 (rk (mw (sm s))), .bool (sd s), .bool (sh s), .int .i64 (ch (so s)), .int .i64 (pa (so s)), .string (ba (nm (so s))), .float .f64 (rk (so s))] 64)
  have hcx := hc.keep hb
  have HB := Lib.hid hb
  have HC := Lib.hid hcx
  have HA := Lib.hid hA
  have hst : undoP l s = if sd s then (if sh s then setP l (so s) else dropP l (ch (mw (sm s)))) else l := rfl
  clear hb hcx hc hA
  show Calls Try.prog 56 #[.slice A l.length cap, .agg #[.int .i64 (mc (sm s)), .int .i64 (mr (sm s)), .int .i64 (pa (mw (sm s))), .int .i64 (ch (mw (sm s))), .string (ba (nm (mw (sm s)))), .float .f64 (rk (mw (sm s))), .bool (sd s), .bool (sh s), .int .i64 (ch (so s)), .int .i64 (pa (so s)), .string (ba (nm (so s))), .float .f64 (rk (so s))]] w _
  obtain ⟨d, hd⟩ : ∃ d, sd s = d := ⟨_, rfl⟩
  obtain ⟨h, hh⟩ : ∃ h, sh s = h := ⟨_, rfl⟩
  rw [hd] at HB HC hst ⊢
  rw [hh] at HB HC hst ⊢
  clear hd hh
  cases d with
  | false =>
    rw [if_neg Bool.false_ne_true] at hst
    rw [hst]
    clear hst
    go_enter Try.func56, Try.ntmps56
    go_wp2_with fail
    go_ret
    exact ⟨A, cap, rfl, HC.out, HA.out, hcap, HB.out, .inl ⟨rfl, rfl⟩⟩
  | true =>
    rw [if_pos rfl] at hst
    cases h with
    | true =>
      rw [if_pos rfl] at hst
      rw [hst]
      clear hst
      go_enter Try.func56, Try.ntmps56
      go_wp2_with fail
      refine (set_c A cap l (so s) hl HA.out hcap _ HC.out).mono ?_
      rintro e w1 h1
      obtain ⟨A1, cap1, rfl, hat1, hn1, hc1, hb1, hf1⟩ := h1.toldF
      have hb1 := HB.out.trans (hb1.mono HB.out.size)
      have hf1 : Fresh w.heap.size A1 := fun a ha => Nat.le_trans HB.out.size (hf1 a ha)
      clear h1
      go_wp2_with fail
      go_ret
      exact ⟨A1, cap1, rfl, hat1, hn1, hc1, hb1, .inr hf1⟩
    | false =>
      rw [if_neg Bool.false_ne_true] at hst
      rw [hst]
      clear hst
      go_enter Try.func56, Try.ntmps56
      go_wp2_with fail
      refine (drop_c A cap l (ch (mw (sm s))) hl HA.out hcap _ HC.out).mono ?_
      rintro e w1 h1
      obtain ⟨A1, cap1, rfl, hat1, hn1, hc1, hb1, hf1⟩ := h1.toldF
      have hb1 := HB.out.trans (hb1.mono HB.out.size)
      have hf1 : Fresh w.heap.size A1 := fun a ha => Nat.le_trans HB.out.size (hf1 a ha)
      clear h1
      go_wp2_with fail
      go_ret
      exact ⟨A1, cap1, rfl, hat1, hn1, hc1, hb1, .inr hf1⟩

theorem mundo_c (A : Option Addr) (cap : Nat) (l : List Rw) (s : Sp) (hl : l.length ≤ 100000) (hA : A = none → cap = 0) (hcap : l.length ≤ cap) (w : World) (hc : At w w.heap.size A (tvs l)) :
    Calls Try.prog 56 #[.slice A l.length cap, pv s] w (Told_ (undoP l s) w) :=
  (mundo_f A cap l s hl hA hcap w hc).mono fun _ _ h => h.told

end Go.Proofs.Ytfeopchghpihoaa
