/-
  delta's ints; slices.Collect of them; Decode.
-/
import Derived.Test.YtiehmeheilfocaaRd
import Derived.Test.YtiehmeheilfocaaMh
import Derived.Test.YtiehmeheilfocaaBi
namespace Go.Proofs.Ytiehmeheilfocaa
open Go.RowKit Go.IntWalk
open Pk
set_option maxRecDepth 100000
attribute [local go_sem] Oper.semAt_some

theorem rdr_grown {w w' : World} {q : Nat} {s : St} (h : Rdr w q s) (hg : Below w.heap.size w w') : Rdr w' q s := is_below h hg (is_lt h)
theorem only_cell {w w' : World} {q : Nat} (h : w.grownBy w' (some q)) {p : Addr} {v : Value} (hc : w.cell? p = some v) (hne : p.block ≠ q) : w'.cell? p = some v := by
  rw [World.cell?_of_block (h.block _ (World.block_lt_of_cell? _ _ hc) (fun e => hne (by injection e)))]; exact hc

/-- what the iterator over a Reader of s0 leaves -/
def IntsEnd (q n : Nat) (s0 : St) (ys : List Int) (W : World) : Prop := Rdr W q (rdn n s0).2 ∧ ((rdn n s0).2.e = 0 → ys = (rdn n s0).1)

theorem ownFrom_only {β : Type} {B q : Nat} {w0 : World} (hB : w0.heap.size ≤ B) : OwnFrom B (fun (_ : β) W => w0.grownBy W (some q)) :=
  fun _ X Y row hs hg hr => ⟨hg.os.trans hs.os, hg.tape.trans hs.tape, hg.output.trans hs.output, Nat.le_trans hs.size hg.size, fun i hi hne =>
    (hg.block i (Nat.lt_of_lt_of_le hi hs.size) (fun e => by have := (hr i e.symm).1; omega)).trans (hs.block i hi hne)⟩
theorem ownFrom_rdr {B q n : Nat} {s0 : St} : OwnFrom B (IntsEnd q n s0) := fun ys X Y row hs hg hr => by
  refine ⟨?_, hs.2⟩
  have hk : X.heap[q]? = _ := hs.1
  refine (hg.block q (is_lt hs.1) (fun e => ?_)).trans hk
  obtain ⟨_, o, ho, hc⟩ := hr q e.symm
  rw [hk] at ho
  cases ho
  cases hc
theorem only_then {a b c : World} {q : Nat} (h : a.grownBy b (some q)) (k : Below a.heap.size b c) : a.grownBy c (some q) :=
  ⟨k.os.trans h.os, k.tape.trans h.tape, k.output.trans h.output, Nat.le_trans h.size k.size, fun i hi hne => (k.block i hi).trans (h.block i hi hne)⟩
theorem only_put {a b : World} {q D : Nat} (h : a.grownBy b (some q)) (hD : a.heap.size ≤ D) (o : Obj) : a.grownBy (b.putObj D o) (some q) :=
  ⟨h.os, h.tape, h.output, by simp; exact h.size, fun i hi hne => (World.putObj_heap_other (by omega)).trans (h.block i hi hne)⟩

end Go.Proofs.Ytiehmeheilfocaa
