/-
  A flag that goes round in a closure; Lengths, the program's and the document's.
-/
import Derived.Test.YtiehmeheilfocaaMs
import Derived.Test.YtiehmeheilfocaaRi
import Derived.Test.YtiehmeheilfocaaRd
namespace Go.Proofs.Ytiehmeheilfocaa
open Go.RowKit Go.IntWalk
open Pk
set_option maxRecDepth 100000
attribute [local go_sem] Oper.semAt_some

def bvs (l : List Bool) : List Value := l.map Value.bool
theorem bvs_at {l : List Bool} {k : Nat} {x : Bool} (h : l[k]? = some x) : (bvs l)[k]? = some (.bool x) := by simp [bvs, h]
theorem bvs_len (l : List Bool) : (bvs l).length = l.length := by simp [bvs]
theorem bvs_snoc (l : List Bool) (x : Bool) : bvs (l ++ [x]) = bvs l ++ [.bool x] := by simp [bvs]
theorem Try.info4 : (Try.prog.info? 4).map (fun i => (i.zero, i.size, i.bytes)) = some (some (.bool false), 1, 1) := by kernel_rfl

theorem grown_set (w : World) (b : Nat) (u : Value) : w.grownBy (w.setCell ⟨b, 0, none⟩ u) (some b) :=
  ⟨rfl, rfl, rfl, by simp [World.setCell], fun k _ hk => Below.heap_setCell _ _ _ _ (fun e => hk (by simp [e]))⟩

theorem turns_c (w : World) : Calls Try.prog 42 #[] w fun e w' =>
    e = .returned (.func (.func 64) #[] #[.pointer (some ⟨w.heap.size, 0, none⟩)]) ∧ w' = w.alloc (.cells #[.bool true] 4) := by
  have hmf : ∀ (fn : Fn) (first cap : Array Value) (w : World), (Instr.makeFunc fn first cap).run Try.prog w = .ok (.func fn first cap) w := fun _ _ _ _ => rfl
  go_enter Try.func42, Try.ntmps42
  go_wp2
  go_ret
  exact ⟨rfl, rfl⟩
theorem flip_c (b : Nat) (x : Bool) (w : World) (h : Is w b 4 [.bool x]) : Calls Try.prog 64 #[.pointer (some ⟨b, 0, none⟩)] w fun e w' =>
    e = .returned (.bool (!x)) ∧ Is w' b 4 [.bool (!x)] ∧ w.grownBy w' (some b) := by
  have hc := is_cell h 0
  have hf := is_free h 0
  have hlt := is_lt h
  have hset := is_set h 0 (.bool (!x))
  have hg := grown_set w b (.bool (!x))
  simp only [List.getElem?_cons_zero, List.set_cons_zero] at hc hset
  clear h
  have hnot : ∀ (x : Bool) (w : World), (Op.unary .not (.bool x)).run Try.prog w = .ok (.bool (!x)) w := fun _ _ => rfl
  go_enter Try.func64, Try.ntmps64
  go_wp2
  go_ret
  exact ⟨rfl, hset, hg⟩
end Go.Proofs.Ytiehmeheilfocaa
