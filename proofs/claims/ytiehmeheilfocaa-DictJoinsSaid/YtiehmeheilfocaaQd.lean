/-
  May these be runs? the program's, and the document's.
-/
import Derived.Test.YtiehmeheilfocaaQc
import Derived.Test.YtiehmeheilfocaaRj
import Derived.Sort.LoopGhostIn
namespace Go.Proofs.Ytiehmeheilfocaa
open Go.RowKit Go.IntWalk
open Pk
set_option maxRecDepth 100000
attribute [local go_sem] Oper.semAt_some

theorem run_cells {w : World} {B k : Nat} {A : Option Addr} {r : List Run} {x : Run} (h : At w B A (rvs r)) (hk : r[k]? = some x) :
    ∃ b off, A = some ⟨b, off, none⟩ ∧ b < B ∧ w.cell? ⟨b, off + k * 2, none⟩ = some (.int .u64 (x.1 : Int)) ∧ w.cell? ⟨b, off + k * 2 + 1, none⟩ = some (.int .i64 x.2) := by
  obtain ⟨h1, h2⟩ := rvs_at hk
  obtain ⟨b, off, hA, hlt, hc⟩ := h _ _ h1
  obtain ⟨b', off', hA', _, hc'⟩ := h _ _ h2
  rw [hA] at hA'
  cases hA'
  exact ⟨b, off, hA, hlt, hc, hc'⟩
/-- the number ahead of place k -/
def ahd (r : List Run) : Nat → Option Nat
  | 0 => none
  | j + 1 => r[j]?.map (·.1)
theorem may_step {r : List Run} {k v : Nat} {c : Int} (h : r[k]? = some (v, c)) : mayP (ahd r k) (r.drop k) = (decide (1 ≤ c) && !(ahd r k == some v) && mayP (ahd r (k + 1)) (r.drop (k + 1))) := by
  rw [drop_at_cons h, mayP]
  have : ahd r (k + 1) = some v := by simp [ahd, h]
  rw [this]

theorem may_low {r : List Run} {v k : Nat} {c : Int} (hm : (decide (1 ≤ c) && !(ahd r k == some v) && mayP (ahd r (k + 1)) (r.drop (k + 1))) = mayP none r) (h : c < 1) : mayP none r = false := by
  rw [← hm, decide_eq_false (by omega)]; rfl
theorem may_twice {r : List Run} {v j : Nat} {c : Int} {y : Run} (hm : (decide (1 ≤ c) && !(ahd r (j + 1) == some v) && mayP (ahd r (j + 1 + 1)) (r.drop (j + 1 + 1))) = mayP none r) (hy : r[j]? = some y) (h : y.1 = v) : mayP none r = false := by
  rw [← hm]
  simp [ahd, hy, h]
theorem may_next0 {r : List Run} {v : Nat} {c : Int} (hm : (decide (1 ≤ c) && !(ahd r 0 == some v) && mayP (ahd r (0 + 1)) (r.drop (0 + 1))) = mayP none r) (h : ¬ c < 1) : mayP (ahd r 1) (r.drop 1) = mayP none r := by
  rw [← hm, decide_eq_true (by omega)]
  simp [ahd]
theorem may_next {r : List Run} {v j : Nat} {c : Int} {y : Run} (hm : (decide (1 ≤ c) && !(ahd r (j + 1) == some v) && mayP (ahd r (j + 1 + 1)) (r.drop (j + 1 + 1))) = mayP none r) (h : ¬ c < 1) (hy : r[j]? = some y) (hne : y.1 ≠ v) : mayP (ahd r (j + 1 + 1)) (r.drop (j + 1 + 1)) = mayP none r := by
  rw [← hm, decide_eq_true (show 1 ≤ c by omega)]
  have : (ahd r (j + 1) == some v) = false := by simp [ahd, hy, hne]
  rw [this]
  rfl

end Go.Proofs.Ytiehmeheilfocaa

namespace Go.Proofs.Ytiehmeheilfocaa
open Go.RowKit Go.IntWalk
open Pk
set_option maxRecDepth 100000
attribute [local go_sem] Oper.semAt_some

theorem grown_tr {w w1 w2 : World} {r : Option Nat} (h : w.grownBy w1 r) (k : w1.grownBy w2 r) : w.grownBy w2 r :=
  ⟨k.os.trans h.os, k.tape.trans h.tape, k.output.trans h.output, Nat.le_trans h.size k.size, fun i hi hne => (k.block i (Nat.lt_of_lt_of_le hi h.size) hne).trans (h.block i hi hne)⟩
theorem rep_snoc (v k : Nat) : List.replicate (k + 1) v = List.replicate k v ++ [v] := by rw [List.replicate_succ']
theorem uvs_snoc (xs : List Nat) (v : Nat) : uvs (xs ++ [v]) = uvs xs ++ [.int .u64 (v : Int)] := by simp [uvs]
theorem Try.info56 : (Try.prog.info? 56).map (fun i => (i.zero, i.size, i.bytes)) = some (some (.int .u64 0), 1, 8) := by kernel_rfl

set_option maxHeartbeats 4000000 in
theorem lay_c (base g n cap v m : Nat) (xs : List Nat) (hm : m ≤ 100000) (_ : n ≤ 100000) (hcap : n + m ≤ cap) (w : World) (hg : g < w.heap.size) (hown : w.ownsRow base 56 1 (.slice (some ⟨g, 0, none⟩) n cap) n (uvs xs)) :
    Calls Try.prog 71 #[.slice (some ⟨g, 0, none⟩) n cap, .agg #[.int .u64 (v : Int), .int .i64 (m : Int)]] w fun e w' => e = .returned (.slice (some ⟨g, 0, none⟩) (n + m) cap) ∧
      w'.ownsRow base 56 1 (.slice (some ⟨g, 0, none⟩) (n + m) cap) (n + m) (uvs (xs ++ List.replicate m v)) ∧ w.grownBy w' (some g) := by
  obtain ⟨i0, hi, hz0, hz1, hz2⟩ := info_parts Try.info56
  go_enter Try.func71, Try.ntmps71
  go_wp2_with fail
  go_loopw [0, 7] (fun s i wr => ∃ k : Nat, s = .slice (some ⟨g, 0, none⟩) (n + k) cap ∧ i = .int .i64 (k : Int) ∧ k ≤ m ∧ wr.ownsRow base 56 1 (.slice (some ⟨g, 0, none⟩) (n + k) cap) (n + k) (uvs (xs ++ List.replicate k v)) ∧ w.grownBy wr (some g) ∧ wr.cell? ⟨w.heap.size, 0, none⟩ = some (.int .u64 (v : Int)))
    (fun _ i _ => m - (intOf i).toNat)
  case atStart => exact ⟨0, rfl, rfl, Nat.zero_le _, by simpa using hown.alloc _, World.grownBy_alloc _ _ _, by simp⟩
  case round =>
    obtain ⟨k, rfl, rfl, hk, hown, hgr, hcv⟩ := hrel
    by_cases hlt : k < m
    · go_wp2_with (at_builtin; refine wpList_append_fits _ rfl _ _ 40 rfl base 56 i0 1 Try.underlying40 hi hz1 g (n + k) cap _ rfl (hown.alloc _) ⟨wr.heap.size, 0, none⟩ 1 1 [.int .u64 (v : Int)] rfl rfl (cell_one_new _ _ _) (by simp [Value.oneCell']) (by omega) ?_; intro w2 hown' hgrow)
      go_roundw
      case rel =>
        refine ⟨k + 1, rfl, by go_num, by omega, ?_, grown_tr (grown_tr hgr (World.grownBy_alloc _ _ _)) hgrow, ?_⟩
        · rw [rep_snoc, ← List.append_assoc, uvs_snoc]
          exact hown'
        · refine only_cell hgrow (p := ⟨w.heap.size, 0, none⟩) ?_ (by show w.heap.size ≠ g; omega)
          exact only_cell (World.grownBy_alloc wr _ (some g)) (p := ⟨w.heap.size, 0, none⟩) hcv (by show w.heap.size ≠ g; omega)
      case measure => simp only [intOf]; omega
    · obtain rfl : k = m := by omega
      go_wp2_with fail
      go_ret
      exact ⟨rfl, hown, hgr⟩

theorem spr_take_step {r : List Run} {k v : Nat} {c : Int} (h : r[k]? = some (v, c)) : spr (r.take (k + 1)) = spr (r.take k) ++ List.replicate c.toNat v := by
  rw [List.take_add_one, h, spr_app]
  simp [spr]
theorem spr_take_le (r : List Run) (k : Nat) : (spr (r.take k)).length ≤ (spr r).length := by
  have : r = r.take k ++ r.drop k := (List.take_append_drop k r).symm
  conv => rhs; rw [this, spr_app, List.length_append]
  omega
def szV (r : List Run) (most : Int) : Value := if ((spr r).length : Int) ≤ most then .tuple #[.int .i64 ((spr r).length : Int), .bool true] else .tuple #[.int .i64 0, .bool false]
theorem szV_ok {r : List Run} {most : Int} (h : ((spr r).length : Int) ≤ most) : szV r most = .tuple #[.int .i64 ((spr r).length : Int), .bool true] := if_pos h
theorem szV_far {r : List Run} {most : Int} (h : most < ((spr r).length : Int)) : szV r most = .tuple #[.int .i64 0, .bool false] := if_neg (by omega)

end Go.Proofs.Ytiehmeheilfocaa

namespace Go.Proofs.Ytiehmeheilfocaa
open Go.RowKit Go.IntWalk
open Pk
set_option maxRecDepth 100000
attribute [local go_sem] Oper.semAt_some

/-- a list and one value more, as the answer of a call -/
def LstEnd (l : List Nat) (t : Value) (w : World) (e : Ending) (w' : World) : Prop :=
  ∃ A cap, e = .returned (.tuple #[.slice A l.length cap, t]) ∧ l.length ≤ cap ∧ Fresh w.heap.size A ∧ At w' w'.heap.size A (uvs l) ∧ Below w.heap.size w w'
theorem lstEnd_nil {t : Value} {w w' : World} (hb : Below w.heap.size w w') : LstEnd [] t w (.returned (.tuple #[.slice none 0 0, t])) w' :=
  ⟨none, 0, rfl, Nat.le_refl _, fun a ha => (by cases ha), At.nil _ _ _, hb⟩

end Go.Proofs.Ytiehmeheilfocaa

namespace Go.Proofs.Ytiehmeheilfocaa
open Go.RowKit Go.IntWalk
open Pk
set_option maxRecDepth 100000
attribute [local go_sem] Oper.semAt_some

theorem own_snocU {w : World} {base n : Nat} {v : Value} {xs : List Nat} {x : Nat} (h : w.ownsRow base 56 1 v (n + 1) (uvs xs ++ [.int .u64 (x : Int)])) : w.ownsRow base 56 1 v (n + 1) (uvs (xs ++ [x])) := by
  rw [uvs_snoc]; exact h

end Go.Proofs.Ytiehmeheilfocaa
