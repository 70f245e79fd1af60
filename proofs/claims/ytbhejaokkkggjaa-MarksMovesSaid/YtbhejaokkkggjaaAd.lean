/-
  copy, at elements of two cells; a mark that is laid into marks of the call's own (slices.Insert).
-/
import Derived.Test.YtbhejaokkkggjaaAc
import Derived.Laws.CopyOwn
import Derived.Lib.Overlaps
import Derived.Lib.AppendZerosOnto
namespace Go.Proofs.Ytbhejaokkkggjaa
open Go.RowKit Go.IntWalk
set_option maxRecDepth 100000
attribute [local go_sem] Oper.semAt_some

theorem run_copy_some2 {P : Program} (w : World) (dT sT ty elem : TypeId) (g o dLen dCap : Nat) (a : Addr) (sLen sCap m : Nat) (cur : Array Value) (t : TypeId) (cs : List Value)
    (hu : P.underlying dT = some (.slice elem)) (hs : (P.info? elem).map (·.size) = some 2) (hm : m = Nat.min sLen dLen)
    (hg : w.heap[g]? = some (.cells cur t (0, 0))) (hn : cs.length = m * 2)
    (hsrc : ∀ j v, cs[j]? = some v → w.cell? (a.add j) = some v) (hfit : o + cs.length ≤ cur.size) (h1 : ∀ v ∈ cs, v.oneCell' = true) :
    (Builtin.copy_ #[dT, sT] ty #[.slice (some ⟨g, o, none⟩) dLen dCap, .slice (some a) sLen sCap]).run P w =
      .ok (goInt m) (w.setRow g (cur.toList.take o ++ cs ++ cur.toList.drop (o + cs.length)).toArray) := by
  have hl := run_loadCells_list (P := P) w a cs hsrc
  have hst := run_storeCells_at P g o t cs 0 cur w hg (by simpa using hfit) h1
  cases hq : P.info? elem with
  | none => simp [hq] at hs
  | some i =>
    have hi : i.size = 2 := by simpa [hq] using hs
    simp [Builtin.copy_, run_underlying hu, Builtin.lenOf, Builtin.firstCells, sizeOf, typeInfo, hq, hi, ← hm, ← hn, hl, hst]
theorem run_copy_none2 {P : Program} (w : World) (dT sT ty elem : TypeId) (d a : Option Addr) (dLen dCap sLen sCap : Nat) (hu : P.underlying dT = some (.slice elem)) (hs : (P.info? elem).map (·.size) = some 2) (hn : Nat.min sLen dLen = 0) :
    (Builtin.copy_ #[dT, sT] ty #[.slice d dLen dCap, .slice a sLen sCap]).run P w = .ok (goInt 0) w := by
  cases hq : P.info? elem with
  | none => simp [hq] at hs
  | some i =>
    have hl : ∀ (x : Addr), (loadCells x 0).run P w = .ok #[] w := fun x => by simpa using run_loadCells_list (P := P) w x [] (by simp)
    cases d <;> cases a <;> simp [Builtin.copy_, run_underlying hu, Builtin.lenOf, Builtin.firstCells, sizeOf, typeInfo, hq, hn, storeCells, hl]
theorem run_copy2 {P : Program} {w : World} (dT sT ty elem : TypeId) (hu : P.underlying dT = some (.slice elem)) (hsz : (P.info? elem).map (·.size) = some 2)
    (dp sp : Option Addr) (dLen dCap sLen sCap : Nat) (g off m : Nat) (hm : m = Nat.min sLen dLen) (cur : List Value) (t : TypeId) (hg : w.heap[g]? = some (.cells cur.toArray t (0, 0))) (cs : List Value) (hn : cs.length = m * 2)
    (hpos : 0 < m → dp = some ⟨g, off, none⟩ ∧ ∃ ad, sp = some ad ∧ ∀ j v, cs[j]? = some v → w.cell? (ad.add j) = some v)
    (hfit : off + cs.length ≤ cur.length) (h1 : ∀ v ∈ cs, v.oneCell' = true) (B : Nat) (w0 : World) (hb : Below B w0 w) (hBg : B ≤ g) :
    ∃ w', (Builtin.copy_ #[dT, sT] ty #[.slice dp dLen dCap, .slice sp sLen sCap]).run P w = .ok (goInt m) w' ∧ w'.heap[g]? = some (.cells (splice cur off cs).toArray t (0, 0)) ∧ Below B w0 w' ∧ (∀ k, k ≠ g → w'.heap[k]? = w.heap[k]?) := by
  by_cases h0 : m = 0
  · subst h0
    obtain rfl : cs = [] := List.eq_nil_of_length_eq_zero (by omega)
    exact ⟨w, run_copy_none2 w dT sT ty elem dp sp dLen dCap sLen sCap hu hsz hm.symm, by simpa [splice] using hg, hb, fun _ _ => rfl⟩
  · obtain ⟨rfl, ad, rfl, hsrc⟩ := hpos (by omega)
    exact ⟨_, run_copy_some2 w dT sT ty elem g off dLen dCap ad sLen sCap m cur.toArray t cs hu hsz hm hg hn hsrc (by simpa using hfit) h1, by simpa [splice] using setRow_heap w g _ _ t _ hg, below_setRow hb hBg _, fun k hk => setRow_other w g k _ hk⟩
theorem wpList_copy2 {P : Program} {w : World} {ops : Array Oper} {rest : List Oper} {o : Oper} {a : Act} {Q : Exit → Act → World → Prop} (hgd : o.guard = none) (d s : Operand) (dT sT : TypeId)
    (ho : o.op = .call { callee := .builtin .copy, args := #[d, s], argTypes := #[dT, sT] }) (elem : TypeId) (hu : P.underlying dT = some (.slice elem)) (hsz : (P.info? elem).map (·.size) = some 2)
    (dp sp : Option Addr) (dLen dCap sLen sCap : Nat) (hd : a.eval d = .slice dp dLen dCap) (hs : a.eval s = .slice sp sLen sCap)
    (g off m : Nat) (hm : m = Nat.min sLen dLen) (cur : List Value) (t : TypeId) (hg : w.heap[g]? = some (.cells cur.toArray t (0, 0))) (cs : List Value) (hn : cs.length = m * 2)
    (hpos : 0 < m → dp = some ⟨g, off, none⟩ ∧ ∃ ad, sp = some ad ∧ ∀ j v, cs[j]? = some v → w.cell? (ad.add j) = some v)
    (hfit : off + cs.length ≤ cur.length) (h1 : ∀ v ∈ cs, v.oneCell' = true) (B : Nat) (w0 : World) (hb : Below B w0 w) (hBg : B ≤ g)
    (h : ∀ w', Hid (w'.heap[g]? = some (.cells (splice cur off cs).toArray t (0, 0))) → Hid (Below B w0 w' ∧ ∀ k, k ≠ g → w'.heap[k]? = w.heap[k]?) → wpList P ops Q rest (a.put o.dst (goInt m)) w') :
    wpList P ops Q (o :: rest) a w := by
  obtain ⟨w', hrun, h2, h3, h4⟩ := run_copy2 dT sT o.type elem hu hsz dp sp dLen dCap sLen sCap g off m hm cur t hg cs hn hpos hfit h1 B w0 hb hBg
  refine wpList_plain hgd fun K hK => ?_
  unfold Oper.wp
  simp [execOp, ho, resolve, invoke, builtin, hd, hs, hrun, Result.andThen]
  exact hK _ _ (h w' h2 ⟨h3, h4⟩)
theorem step_copy2 {P : Program} {ops : Array Oper} {o : Oper} {a : Act} {w : World} {K : Act → World → Prop} {Q : Exit → Act → World → Prop} {E : Prop} (hgd : o.guard = none) (d s : Operand) (dT sT : TypeId)
    (ho : o.op = .call { callee := .builtin .copy, args := #[d, s], argTypes := #[dT, sT] }) (elem : TypeId) (hu : P.underlying dT = some (.slice elem)) (hsz : (P.info? elem).map (·.size) = some 2)
    (dp sp : Option Addr) (dLen dCap sLen sCap : Nat) (hd : a.eval d = .slice dp dLen dCap) (hs : a.eval s = .slice sp sLen sCap)
    (g off m : Nat) (hm : m = Nat.min sLen dLen) (cur : List Value) (t : TypeId) (hg : w.heap[g]? = some (.cells cur.toArray t (0, 0))) (cs : List Value) (hn : cs.length = m * 2)
    (hpos : 0 < m → dp = some ⟨g, off, none⟩ ∧ ∃ ad, sp = some ad ∧ ∀ j v, cs[j]? = some v → w.cell? (ad.add j) = some v)
    (hfit : off + cs.length ≤ cur.length) (h1 : ∀ v ∈ cs, v.oneCell' = true) (B : Nat) (w0 : World) (hb : Below B w0 w) (hBg : B ≤ g)
    (h : ∀ w', Hid (w'.heap[g]? = some (.cells (splice cur off cs).toArray t (0, 0))) → Hid (Below B w0 w' ∧ ∀ k, k ≠ g → w'.heap[k]? = w.heap[k]?) → K (a.put o.dst (goInt m)) w') :
    if Region.wanted o (yielded ops a.tmps) = true then Oper.wp P o a w K Q else E := by
  have hw : Region.wanted o (yielded ops a.tmps) = true := by simp [Region.wanted, hgd]
  rw [if_pos hw]
  obtain ⟨w', hrun, h2, h3, h4⟩ := run_copy2 dT sT o.type elem hu hsz dp sp dLen dCap sLen sCap g off m hm cur t hg cs hn hpos hfit h1 B w0 hb hBg
  unfold Oper.wp
  simp [execOp, ho, resolve, invoke, builtin, hd, hs, hrun, Result.andThen]
  exact h w' h2 ⟨h3, h4⟩

/-- what stood from a place on goes over two places further on, and two go in -/
theorem shift2 {a b X v : List Value} (hv : v.length = 2) (hX : 2 ≤ X.length) : (splice (splice (a ++ b ++ X) (a.length + 2) b) a.length v).take (a.length + 2 + b.length) = a ++ v ++ b := by
  obtain ⟨y, z, hyz, hy⟩ : ∃ y z, b ++ X = y ++ z ∧ y.length = 2 := ⟨(b ++ X).take 2, (b ++ X).drop 2, (List.take_append_drop _ _).symm, by rw [List.length_take, List.length_append]; omega⟩
  have h1 : splice (a ++ b ++ X) (a.length + 2) b = a ++ (y ++ (b ++ (a ++ (b ++ X)).drop (a.length + 2 + b.length))) := by
    unfold splice
    rw [List.append_assoc, hyz, List.take_append, List.take_of_length_le (by omega), show a.length + 2 - a.length = y.length by omega, List.take_left, List.append_assoc]
  rw [h1]
  unfold splice
  rw [List.take_left, hv, show a.length + 2 = a.length + y.length by omega, ← List.drop_drop, List.drop_left, List.drop_left]
  rw [← List.append_assoc a v, ← List.append_assoc (a ++ v), List.take_append_of_le_length (by simp; omega), List.take_of_length_le (by simp; omega)]
/-- a new row: what stood ahead, two, and what stood from there on -/
theorem grow2 {a b Z v : List Value} (hv : v.length = 2) (_hZ : 2 + b.length ≤ Z.length) : (splice (splice (a ++ Z) a.length v) (a.length + 2) b).take (a.length + 2 + b.length) = a ++ v ++ b := by
  have h1 : splice (a ++ Z) a.length v = (a ++ v) ++ Z.drop 2 := by
    unfold splice
    rw [List.take_left, hv, ← List.drop_drop, List.drop_left, List.append_assoc]
  rw [h1]
  unfold splice
  rw [show a.length + 2 = (a ++ v).length by simp [hv], List.take_left, ← List.append_assoc, List.take_left' (by simp; omega)]
theorem own_of_row {w : World} {B g cap n : Nat} {l : List Mk} {cur : List Value} (hB : B ≤ g) (hg : w.heap[g]? = some (.cells cur.toArray 70 (0, 0))) (hn : n = l.length) (hc : n ≤ cap) (hm : cap ≤ maxLen) (hs : cur.length = cap * 2) (ht : cur.take (n * 2) = kvs l) :
    w.ownsRow B 70 2 (.slice (some ⟨g, 0, none⟩) n cap) n (kvs l) :=
  ⟨by rw [kvs_len, hn], .inr ⟨g, cap, cur.toArray, rfl, hB, hg, hc, hm, by simpa using hs, by simpa using ht⟩⟩
end Go.Proofs.Ytbhejaokkkggjaa
