/-
  Three appends in one region that draws: what its arms ask.
-/
import Derived.Test.YtbhejaokkkggjaaTm
import Derived.Deep.RegionHeldLaw
namespace Go.Proofs.Ytbhejaokkkggjaa
open Go.RowKit Go.IntWalk
set_option maxRecDepth 100000

/-- append to a row of the call's own, as one step of a region that draws -/
theorem step_append_own {P : Program} {ops : Array Oper} {o : Oper} {a : Act} {w : World} {K : Act → World → Prop} {Q : Exit → Act → World → Prop} {E : Prop} (hgd : o.guard = none) (s x : Operand) (t : TypeId)
    (ho : o.op = .call { callee := .builtin .append, args := #[s, x], argTypes := #[t, t] })
    (base : Nat) (e : TypeId) (i : TypeInfo) (z : Value) (size bytes : Nat) (ht : P.underlying t = some (.slice e)) (hi : P.info? e = some i) (hz : i.zero = some z)
    (hsize : i.size = size) (hby : i.bytes = bytes) (hzs : z.cells.size = size) (hsz : 0 < size)
    (v : Value) (n : Nat) (xs : List Value) (hs : a.eval s = v) (hown : w.ownsRow base e size v n xs)
    (ad : Addr) (m c : Nat) (news : List Value) (hx : a.eval x = .slice (some ad) m c) (hl : news.length = m * size) (hnews : ∀ j u, news[j]? = some u → w.cell? (ad.add j) = some u) (h1 : ∀ u ∈ news, u.oneCell' = true)
    (h63 : n + m ≤ maxLen) (hbytes : (n + m) * bytes ≤ 140737488355328) (hbase : base ≤ w.heap.size)
    (h : ∀ v' w', w'.ownsRow base e size v' (n + m) (xs ++ news) → w.grownBy w' v.ownBlock → K (a.put o.dst v') w') :
    if Region.wanted o (yielded ops a.tmps) = true then Oper.wp P o a w K Q else E := by
  have hw : Region.wanted o (yielded ops a.tmps) = true := by simp [Region.wanted, hgd]
  rw [if_pos hw]
  exact wp_append_own w s x t ho base e i z size bytes ht hi hz hsize hby hzs hsz v n xs hs hown ad m c news hx hl hnews h1 h63 hbytes hbase fun v' w' h2 h3 _ => h v' w' h2 h3
theorem own_drew {w : World} {base : Nat} {e : TypeId} {size : Nat} {v : Value} {n : Nat} {xs : List Value} (h : w.ownsRow base e size v n xs) : w.drew.ownsRow base e size v n xs := h
theorem below_own2 {B : Nat} {w w1 w2 : World} {v : Value} {e : TypeId} {size n : Nat} {xs : List Value} (hb : Below B w w1) (hB : B ≤ w1.heap.size) (hown : w1.ownsRow B e size v n xs) (hg : w1.grownBy w2 v.ownBlock) : Below B w w2 :=
  hb.grown hg hB (fun k hk => (hown.lt k hk).1)
theorem sBelow {B : Nat} {p : Addr} {v : Value} {w w' : World} (h : w'.cell? p = some v ∧ Below B w w') : Below B w w' := h.2
theorem sKeep {B : Nat} {p : Addr} {v : Value} {w w1 w2 : World} (hp : p.block < B) (h : w1.cell? p = some v ∧ Below B w w1) (hb : Below B w1 w2) : w2.cell? p = some v ∧ Below B w w2 :=
  ⟨(hb.cell hp).trans h.1, h.2.trans hb⟩
theorem sAlloc {B : Nat} {p : Addr} {v : Value} {w w1 : World} (hp : p.block < B) (hB : B ≤ w.heap.size) (h : w1.cell? p = some v ∧ Below B w w1) (o : Obj) : (w1.alloc o).cell? p = some v ∧ Below B w (w1.alloc o) :=
  sKeep hp h ((Below.refl _ _).alloc (Nat.le_trans hB h.2.size) o)
theorem sAllocD {B : Nat} {p : Addr} {v : Value} {w w1 : World} (hp : p.block < B) (hB : B ≤ w.heap.size) (h : w1.drew.cell? p = some v ∧ Below B w w1.drew) (o : Obj) : (w1.alloc o).drew.cell? p = some v ∧ Below B w (w1.alloc o).drew :=
  sAlloc (w1 := w1.drew) hp hB h o
theorem sSize {B : Nat} {p : Addr} {v : Value} {w w1 : World} (hB : B ≤ w.heap.size) (h : w1.cell? p = some v ∧ Below B w w1) : B ≤ w1.heap.size := Nat.le_trans hB h.2.size
theorem cell_kept {w1 w2 : World} {g : Nat} {v : Value} {row : Option Nat} (h : w1.cell? ⟨g, 0, none⟩ = some v) (hg : w1.grownBy w2 row) (hne : some g ≠ row) : w2.cell? ⟨g, 0, none⟩ = some v :=
  (World.cell?_of_block (hg.block g (World.block_lt_of_cell? _ _ h) hne)).trans h
theorem cell_new1 (w : World) (v : Value) (t : TypeId) : ((w.alloc (.cells #[v] t)).alloc (.cells #[] t)).drew.cell? ⟨w.heap.size, 0, none⟩ = some v := by
  have h : ((w.alloc (.cells #[v] t)).alloc (.cells #[] t)).heap[w.heap.size]? = some (.cells #[v] t) := heap_alloc2_old _ _ _
  rw [show ((w.alloc (.cells #[v] t)).alloc (.cells #[] t)).drew.cell? ⟨w.heap.size, 0, none⟩ = ((w.alloc (.cells #[v] t)).alloc (.cells #[] t)).cell? ⟨w.heap.size, 0, none⟩ from rfl, cell_of_row _ _ 0 _ _ _ h]
  rfl
theorem cell_new2 (w : World) (v : Value) (t : TypeId) : ((w.alloc (.cells #[] t)).alloc (.cells #[v] t)).drew.cell? ⟨w.heap.size + 1, 0, none⟩ = some v := by
  have h : ((w.alloc (.cells #[] t)).alloc (.cells #[v] t)).heap[w.heap.size + 1]? = some (.cells #[v] t) := heap_alloc2_new _ _ _
  rw [show ((w.alloc (.cells #[] t)).alloc (.cells #[v] t)).drew.cell? ⟨w.heap.size + 1, 0, none⟩ = ((w.alloc (.cells #[] t)).alloc (.cells #[v] t)).cell? ⟨w.heap.size + 1, 0, none⟩ from rfl, cell_of_row _ _ 0 _ _ _ h]
  rfl
theorem one_news {w : World} {g : Nat} {v : Value} (h : w.cell? ⟨g, 0, none⟩ = some v) : ∀ j u, [v][j]? = some u → w.cell? ((⟨g, 0, none⟩ : Addr).add j) = some u := by
  intro j u hj
  match j, hj with
  | 0, hj =>
    simp at hj
    subst hj
    simpa [Addr.add] using h
  | j + 1, hj => simp at hj
theorem made (B : Nat) (W : World) (h : B ≤ W.heap.size) : (W.alloc (.cells #[] 3)).ownsRow B 3 1 (.slice (some ⟨W.heap.size, 0, none⟩) 0 0) 0 [] :=
  World.ownsRow_made (base := B) (e := 3) (size := 1) W #[] 0 h (by unfold maxLen; omega) rfl

theorem made1 (B : Nat) (w : World) (o : Obj) (h : B ≤ w.heap.size) : ((w.alloc o).alloc (.cells #[] 3)).drew.ownsRow B 3 1 (.slice (some ⟨w.heap.size + 1, 0, none⟩) 0 0) 0 [] := by
  have := made B (w.alloc o) (by rw [World.size_alloc]; omega)
  rw [World.size_alloc] at this
  exact this

theorem own_head {w : World} {B : Nat} {e : TypeId} {v : Value} {n m : Nat} {xs ys : List Value} (h : w.ownsRow B e 1 v n xs) (hn : n = m) (hx : xs = ys) : w.ownsRow B e 1 v m ys := by subst hn; subst hx; exact h

end Go.Proofs.Ytbhejaokkkggjaa
