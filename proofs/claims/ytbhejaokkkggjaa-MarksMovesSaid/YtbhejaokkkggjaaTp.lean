/-
  Kids in their order: plain; and what three appends of rows in one region ask.
-/
import Derived.Test.YtbhejaokkkggjaaTo
import Derived.Test.YtbhejaokkkggjaaNm
namespace Go.Proofs.Ytbhejaokkkggjaa
open Go.RowKit Go.IntWalk
open Fl
set_option maxRecDepth 100000

/-- the order of kids: by rank, and of one rank by child -/
def lsP (a b : Rw) : Bool := decide (fr (cm (ky (rk a)) (ky (rk b))) (ci (ch a) (ch b)) < 0)
/-- where a row is put among n that stand in order, from behind -/
def kAt (o : List Rw) (x : Rw) : Nat → Nat
  | 0 => 0
  | n + 1 => match o[n]? with
    | some y => if lsP x y then kAt o x n else n + 1
    | none => n + 1
def insK (o : List Rw) (x : Rw) : List Rw := o.take (kAt o x o.length) ++ x :: o.drop (kAt o x o.length)
theorem kAt_le (o : List Rw) (x : Rw) : ∀ n, kAt o x n ≤ n
  | 0 => Nat.le_refl _
  | n + 1 => by
    have := kAt_le o x n
    unfold kAt
    split
    · split <;> omega
    · omega
def kidG (p : Int) (o : List Rw) (r : Rw) : List Rw := if pa r = p then insK o r else o
def kidsR (l : List Rw) (p : Int) : List Rw := l.foldl (kidG p) []
theorem insK_len (o : List Rw) (x : Rw) : (insK o x).length = o.length + 1 := by
  have := kAt_le o x o.length
  unfold insK
  rw [List.length_append, List.length_cons, List.length_take, List.length_drop]
  omega
theorem kid_step {l : List Rw} {k : Nat} {r : Rw} (p : Int) (h : l[k]? = some r) : (l.take (k + 1)).foldl (kidG p) [] = kidG p ((l.take k).foldl (kidG p) []) r := by
  rw [List.take_add_one, h, List.foldl_append]; rfl
theorem insK_mem {o : List Rw} {x y : Rw} (h : y ∈ insK o x) : y = x ∨ y ∈ o := by
  unfold insK at h
  rw [List.mem_append, List.mem_cons] at h
  rcases h with h | h | h
  · exact .inr (List.mem_of_mem_take h)
  · exact .inl h
  · exact .inr (List.mem_of_mem_drop h)
theorem kids_mem (p : Int) : ∀ (l o : List Rw) (y : Rw), y ∈ l.foldl (kidG p) o → y ∈ o ∨ y ∈ l
  | [], o, y, h => .inl h
  | r :: l, o, y, h => by
    rw [List.foldl_cons] at h
    rcases kids_mem p l _ y h with h | h
    · unfold kidG at h
      split at h
      · rcases insK_mem h with h | h
        · exact .inr (by rw [h]; exact List.mem_cons_self ..)
        · exact .inl h
      · exact .inl h
    · exact .inr (List.mem_cons_of_mem _ h)

theorem fBelow {B : Nat} {p0 p1 p2 p3 : Addr} {v0 v1 v2 v3 : Value} {w w' : World} (h : (w'.cell? p0 = some v0 ∧ w'.cell? p1 = some v1 ∧ w'.cell? p2 = some v2 ∧ w'.cell? p3 = some v3) ∧ Below B w w') : Below B w w' := h.2
theorem fKeep {B b o0 o1 o2 o3 : Nat} {v0 v1 v2 v3 : Value} {w w1 w2 : World} (hp : b < B) (h : (w1.cell? ⟨b, o0, none⟩ = some v0 ∧ w1.cell? ⟨b, o1, none⟩ = some v1 ∧ w1.cell? ⟨b, o2, none⟩ = some v2 ∧ w1.cell? ⟨b, o3, none⟩ = some v3) ∧ Below B w w1) (hb : Below B w1 w2) :
    (w2.cell? ⟨b, o0, none⟩ = some v0 ∧ w2.cell? ⟨b, o1, none⟩ = some v1 ∧ w2.cell? ⟨b, o2, none⟩ = some v2 ∧ w2.cell? ⟨b, o3, none⟩ = some v3) ∧ Below B w w2 :=
  ⟨⟨(hb.cell (p := ⟨b, o0, none⟩) hp).trans h.1.1, (hb.cell (p := ⟨b, o1, none⟩) hp).trans h.1.2.1, (hb.cell (p := ⟨b, o2, none⟩) hp).trans h.1.2.2.1, (hb.cell (p := ⟨b, o3, none⟩) hp).trans h.1.2.2.2⟩, h.2.trans hb⟩
theorem fAlloc {B b o0 o1 o2 o3 : Nat} {v0 v1 v2 v3 : Value} {w w1 : World} (hp : b < B) (hB : B ≤ w.heap.size) (h : (w1.cell? ⟨b, o0, none⟩ = some v0 ∧ w1.cell? ⟨b, o1, none⟩ = some v1 ∧ w1.cell? ⟨b, o2, none⟩ = some v2 ∧ w1.cell? ⟨b, o3, none⟩ = some v3) ∧ Below B w w1) (o : Obj) :
    ((w1.alloc o).cell? ⟨b, o0, none⟩ = some v0 ∧ (w1.alloc o).cell? ⟨b, o1, none⟩ = some v1 ∧ (w1.alloc o).cell? ⟨b, o2, none⟩ = some v2 ∧ (w1.alloc o).cell? ⟨b, o3, none⟩ = some v3) ∧ Below B w (w1.alloc o) :=
  fKeep hp h ((Below.refl _ _).alloc (Nat.le_trans hB h.2.size) o)
theorem fAllocD {B b o0 o1 o2 o3 : Nat} {v0 v1 v2 v3 : Value} {w w1 : World} (hp : b < B) (hB : B ≤ w.heap.size) (h : (w1.drew.cell? ⟨b, o0, none⟩ = some v0 ∧ w1.drew.cell? ⟨b, o1, none⟩ = some v1 ∧ w1.drew.cell? ⟨b, o2, none⟩ = some v2 ∧ w1.drew.cell? ⟨b, o3, none⟩ = some v3) ∧ Below B w w1.drew) (o : Obj) :
    ((w1.alloc o).drew.cell? ⟨b, o0, none⟩ = some v0 ∧ (w1.alloc o).drew.cell? ⟨b, o1, none⟩ = some v1 ∧ (w1.alloc o).drew.cell? ⟨b, o2, none⟩ = some v2 ∧ (w1.alloc o).drew.cell? ⟨b, o3, none⟩ = some v3) ∧ Below B w (w1.alloc o).drew :=
  fAlloc (w1 := w1.drew) hp hB h o
theorem fSize {B : Nat} {p0 p1 p2 p3 : Addr} {v0 v1 v2 v3 : Value} {w w1 : World} (hB : B ≤ w.heap.size) (h : (w1.cell? p0 = some v0 ∧ w1.cell? p1 = some v1 ∧ w1.cell? p2 = some v2 ∧ w1.cell? p3 = some v3) ∧ Below B w w1) : B ≤ w1.heap.size := Nat.le_trans hB h.2.size
theorem made4_1 (B : Nat) (w : World) (o : Obj) (h : B ≤ w.heap.size) : ((w.alloc o).alloc (.cells #[] 74)).drew.ownsRow B 74 4 (.slice (some ⟨w.heap.size + 1, 0, none⟩) 0 0) 0 [] := by
  have := made4 B (w.alloc o) (by rw [World.size_alloc]; omega)
  rw [World.size_alloc] at this
  exact this
/-- a block of cells as news -/
theorem is_news {w : World} {g : Nat} {t : TypeId} {xs : List Value} (h : Is w g t xs) : ∀ j u, xs[j]? = some u → w.cell? ((⟨g, 0, none⟩ : Addr).add j) = some u := by
  intro j u hu
  rw [add_head]
  exact (is_cell h j).trans hu
theorem is_kept {w1 w2 : World} {g : Nat} {t : TypeId} {xs : List Value} {row : Option Nat} (h : Is w1 g t xs) (hg : w1.grownBy w2 row) (hne : some g ≠ row) : Is w2 g t xs :=
  (hg.block g (is_lt h) hne).trans h
theorem is_new1 (w : World) (xs : List Value) (t s : TypeId) : Is ((w.alloc (.cells xs.toArray t)).alloc (.cells #[] s)).drew w.heap.size t xs := heap_alloc2_old _ _ _
theorem is_new2 (w : World) (xs : List Value) (t s : TypeId) : Is ((w.alloc (.cells #[] s)).alloc (.cells xs.toArray t)).drew (w.heap.size + 1) t xs := heap_alloc2_new _ _ _
theorem own_head4 {w : World} {B : Nat} {e : TypeId} {v : Value} {n m : Nat} {xs ys : List Value} (h : w.ownsRow B e 4 v n xs) (hn : n = m) (hx : xs = ys) : w.ownsRow B e 4 v m ys := by subst hn; subst hx; exact h
end Go.Proofs.Ytbhejaokkkggjaa
