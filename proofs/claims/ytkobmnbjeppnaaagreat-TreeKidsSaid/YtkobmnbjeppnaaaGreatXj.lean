/-
 Three appends in one region that draws: what its arms ask.
 Kids in their order: plain; and what three appends of rows in one region ask.
 All kids of all parents are all rows: plain.
 Kids stand in their order: plain.
-/
import Derived.Test.YtkobmnbjeppnaaaGreatQa
import Derived.Deep.RegionHeldLaw
import Derived.Test.YtkobmnbjeppnaaaGreatNm
import Derived.Test.YtkobmnbjeppnaaaGreatXf
section
namespace Go.Proofs.YtkobmnbjeppnaaaGreat
open Go.RowKit Go.IntWalk
set_option maxRecDepth 100000
/-- append to a row of the call's own, as one step of a region that draws -/
theorem step_append_own {P : Program} {ops : Array Oper} {o : Oper} {a : Act} {w : World} {K : Act → World → Prop} {Q : Exit → Act → World → Prop} {E : Prop} (hgd : o.guard = none) (s x : Operand) (t : TypeId)
  (ho : o.op = .call { callee := .builtin .append, args := #[s, x], argTypes := #[t, t] })
  (base : Nat) (e : TypeId) (i : TypeInfo) (z : Value) (size bytes : Nat) (ht : P.underlying t = some (.slice e)) (hi : P.info? e = some i) (hz : i.zero = some z)
  (hsize : i.size = size) (hby : i.bytes = bytes) (hzs : z.cells.size = size) (hsz : 0 < size)
  (v : Value) (n : Nat) (xs : List Value) (hs : a.eval s = v) (hown : w.ownsRow base e size v n xs)
  (ad : Addr) (m c : Nat) (news : List Value) (hx : a.eval x = .slice (some ad) m c) (hl : news.length = m * size) (hnews : ∀ j u, news[j]? = some u → w.cell? (ad.add j) = some u) (h1 : ∀ u ∈ news, u.oneCell' = true)
  (h63 : n + m ≤ maxLen) (hbytes : (n + m) * bytes ≤ 140737488355328) (hbase : base ≤ w.heap.size)
  (h : ∀ v' w', w'.ownsRow base e size v' (n + m) (xs ++ news) → w.grownBy w' v.ownBlock → K (a.put o.dst v') w') :
  if Region.wanted o (yielded ops a.tmps) = true then Oper.wp P o a w K Q else E := by
 have hw : Region.wanted o (yielded ops a.tmps) = true := by simp [Region.wanted, hgd]
 rw [if_pos hw]
 exact wp_append_own w s x t ho base e i z size bytes ht hi hz hsize hby hzs hsz v n xs hs hown ad m c news hx hl hnews h1 h63 hbytes hbase fun v' w' h2 h3 _ => h v' w' h2 h3
theorem own_drew {w : World} {base : Nat} {e : TypeId} {size : Nat} {v : Value} {n : Nat} {xs : List Value} (h : w.ownsRow base e size v n xs) : w.drew.ownsRow base e size v n xs := h
theorem below_own2 {B : Nat} {w w1 w2 : World} {v : Value} {e : TypeId} {size n : Nat} {xs : List Value} (hb : Below B w w1) (hB : B ≤ w1.heap.size) (hown : w1.ownsRow B e size v n xs) (hg : w1.grownBy w2 v.ownBlock) : Below B w w2 :=
 hb.grown hg hB (fun k hk => (hown.lt k hk).1)
theorem sBelow {B : Nat} {p : Addr} {v : Value} {w w' : World} (h : w'.cell? p = some v ∧ Below B w w') : Below B w w' := h.2
theorem sKeep {B : Nat} {p : Addr} {v : Value} {w w1 w2 : World} (hp : p.block < B) (h : w1.cell? p = some v ∧ Below B w w1) (hb : Below B w1 w2) : w2.cell? p = some v ∧ Below B w w2 :=
 ⟨(hb.cell hp).trans h.1, h.2.trans hb⟩
theorem sAlloc {B : Nat} {p : Addr} {v : Value} {w w1 : World} (hp : p.block < B) (hB : B ≤ w.heap.size) (h : w1.cell? p = some v ∧ Below B w w1) (o : Obj) : (w1.alloc o).cell? p = some v ∧ Below B w (w1.alloc o) :=
 sKeep hp h ((Below.refl _ _).alloc (Nat.le_trans hB h.2.size) o)
theorem sSize {B : Nat} {p : Addr} {v : Value} {w w1 : World} (hB : B ≤ w.heap.size) (h : w1.cell? p = some v ∧ Below B w w1) : B ≤ w1.heap.size := Nat.le_trans hB h.2.size
theorem cell_kept {w1 w2 : World} {g : Nat} {v : Value} {row : Option Nat} (h : w1.cell? ⟨g, 0, none⟩ = some v) (hg : w1.grownBy w2 row) (hne : some g ≠ row) : w2.cell? ⟨g, 0, none⟩ = some v :=
 (World.cell?_of_block (hg.block g (World.block_lt_of_cell? _ _ h) hne)).trans h
theorem cell_new1 (w : World) (v : Value) (t : TypeId) : ((w.alloc (.cells #[v] t)).alloc (.cells #[] t)).drew.cell? ⟨w.heap.size, 0, none⟩ = some v := by
 have h : ((w.alloc (.cells #[v] t)).alloc (.cells #[] t)).heap[w.heap.size]? = some (.cells #[v] t) := heap_alloc2_old _ _ _
 rw [show ((w.alloc (.cells #[v] t)).alloc (.cells #[] t)).drew.cell? ⟨w.heap.size, 0, none⟩ = ((w.alloc (.cells #[v] t)).alloc (.cells #[] t)).cell? ⟨w.heap.size, 0, none⟩ from rfl, cell_of_row _ _ 0 _ _ _ h]
 rfl
theorem cell_new2 (w : World) (v : Value) (t : TypeId) : ((w.alloc (.cells #[] t)).alloc (.cells #[v] t)).drew.cell? ⟨w.heap.size + 1, 0, none⟩ = some v := by
 have h : ((w.alloc (.cells #[] t)).alloc (.cells #[v] t)).heap[w.heap.size + 1]? = some (.cells #[v] t) := heap_alloc2_new _ _ _
 rw [show ((w.alloc (.cells #[] t)).alloc (.cells #[v] t)).drew.cell? ⟨w.heap.size + 1, 0, none⟩ = ((w.alloc (.cells #[] t)).alloc (.cells #[v] t)).cell? ⟨w.heap.size + 1, 0, none⟩ from rfl, cell_of_row _ _ 0 _ _ _ h]
 rfl
theorem one_news {w : World} {g : Nat} {v : Value} (h : w.cell? ⟨g, 0, none⟩ = some v) : ∀ j u, [v][j]? = some u → w.cell? ((⟨g, 0, none⟩ : Addr).add j) = some u := by
 intro j u hj
 match j, hj with
 | 0, hj =>
  simp at hj
  subst hj
  simpa [Addr.add] using h
 | j + 1, hj => simp at hj
theorem made (B : Nat) (W : World) (h : B ≤ W.heap.size) : (W.alloc (.cells #[] 3)).ownsRow B 3 1 (.slice (some ⟨W.heap.size, 0, none⟩) 0 0) 0 [] :=
 World.ownsRow_made (base := B) (e := 3) (size := 1) W #[] 0 h (by unfold maxLen; omega) rfl
theorem made1 (B : Nat) (w : World) (o : Obj) (h : B ≤ w.heap.size) : ((w.alloc o).alloc (.cells #[] 3)).drew.ownsRow B 3 1 (.slice (some ⟨w.heap.size + 1, 0, none⟩) 0 0) 0 [] := by
 have := made B (w.alloc o) (by rw [World.size_alloc]; omega)
 rw [World.size_alloc] at this
 exact this
theorem own_head {w : World} {B : Nat} {e : TypeId} {v : Value} {n m : Nat} {xs ys : List Value} (h : w.ownsRow B e 1 v n xs) (hn : n = m) (hx : xs = ys) : w.ownsRow B e 1 v m ys := by subst hn; subst hx; exact h
end Go.Proofs.YtkobmnbjeppnaaaGreat
end
section
namespace Go.Proofs.YtkobmnbjeppnaaaGreat
open Go.RowKit Go.IntWalk
open Fl
set_option maxRecDepth 100000
/-- the order of kids: by rank, and of one rank by child -/
def lsP (a b : Rw) : Bool := decide (fr (cm (ky (rk a)) (ky (rk b))) (ci (ch a) (ch b)) < 0)
/-- where a row is put among n that stand in order, from behind -/
def kAt (o : List Rw) (x : Rw) : Nat → Nat
 | 0 => 0
 | n + 1 => match o[n]? with
  | some y => if lsP x y then kAt o x n else n + 1
  | none => n + 1
def insK (o : List Rw) (x : Rw) : List Rw := o.take (kAt o x o.length) ++ x :: o.drop (kAt o x o.length)
theorem kAt_le (o : List Rw) (x : Rw) : ∀ n, kAt o x n ≤ n
 | 0 => Nat.le_refl _
 | n + 1 => by
  have := kAt_le o x n
  unfold kAt
  split
  ·split <;> omega
  ·omega
def kidG (p : Int) (o : List Rw) (r : Rw) : List Rw := if pa r = p then insK o r else o
def kidsR (l : List Rw) (p : Int) : List Rw := l.foldl (kidG p) []
theorem insK_len (o : List Rw) (x : Rw) : (insK o x).length = o.length + 1 := by
 have := kAt_le o x o.length
 unfold insK
 rw [List.length_append, List.length_cons, List.length_take, List.length_drop]
 omega
theorem kid_step {l : List Rw} {k : Nat} {r : Rw} (p : Int) (h : l[k]? = some r) : (l.take (k + 1)).foldl (kidG p) [] = kidG p ((l.take k).foldl (kidG p) []) r := by
 rw [List.take_add_one, h, List.foldl_append]; rfl
theorem insK_mem {o : List Rw} {x y : Rw} (h : y ∈ insK o x) : y = x ∨ y ∈ o := by
 unfold insK at h
 rw [List.mem_append, List.mem_cons] at h
 rcases h with h | h | h
 ·exact .inr (List.mem_of_mem_take h)
 ·exact .inl h
 ·exact .inr (List.mem_of_mem_drop h)
theorem kids_mem (p : Int) : ∀ (l o : List Rw) (y : Rw), y ∈ l.foldl (kidG p) o → y ∈ o ∨ y ∈ l
 | [], o, y, h => .inl h
 | r :: l, o, y, h => by
  rw [List.foldl_cons] at h
  rcases kids_mem p l _ y h with h | h
  ·unfold kidG at h
   split at h
   ·rcases insK_mem h with h | h
    ·exact .inr (by rw [h]; exact List.mem_cons_self ..)
    ·exact .inl h
   ·exact .inl h
  ·exact .inr (List.mem_cons_of_mem _ h)
theorem fBelow {B : Nat} {p0 p1 p2 p3 : Addr} {v0 v1 v2 v3 : Value} {w w' : World} (h : (w'.cell? p0 = some v0 ∧ w'.cell? p1 = some v1 ∧ w'.cell? p2 = some v2 ∧ w'.cell? p3 = some v3) ∧ Below B w w') : Below B w w' := h.2
theorem fKeep {B b o0 o1 o2 o3 : Nat} {v0 v1 v2 v3 : Value} {w w1 w2 : World} (hp : b < B) (h : (w1.cell? ⟨b, o0, none⟩ = some v0 ∧ w1.cell? ⟨b, o1, none⟩ = some v1 ∧ w1.cell? ⟨b, o2, none⟩ = some v2 ∧ w1.cell? ⟨b, o3, none⟩ = some v3) ∧ Below B w w1) (hb : Below B w1 w2) :
  (w2.cell? ⟨b, o0, none⟩ = some v0 ∧ w2.cell? ⟨b, o1, none⟩ = some v1 ∧ w2.cell? ⟨b, o2, none⟩ = some v2 ∧ w2.cell? ⟨b, o3, none⟩ = some v3) ∧ Below B w w2 :=
 ⟨⟨(hb.cell (p := ⟨b, o0, none⟩) hp).trans h.1.1, (hb.cell (p := ⟨b, o1, none⟩) hp).trans h.1.2.1, (hb.cell (p := ⟨b, o2, none⟩) hp).trans h.1.2.2.1, (hb.cell (p := ⟨b, o3, none⟩) hp).trans h.1.2.2.2⟩, h.2.trans hb⟩
theorem fAlloc {B b o0 o1 o2 o3 : Nat} {v0 v1 v2 v3 : Value} {w w1 : World} (hp : b < B) (hB : B ≤ w.heap.size) (h : (w1.cell? ⟨b, o0, none⟩ = some v0 ∧ w1.cell? ⟨b, o1, none⟩ = some v1 ∧ w1.cell? ⟨b, o2, none⟩ = some v2 ∧ w1.cell? ⟨b, o3, none⟩ = some v3) ∧ Below B w w1) (o : Obj) :
  ((w1.alloc o).cell? ⟨b, o0, none⟩ = some v0 ∧ (w1.alloc o).cell? ⟨b, o1, none⟩ = some v1 ∧ (w1.alloc o).cell? ⟨b, o2, none⟩ = some v2 ∧ (w1.alloc o).cell? ⟨b, o3, none⟩ = some v3) ∧ Below B w (w1.alloc o) :=
 fKeep hp h ((Below.refl _ _).alloc (Nat.le_trans hB h.2.size) o)
theorem fSize {B : Nat} {p0 p1 p2 p3 : Addr} {v0 v1 v2 v3 : Value} {w w1 : World} (hB : B ≤ w.heap.size) (h : (w1.cell? p0 = some v0 ∧ w1.cell? p1 = some v1 ∧ w1.cell? p2 = some v2 ∧ w1.cell? p3 = some v3) ∧ Below B w w1) : B ≤ w1.heap.size := Nat.le_trans hB h.2.size
theorem made4_1 (B : Nat) (w : World) (o : Obj) (h : B ≤ w.heap.size) : ((w.alloc o).alloc (.cells #[] 28)).drew.ownsRow B 28 4 (.slice (some ⟨w.heap.size + 1, 0, none⟩) 0 0) 0 [] := by
 have := made4 B (w.alloc o) (by rw [World.size_alloc]; omega)
 rw [World.size_alloc] at this
 exact this
/-- a block of cells as news -/
theorem is_news {w : World} {g : Nat} {t : TypeId} {xs : List Value} (h : Is w g t xs) : ∀ j u, xs[j]? = some u → w.cell? ((⟨g, 0, none⟩ : Addr).add j) = some u := by
 intro j u hu
 rw [add_head]
 exact (is_cell h j).trans hu
theorem is_kept {w1 w2 : World} {g : Nat} {t : TypeId} {xs : List Value} {row : Option Nat} (h : Is w1 g t xs) (hg : w1.grownBy w2 row) (hne : some g ≠ row) : Is w2 g t xs :=
 (hg.block g (is_lt h) hne).trans h
theorem is_new1 (w : World) (xs : List Value) (t s : TypeId) : Is ((w.alloc (.cells xs.toArray t)).alloc (.cells #[] s)).drew w.heap.size t xs := heap_alloc2_old _ _ _
theorem is_new2 (w : World) (xs : List Value) (t s : TypeId) : Is ((w.alloc (.cells #[] s)).alloc (.cells xs.toArray t)).drew (w.heap.size + 1) t xs := heap_alloc2_new _ _ _
theorem own_head4 {w : World} {B : Nat} {e : TypeId} {v : Value} {n m : Nat} {xs ys : List Value} (h : w.ownsRow B e 4 v n xs) (hn : n = m) (hx : xs = ys) : w.ownsRow B e 4 v m ys := by subst hn; subst hx; exact h
end Go.Proofs.YtkobmnbjeppnaaaGreat
end
section
namespace Go.Proofs.YtkobmnbjeppnaaaGreat
set_option maxRecDepth 100000
theorem filter_or {α : Type} (p q : α → Bool) : ∀ (l : List α), (∀ x ∈ l, p x = true → q x = false) → (l.filter fun x => p x || q x).length = (l.filter p).length + (l.filter q).length
 | [], _ => rfl
 | x :: t, h => by
  have ih := filter_or p q t fun y hy => h y (List.mem_cons_of_mem _ hy)
  have hx := h x (List.mem_cons_self ..)
  rw [List.filter_cons, List.filter_cons, List.filter_cons]
  cases hp : p x with
  | true => rw [hx hp]; simp only [Bool.or_false, if_true, List.length_cons]; simp; omega
  | false =>
   cases hq : q x with
   | true => simp; omega
   | false => simpa using ih
/-- how many rows have their parent among the first k rows' parents -/
def seenN (l : List Rw) (k : Nat) : Nat := (l.filter fun r => decide (pa r ∈ (l.take k).map pa)).length
def hisN (l : List Rw) (p : Int) : Nat := (l.filter fun r => decide (pa r = p)).length
theorem seenN_zero (l : List Rw) : seenN l 0 = 0 := by simp [seenN]
theorem seenN_all (l : List Rw) : seenN l l.length = l.length := by
 unfold seenN
 rw [List.take_length, List.filter_eq_self.2]
 intro r hr
 exact decide_eq_true (List.mem_map.2 ⟨r, hr, rfl⟩)
theorem seenN_old {l : List Rw} {k : Nat} {r : Rw} (hr : l[k]? = some r) (h : pa r ∈ (l.take k).map pa) : seenN l (k + 1) = seenN l k := by
 unfold seenN
 congr 1
 refine List.filter_congr fun x _ => ?_
 rw [List.take_add_one, hr, List.map_append]
 simp only [Option.toList_some, List.map_cons, List.map_nil, List.mem_append, List.mem_singleton]
 rw [decide_eq_decide]
 constructor
 ·rintro (h1 | h1)
  ·exact h1
  ·rw [h1]; exact h
 ·exact .inl
theorem seenN_new {l : List Rw} {k : Nat} {r : Rw} (hr : l[k]? = some r) (h : pa r ∉ (l.take k).map pa) : seenN l (k + 1) = seenN l k + hisN l (pa r) := by
 unfold seenN hisN
 rw [← filter_or]
 ·congr 1
  refine List.filter_congr fun x _ => ?_
  rw [List.take_add_one, hr, List.map_append]
  simp only [Option.toList_some, List.map_cons, List.map_nil, List.mem_append, List.mem_singleton]
  rw [Bool.decide_or]
 ·intro x _ hx
  have hx := of_decide_eq_true hx
  exact decide_eq_false fun e => h (e ▸ hx)
theorem kids_len (p : Int) : ∀ (l o : List Rw), (l.foldl (kidG p) o).length = o.length + hisN l p
 | [], o => rfl
 | r :: t, o => by
  rw [List.foldl_cons, kids_len p t]
  unfold kidG hisN
  rw [List.filter_cons]
  by_cases h : pa r = p
  ·simp only [h, if_true, decide_true, List.length_cons, insK_len]; omega
  ·simp only [h, if_false, decide_false, Bool.false_eq_true]
theorem kidsR_len (l : List Rw) (p : Int) : (kidsR l p).length = hisN l p := by
 unfold kidsR; rw [kids_len]; simp
end Go.Proofs.YtkobmnbjeppnaaaGreat
end
section
namespace Go.Proofs.YtkobmnbjeppnaaaGreat
open Fl
set_option maxRecDepth 100000
theorem lsP_iff (a b : Rw) : lsP a b = true ↔ ky (rk a) < ky (rk b) ∨ ky (rk a) = ky (rk b) ∧ ch a < ch b := by
 unfold lsP
 rw [decide_eq_true_eq]
 rcases cm_cases (ky (rk a)) (ky (rk b)) with ⟨h, h2⟩ | ⟨h, h2⟩ | ⟨h, h2⟩
 ·rw [h]; simp [fr, h2]
 ·rw [h, fr_zero]
  have := ci_neg (ch a) (ch b)
  rw [decide_eq_decide] at this
  rw [this]
  constructor
  ·intro h3; exact .inr ⟨h2, h3⟩
  ·rintro (h3 | h3)
   ·omega
   ·exact h3.2
 ·rw [h]
  simp only [fr]
  constructor
  ·intro h3; simp at h3
  ·rintro (h3 | h3) <;> omega
theorem lsP_trans {a b c : Rw} (h : lsP a b = true) (h2 : lsP b c = true) : lsP a c = true := by
 rw [lsP_iff] at *
 omega
theorem lsP_or {a b : Rw} (h : ch a ≠ ch b) (h2 : lsP a b = false) : lsP b a = true := by
 rw [lsP_iff]
 have h3 : ¬ (ky (rk a) < ky (rk b) ∨ ky (rk a) = ky (rk b) ∧ ch a < ch b) := fun e => by rw [(lsP_iff a b).2 e] at h2; cases h2
 omega
theorem kAt_hi (o : List Rw) (x : Rw) : ∀ n j y, kAt o x n ≤ j → j < n → o[j]? = some y → lsP x y = true
 | 0, _, _, _, h, _ => by omega
 | n + 1, j, y, h1, h2, h3 => by
  unfold kAt at h1
  split at h1
  ·rename_i z hz
   split at h1
   ·rename_i hl
    by_cases hj : j = n
    ·subst hj; rw [hz] at h3; rw [← Option.some.inj h3]; exact hl
    ·exact kAt_hi o x n j y h1 (by omega) h3
   ·omega
  ·omega
theorem kAt_lo (o : List Rw) (x : Rw) : ∀ n m y, kAt o x n = m + 1 → o[m]? = some y → lsP x y = false
 | 0, _, _, h, _ => by unfold kAt at h; omega
 | n + 1, m, y, h, h2 => by
  unfold kAt at h
  split at h
  ·rename_i z hz
   split at h
   ·exact kAt_lo o x n m y h h2
   ·rename_i hl
    obtain rfl : n = m := by omega
    rw [hz] at h2
    rw [← Option.some.inj h2]
    simpa using hl
  ·rename_i hz
   obtain rfl : n = m := by omega
   rw [hz] at h2
   cases h2
theorem insK_sorted {o : List Rw} {x : Rw} (ho : o.Pairwise fun a b => lsP a b = true) (hx : ∀ y ∈ o, ch y ≠ ch x) : (insK o x).Pairwise fun a b => lsP a b = true := by
 unfold insK
 obtain ⟨k, hk⟩ : ∃ k, kAt o x o.length = k := ⟨_, rfl⟩
 rw [hk]
 have ho' := ho
 rw [← List.take_append_drop k o] at ho'
 obtain ⟨h1, h2, h3⟩ := List.pairwise_append.1 ho'
 have hhi : ∀ b ∈ o.drop k, lsP x b = true := fun b hb => by
  obtain ⟨j, hj⟩ := List.mem_iff_getElem?.1 hb
  rw [List.getElem?_drop] at hj
  exact kAt_hi o x o.length (k + j) b (by omega) (List.getElem?_eq_some_iff.1 hj).1 hj
 have hlo : ∀ a ∈ o.take k, lsP a x = true := fun a ha => by
  cases k with
  | zero => simp at ha
  | succ m =>
   have hkl := kAt_le o x o.length
   have hm : m < o.length := by omega
   have hy := List.getElem?_eq_getElem hm
   have h4 := kAt_lo o x o.length m o[m] hk hy
   have h5 := lsP_or (fun e => hx o[m] (List.getElem_mem hm) e.symm) h4
   obtain ⟨j, hj⟩ := List.mem_iff_getElem?.1 ha
   have hjm : j < m + 1 := by
    have := (List.getElem?_eq_some_iff.1 hj).1
    simp at this
    omega
   rw [List.getElem?_take_of_lt hjm] at hj
   by_cases hje : j = m
   ·subst hje; rw [hy] at hj; rw [← Option.some.inj hj]; exact h5
   ·obtain ⟨hjl, he⟩ := List.getElem?_eq_some_iff.1 hj
    have := List.pairwise_iff_getElem.1 ho j m hjl hm (by omega)
    rw [he] at this
    exact lsP_trans this h5
 refine List.pairwise_append.2 ⟨h1, List.pairwise_cons.2 ⟨hhi, h2⟩, fun a ha b hb => ?_⟩
 rcases List.mem_cons.1 hb with rfl | hb
 ·exact hlo a ha
 ·exact h3 a ha b hb
theorem kids_sorted (p : Int) : ∀ (l o : List Rw), (o ++ l).Pairwise (fun a b => ch a ≠ ch b) → o.Pairwise (fun a b => lsP a b = true) → (l.foldl (kidG p) o).Pairwise fun a b => lsP a b = true
 | [], o, _, ho => ho
 | r :: t, o, hd, ho => by
  rw [List.foldl_cons]
  obtain ⟨h1, h2, h3⟩ := List.pairwise_append.1 hd
  obtain ⟨h4, h5⟩ := List.pairwise_cons.1 h2
  unfold kidG
  split
  ·refine kids_sorted p t _ (List.pairwise_append.2 ⟨?_, h5, fun a ha b hb => ?_⟩) (insK_sorted ho fun y hy => h3 y hy r (List.mem_cons_self ..))
   ·unfold insK
    rw [← List.take_append_drop (kAt o r o.length) o] at h1
    obtain ⟨g1, g2, g3⟩ := List.pairwise_append.1 h1
    refine List.pairwise_append.2 ⟨g1, List.pairwise_cons.2 ⟨fun b hb => (h3 b (List.mem_of_mem_drop hb) r (List.mem_cons_self ..)).symm, g2⟩, fun a ha b hb => ?_⟩
    rcases List.mem_cons.1 hb with rfl | hb
    ·exact h3 a (List.mem_of_mem_take ha) b (List.mem_cons_self ..)
    ·exact g3 a ha b hb
   ·rcases insK_mem ha with rfl | ha
    ·exact h4 b hb
    ·exact h3 a ha b (List.mem_cons_of_mem _ hb)
  ·exact kids_sorted p t o (List.pairwise_append.2 ⟨h1, h5, fun a ha b hb => h3 a ha b (List.mem_cons_of_mem _ hb)⟩) ho
theorem kidsR_sorted {l : List Rw} (h : AscR l) (p : Int) : (kidsR l p).Pairwise fun a b => lsP a b = true :=
 kids_sorted p l [] (by rw [List.nil_append]; exact h.imp fun h e => by omega) List.Pairwise.nil
end Go.Proofs.YtkobmnbjeppnaaaGreat
end
