/-
 Owned rows of moves that stay; what FloorOrder and FloorMarks ask.
-/
import Derived.Test.YthhckdjagnlgpaaGreatWu
import Derived.Deep.LoopGhost
import Derived.Deep.DeepCutAuto
import Derived.Deep.RegionWith
import Derived.Deep.RegionHeld3
namespace Go.Proofs.YthhckdjagnlgpaaGreat
open Go.RowKit Go.IntWalk
open Gr
set_option maxRecDepth 100000
theorem own_below {w w' : World} {B : Nat} {e : TypeId} {size n : Nat} {v : Value} {xs : List Value} (h : w.ownsRow B e size v n xs) (hb : Below w.heap.size w w') : w'.ownsRow B e size v n xs :=
 h.kept (row := none) ⟨hb.os, hb.tape, hb.output, hb.size, fun k hk _ => hb.block k hk⟩ (by cases hv : v.ownBlock <;> simp)
theorem own_offF {w w' : World} {B G : Nat} {e : TypeId} {size n : Nat} {v : Value} {xs : List Value} (h : w.ownsRow B e size v n xs) (hG : G < B) (hb : Below G w w') (hk : ∀ k, k ≠ G → w'.heap[k]? = w.heap[k]?) : w'.ownsRow B e size v n xs :=
 h.kept (row := some G) ⟨hb.os, hb.tape, hb.output, hb.size, fun k _ hne => hk k (fun e => hne (by rw [e]))⟩ (by
  cases hv : v.ownBlock with
  | none => exact .inl rfl
  | some g => exact .inr (by have := (h.lt g hv).1; simp; omega))
/-- what FloorOrder asks, of moves of which no two of one time are unlike -/
theorem order_factsF {r a b : Rp} {l k : List Mv} {x y : Int} (h : MayR r) (hl : r.L.length + 2 * l.length ≤ 2000) (hk : k.length = l.length) (h1 : ∀ x, x ∈ l ↔ x ∈ k) (hal : ∀ x ∈ l, ∀ y ∈ l, timeEq x y = true → alikeM x y = true) (e1 : mergeF r l = (a, x)) (e2 : mergeF r k = (b, y)) :
  (x = 0 ∧ y = 0 ∧ sameF a b = true ∧ mergeF a k = (a, 0)) ∨ (¬ x = 0 ∧ ¬ y = 0 ∧ a = r ∧ b = r) := by
 have := merge_order h hl hk h1 hal
 rw [e1, e2] at this
 rcases this with ⟨g1, g2, g3, _, g5, g6⟩ | ⟨g1, g2, g3, g4⟩
 ·exact .inl ⟨g1, g2, g3, Prod.ext g6 g5⟩
 ·exact .inr ⟨g1, g2, g3, g4⟩
theorem fAdd_w {p : Pl} {r r2 : Rp} {m : Mv} {b : Bool} {x : Int} (h : addF r m = (r2, b, x)) (ok : RpOk r) (pl : RpPl p r) (hm : MvOk m) {w : World} (ha : RpAt p r w) :
  Calls Tryz.prog 44 #[.agg #[.slice p.A1 r.B.length p.c1, .int .i64 r.fc, .int .i64 r.fr, .slice p.A2 r.L.length p.c2, .slice p.A3 r.V.length p.c3], .agg #[.int .i64 (mc m), .int .i64 (mr m), .int .i64 (pa (mw m)), .int .i64 (ch (mw m)), .string (ba (nm (mw m))), .float .f64 (rk (mw m))]] w fun e w' => ∃ p2 : Pl, e = .returned (.tuple #[.agg #[.slice p2.A1 r2.B.length p2.c1, .int .i64 r2.fc, .int .i64 r2.fr, .slice p2.A2 r2.L.length p2.c2, .slice p2.A3 r2.V.length p2.c3], .bool b, .int .i64 x]) ∧ RpAt p2 r2 w' ∧ RpPl p2 r2 ∧ (p2.A1 = p.A1 ∧ r2.B = r.B) ∧ ((p2.A3 = p.A3 ∧ r2.V = r.V) ∨ Fresh w.heap.size p2.A3) ∧ Below w.heap.size w w' ∧ ((p2.A2 = p.A2 ∧ r2.L = r.L) ∨ Fresh w.heap.size p2.A2) :=
 (fAdd_c ok pl m hm.1 hm.2 ha).mono fun e w' hh => by
  obtain ⟨p2, he, h1, h2, h3, h4, h5⟩ := hh
  rw [h] at he h1 h2 h3 h4 h5
  exact ⟨p2, he, h1, h2, h3, h4, h5⟩
theorem at_grown {w w' : World} {A : Option Addr} {xs : List Value} {row : Option Nat} (h : At w w.heap.size A xs) (hg : w.grownBy w' row) (hne : xs = [] ∨ ∀ a, A = some a → row ≠ some a.block) : At w' w'.heap.size A xs := by
 rcases hne with rfl | hne
 ·exact At.nil _ _ _
 ·intro i v hv
  obtain ⟨b, off, hA, hlt, hc⟩ := h i v hv
  exact ⟨b, off, hA, Nat.lt_of_lt_of_le hlt hg.size, (cell_same (hg.block b hlt (fun e => hne _ hA e.symm)) _).trans hc⟩
theorem is_grownF {w w' : World} {G : Nat} {t : TypeId} {vs : List Value} {row : Option Nat} (h : Is w G t vs) (hg : w.grownBy w' row) (hne : row ≠ some G) : Is w' G t vs := (hg.block G (is_lt h) (fun e => hne e.symm)).trans h
theorem below_grownF {B : Nat} {w w1 w2 : World} {row : Option Nat} (hb : Below B w w1) (hB : B ≤ w1.heap.size) (hg : w1.grownBy w2 row) (hr : ∀ k, row = some k → B ≤ k) : Below B w w2 :=
 hb.trans ⟨hg.os, hg.tape, hg.output, hg.size, fun k hk => hg.block k (Nat.lt_of_lt_of_le hk hB) (fun e => by have := hr k e.symm; omega)⟩
theorem at_notnew {w : World} {A : Option Addr} {xs : List Value} (h : At w w.heap.size A xs) : xs = [] ∨ ∀ ad, A = some ad → some w.heap.size ≠ some ad.block := by
 cases xs with
 | nil => exact .inl rfl
 | cons x t =>
  right
  intro a ha e
  obtain ⟨b, off, hA, hlt, _⟩ := h 0 x rfl
  rw [ha] at hA
  cases hA
  injection e with e
  simp only at e
  omega
/-- append of one move: in the row's own block, or in a new one -/
theorem append_dichM (w : World) {ops : Array Oper} {rest : List Oper} {o : Oper} {a : Act} {Q : Exit → Act → World → Prop}
  (hg : o.guard = none) (s x : Operand) (hop : o.op = Op.call { callee := Callee.builtin Builtin.append, args := #[s, x], argTypes := #[52, 52] })
  (base : Nat) (v : Value) (k : Nat) (us : List Mv) (hs : a.eval s = v) (hown : w.ownsRow base 57 6 v k (mvs us)) (ad : Addr) (c : Nat) (m : Mv) (hx : a.eval x = .slice (some ad) 1 c)
  (hc : ∀ j u, (mvs [m])[j]? = some u → w.cell? (ad.add j) = some u) (hlen : k + 1 ≤ 200000) (b3 : base ≤ w.heap.size)
  (hK : ∀ v' w', w'.ownsRow base 57 6 v' (k + 1) (mvs (us ++ [m])) → w.grownBy w' v.ownBlock → (v'.ownBlock = v.ownBlock ∨ v'.ownBlock = some w.heap.size) → wpList Tryz.prog ops Q rest (a.put o.dst v') w') :
  wpList Tryz.prog ops Q (o :: rest) a w := by
 obtain ⟨i0, hi, hz0, hz1, hz2⟩ := info_parts Tryz.info57
 refine wpList_plain hg fun K hKK => ?_
 obtain ⟨v', w', hr, h2, h3, h4⟩ := run_append_own (P := Tryz.prog) w base 52 o.type 57 i0 _ 6 56 Tryz.underlying52 hi hz0 hz1 hz2 rfl (by decide) v k (mvs us) hown ad 1 c (mvs [m]) (mvs_len _) hc (mvs_one _) (by unfold maxLen; omega) (by omega) b3
 have hd : v'.ownBlock = v.ownBlock ∨ v'.ownBlock = some w.heap.size := by
  have hl : (mvs [m]).length = 1 * i0.size := by rw [hz1]; exact mvs_len _
  rcases hown.2 with ⟨rfl, rfl⟩ | ⟨g, cap, cur, rfl, hbg, hgc, hnc, hcm, hcs, htake⟩
  ·have h := run_append_nil (P := Tryz.prog) w 52 o.type 57 i0 _ Tryz.underlying52 hi hz0 ad 1 c (mvs [m]) hl hc (by omega) (by omega) (by rw [hz2]; omega)
   rw [hr] at h
   right
   have := (Result.ok.inj h).1
   rw [this]; rfl
  ·by_cases hroom : k + 1 ≤ cap
   ·have h := run_append_room (P := Tryz.prog) w 52 o.type 57 i0 Tryz.underlying52 hi g k cap cur hgc ad 1 c (mvs [m]) hl hc (mvs_one _) hroom (by rw [hz1, mvs_len, hcs]; show k * 6 + 1 * 6 ≤ cap * 6; omega)
    rw [hr] at h
    left
    have := (Result.ok.inj h).1
    rw [this]; rfl
   ·have holds : ∀ j u, (mvs us)[j]? = some u → w.cell? ((⟨g, 0, none⟩ : Addr).add j) = some u := hown.cells (g := g) rfl
    have h := run_append_grow (P := Tryz.prog) w 52 o.type 57 i0 _ Tryz.underlying52 hi hz0 ⟨g, 0, none⟩ k cap (mvs us) (by rw [hz1]; exact hown.1) holds ad 1 c (mvs [m]) hl hc (by omega) (by omega) (growslice_fits (by omega) (by rw [hz2]; omega))
    rw [hr] at h
    right
    have := (Result.ok.inj h).1
    rw [this]; rfl
 unfold Oper.wp execOp
 simp only [hop, resolve, invoke, builtin, Sem.run_bind, Sem.run_pure, Result.andThen_ok, List.map_toArray, List.map_cons, List.map_nil, hs, hx, hr]
 exact hKK _ _ (hK v' w' (by rw [mvs_append]; exact h2) h3 hd)
end Go.Proofs.YthhckdjagnlgpaaGreat
