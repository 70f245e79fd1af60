/-
  The walk of FloorKeeps.
-/
import Derived.Test.YthhckdjagnlgpaaGreatWu
import Derived.Deep.LoopGhost
import Derived.Deep.DeepCutAuto
import Derived.Deep.RegionWith
import Derived.Deep.RegionHeld3
section
namespace Go.Proofs.YthhckdjagnlgpaaGreat
open Go.RowKit Go.IntWalk
open Gr
set_option maxRecDepth 100000
theorem own_below {w w' : World} {B : Nat} {e : TypeId} {size n : Nat} {v : Value} {xs : List Value} (h : w.ownsRow B e size v n xs) (hb : Below w.heap.size w w') : w'.ownsRow B e size v n xs :=
 h.kept (row := none) ⟨hb.os, hb.tape, hb.output, hb.size, fun k hk _ => hb.block k hk⟩ (by cases hv : v.ownBlock <;> simp)
theorem own_offF {w w' : World} {B G : Nat} {e : TypeId} {size n : Nat} {v : Value} {xs : List Value} (h : w.ownsRow B e size v n xs) (hG : G < B) (hb : Below G w w') (hk : ∀ k, k ≠ G → w'.heap[k]? = w.heap[k]?) : w'.ownsRow B e size v n xs :=
 h.kept (row := some G) ⟨hb.os, hb.tape, hb.output, hb.size, fun k _ hne => hk k (fun e => hne (by rw [e]))⟩ (by
  cases hv : v.ownBlock with
  | none => exact .inl rfl
  | some g => exact .inr (by have := (h.lt g hv).1; simp; omega))
/-- what FloorOrder asks, of moves of which no two of one time are unlike -/
theorem order_factsF {r a b : Rp} {l k : List Mv} {x y : Int} (h : MayR r) (hl : r.L.length + 2 * l.length ≤ 2000) (hk : k.length = l.length) (h1 : ∀ x, x ∈ l ↔ x ∈ k) (hal : ∀ x ∈ l, ∀ y ∈ l, timeEq x y = true → alikeM x y = true) (e1 : mergeF r l = (a, x)) (e2 : mergeF r k = (b, y)) :
  (x = 0 ∧ y = 0 ∧ sameF a b = true ∧ mergeF a k = (a, 0)) ∨ (¬ x = 0 ∧ ¬ y = 0 ∧ a = r ∧ b = r) := by
 have := merge_order h hl hk h1 hal
 rw [e1, e2] at this
 rcases this with ⟨g1, g2, g3, _, g5, g6⟩ | ⟨g1, g2, g3, g4⟩
 ·exact .inl ⟨g1, g2, g3, Prod.ext g6 g5⟩
 ·exact .inr ⟨g1, g2, g3, g4⟩
theorem fAdd_w {p : Pl} {r r2 : Rp} {m : Mv} {b : Bool} {x : Int} (h : addF r m = (r2, b, x)) (ok : RpOk r) (pl : RpPl p r) (hm : MvOk m) {w : World} (ha : RpAt p r w) :
  Calls Tryz.prog 44 #[.agg #[.slice p.A1 r.B.length p.c1, .int .i64 r.fc, .int .i64 r.fr, .slice p.A2 r.L.length p.c2, .slice p.A3 r.V.length p.c3], .agg #[.int .i64 (mc m), .int .i64 (mr m), .int .i64 (pa (mw m)), .int .i64 (ch (mw m)), .string (ba (nm (mw m))), .float .f64 (rk (mw m))]] w fun e w' => ∃ p2 : Pl, e = .returned (.tuple #[.agg #[.slice p2.A1 r2.B.length p2.c1, .int .i64 r2.fc, .int .i64 r2.fr, .slice p2.A2 r2.L.length p2.c2, .slice p2.A3 r2.V.length p2.c3], .bool b, .int .i64 x]) ∧ RpAt p2 r2 w' ∧ RpPl p2 r2 ∧ (p2.A1 = p.A1 ∧ r2.B = r.B) ∧ ((p2.A3 = p.A3 ∧ r2.V = r.V) ∨ Fresh w.heap.size p2.A3) ∧ Below w.heap.size w w' ∧ ((p2.A2 = p.A2 ∧ r2.L = r.L) ∨ Fresh w.heap.size p2.A2) :=
 (fAdd_c ok pl m hm.1 hm.2 ha).mono fun e w' hh => by
  obtain ⟨p2, he, h1, h2, h3, h4, h5⟩ := hh
  rw [h] at he h1 h2 h3 h4 h5
  exact ⟨p2, he, h1, h2, h3, h4, h5⟩
theorem at_grown {w w' : World} {A : Option Addr} {xs : List Value} {row : Option Nat} (h : At w w.heap.size A xs) (hg : w.grownBy w' row) (hne : xs = [] ∨ ∀ a, A = some a → row ≠ some a.block) : At w' w'.heap.size A xs := by
 rcases hne with rfl | hne
 ·exact At.nil _ _ _
 ·intro i v hv
  obtain ⟨b, off, hA, hlt, hc⟩ := h i v hv
  exact ⟨b, off, hA, Nat.lt_of_lt_of_le hlt hg.size, (cell_same (hg.block b hlt (fun e => hne _ hA e.symm)) _).trans hc⟩
theorem is_grownF {w w' : World} {G : Nat} {t : TypeId} {vs : List Value} {row : Option Nat} (h : Is w G t vs) (hg : w.grownBy w' row) (hne : row ≠ some G) : Is w' G t vs := (hg.block G (is_lt h) (fun e => hne e.symm)).trans h
theorem below_grownF {B : Nat} {w w1 w2 : World} {row : Option Nat} (hb : Below B w w1) (hB : B ≤ w1.heap.size) (hg : w1.grownBy w2 row) (hr : ∀ k, row = some k → B ≤ k) : Below B w w2 :=
 hb.trans ⟨hg.os, hg.tape, hg.output, hg.size, fun k hk => hg.block k (Nat.lt_of_lt_of_le hk hB) (fun e => by have := hr k e.symm; omega)⟩
theorem at_notnew {w : World} {A : Option Addr} {xs : List Value} (h : At w w.heap.size A xs) : xs = [] ∨ ∀ ad, A = some ad → some w.heap.size ≠ some ad.block := by
 cases xs with
 | nil => exact .inl rfl
 | cons x t =>
  right
  intro a ha e
  obtain ⟨b, off, hA, hlt, _⟩ := h 0 x rfl
  rw [ha] at hA
  cases hA
  injection e with e
  simp only at e
  omega
/-- append of one move: in the row's own block, or in a new one -/
theorem append_dichM (w : World) {ops : Array Oper} {rest : List Oper} {o : Oper} {a : Act} {Q : Exit → Act → World → Prop}
  (hg : o.guard = none) (s x : Operand) (hop : o.op = Op.call { callee := Callee.builtin Builtin.append, args := #[s, x], argTypes := #[52, 52] })
  (base : Nat) (v : Value) (k : Nat) (us : List Mv) (hs : a.eval s = v) (hown : w.ownsRow base 57 6 v k (mvs us)) (ad : Addr) (c : Nat) (m : Mv) (hx : a.eval x = .slice (some ad) 1 c)
  (hc : ∀ j u, (mvs [m])[j]? = some u → w.cell? (ad.add j) = some u) (hlen : k + 1 ≤ 200000) (b3 : base ≤ w.heap.size)
  (hK : ∀ v' w', w'.ownsRow base 57 6 v' (k + 1) (mvs (us ++ [m])) → w.grownBy w' v.ownBlock → (v'.ownBlock = v.ownBlock ∨ v'.ownBlock = some w.heap.size) → wpList Tryz.prog ops Q rest (a.put o.dst v') w') :
  wpList Tryz.prog ops Q (o :: rest) a w := by
 obtain ⟨i0, hi, hz0, hz1, hz2⟩ := info_parts Tryz.info57
 refine wpList_plain hg fun K hKK => ?_
 obtain ⟨v', w', hr, h2, h3, h4⟩ := run_append_own (P := Tryz.prog) w base 52 o.type 57 i0 _ 6 56 Tryz.underlying52 hi hz0 hz1 hz2 rfl (by decide) v k (mvs us) hown ad 1 c (mvs [m]) (mvs_len _) hc (mvs_one _) (by unfold maxLen; omega) (by omega) b3
 have hd : v'.ownBlock = v.ownBlock ∨ v'.ownBlock = some w.heap.size := by
  have hl : (mvs [m]).length = 1 * i0.size := by rw [hz1]; exact mvs_len _
  rcases hown.2 with ⟨rfl, rfl⟩ | ⟨g, cap, cur, rfl, hbg, hgc, hnc, hcm, hcs, htake⟩
  ·have h := run_append_nil (P := Tryz.prog) w 52 o.type 57 i0 _ Tryz.underlying52 hi hz0 ad 1 c (mvs [m]) hl hc (by omega) (by omega) (by rw [hz2]; omega)
   rw [hr] at h
   right
   have := (Result.ok.inj h).1
   rw [this]; rfl
  ·by_cases hroom : k + 1 ≤ cap
   ·have h := run_append_room (P := Tryz.prog) w 52 o.type 57 i0 Tryz.underlying52 hi g k cap cur hgc ad 1 c (mvs [m]) hl hc (mvs_one _) hroom (by rw [hz1, mvs_len, hcs]; show k * 6 + 1 * 6 ≤ cap * 6; omega)
    rw [hr] at h
    left
    have := (Result.ok.inj h).1
    rw [this]; rfl
   ·have holds : ∀ j u, (mvs us)[j]? = some u → w.cell? ((⟨g, 0, none⟩ : Addr).add j) = some u := hown.cells (g := g) rfl
    have h := run_append_grow (P := Tryz.prog) w 52 o.type 57 i0 _ Tryz.underlying52 hi hz0 ⟨g, 0, none⟩ k cap (mvs us) (by rw [hz1]; exact hown.1) holds ad 1 c (mvs [m]) hl hc (by omega) (by omega) (growslice_fits (by omega) (by rw [hz2]; omega))
    rw [hr] at h
    right
    have := (Result.ok.inj h).1
    rw [this]; rfl
 unfold Oper.wp execOp
 simp only [hop, resolve, invoke, builtin, Sem.run_bind, Sem.run_pure, Result.andThen_ok, List.map_toArray, List.map_cons, List.map_nil, hs, hx, hr]
 exact hKK _ _ (hK v' w' (by rw [mvs_append]; exact h2) h3 hd)
end Go.Proofs.YthhckdjagnlgpaaGreat
end
section
namespace Go.Proofs.YthhckdjagnlgpaaGreat
open Go.RowKit Go.IntWalk
open Gr
set_option maxRecDepth 100000
attribute [local go_sem] Oper.semAt_some
theorem hold10F {p0 p1 p2 p3 p4 p5 p6 p7 p8 p9 : Addr} {v0 v1 v2 v3 v4 v5 v6 v7 v8 v9 : Value} {wb W W' : World} (h : W.cell? p0 = some v0 ∧ W.cell? p1 = some v1 ∧ W.cell? p2 = some v2 ∧ W.cell? p3 = some v3 ∧ W.cell? p4 = some v4 ∧ W.cell? p5 = some v5 ∧ W.cell? p6 = some v6 ∧ W.cell? p7 = some v7 ∧ W.cell? p8 = some v8 ∧ W.cell? p9 = some v9 ∧ Below wb.heap.size wb W) (hb : Below W.heap.size W W') : W'.cell? p0 = some v0 ∧ W'.cell? p1 = some v1 ∧ W'.cell? p2 = some v2 ∧ W'.cell? p3 = some v3 ∧ W'.cell? p4 = some v4 ∧ W'.cell? p5 = some v5 ∧ W'.cell? p6 = some v6 ∧ W'.cell? p7 = some v7 ∧ W'.cell? p8 = some v8 ∧ W'.cell? p9 = some v9 ∧ Below wb.heap.size wb W' := by
 obtain ⟨h0, h1, h2, h3, h4, h5, h6, h7, h8, h9, hB⟩ := h
 exact ⟨keep_cell hb h0, keep_cell hb h1, keep_cell hb h2, keep_cell hb h3, keep_cell hb h4, keep_cell hb h5, keep_cell hb h6, keep_cell hb h7, keep_cell hb h8, keep_cell hb h9, hB.trans (hb.mono hB.size)⟩
theorem hold10Fb {p0 p1 p2 p3 p4 p5 p6 p7 p8 p9 : Addr} {v0 v1 v2 v3 v4 v5 v6 v7 v8 v9 : Value} {wb W : World} (h : W.cell? p0 = some v0 ∧ W.cell? p1 = some v1 ∧ W.cell? p2 = some v2 ∧ W.cell? p3 = some v3 ∧ W.cell? p4 = some v4 ∧ W.cell? p5 = some v5 ∧ W.cell? p6 = some v6 ∧ W.cell? p7 = some v7 ∧ W.cell? p8 = some v8 ∧ W.cell? p9 = some v9 ∧ Below wb.heap.size wb W) : Below wb.heap.size wb W := by
 obtain ⟨h0, h1, h2, h3, h4, h5, h6, h7, h8, h9, hB⟩ := h
 exact hB
theorem hold10Fs {p0 p1 p2 p3 p4 p5 p6 p7 p8 p9 : Addr} {v0 v1 v2 v3 v4 v5 v6 v7 v8 v9 : Value} {wb : World} (h0 : wb.cell? p0 = some v0) (h1 : wb.cell? p1 = some v1) (h2 : wb.cell? p2 = some v2) (h3 : wb.cell? p3 = some v3) (h4 : wb.cell? p4 = some v4) (h5 : wb.cell? p5 = some v5) (h6 : wb.cell? p6 = some v6) (h7 : wb.cell? p7 = some v7) (h8 : wb.cell? p8 = some v8) (h9 : wb.cell? p9 = some v9) : wb.drew.cell? p0 = some v0 ∧ wb.drew.cell? p1 = some v1 ∧ wb.drew.cell? p2 = some v2 ∧ wb.drew.cell? p3 = some v3 ∧ wb.drew.cell? p4 = some v4 ∧ wb.drew.cell? p5 = some v5 ∧ wb.drew.cell? p6 = some v6 ∧ wb.drew.cell? p7 = some v7 ∧ wb.drew.cell? p8 = some v8 ∧ wb.drew.cell? p9 = some v9 ∧ Below wb.heap.size wb wb.drew := ⟨h0, h1, h2, h3, h4, h5, h6, h7, h8, h9, (Below.refl _ _).drew⟩
/-- FloorKeeps under way: a is the replica, b the same one settled; k moves came -/
structure KpSt (wm : World) (p : Pl) (r : Rp) (ps : Pl) (s : Rp) (k : Nat) (pq : Pl) (a : Rp) (pb : Pl) (b : Rp) (W : World) : Prop where
 ia : Is W wm.heap.size 55 [.slice pq.A1 a.B.length pq.c1, .int .i64 a.fc, .int .i64 a.fr, .slice pq.A2 a.L.length pq.c2, .slice pq.A3 a.V.length pq.c3]
 ib : Is W (wm.heap.size + 1) 55 [.slice pb.A1 b.B.length pb.c1, .int .i64 b.fc, .int .i64 b.fr, .slice pb.A2 b.L.length pb.c2, .slice pb.A3 b.V.length pb.c3]
 ea : pq.A1 = p.A1 ∧ a.B = r.B
 eb : pb.A1 = ps.A1 ∧ b.B = s.B
 al : At W W.heap.size pq.A2 (mvs a.L)
 av : At W W.heap.size pq.A3 (kvs a.V)
 bl : At W W.heap.size pb.A2 (mvs b.L)
 bv : At W W.heap.size pb.A3 (kvs b.V)
 pla : RpPl pq a
 plb : RpPl pb b
 sa : Sz a (120 + k)
 sb : Sz b (120 + k)
 aK : kvs a.V = [] ∨ ∀ ad, pq.A3 = some ad → ad.block ≠ wm.heap.size ∧ ad.block ≠ wm.heap.size + 1
 bK : kvs b.V = [] ∨ ∀ ad, pb.A3 = some ad → ad.block ≠ wm.heap.size ∧ ad.block ≠ wm.heap.size + 1
 kept : Kept s.fc s.fr a b
 bel : Below wm.heap.size wm W
theorem KpSt.keep {wm W W' : World} {p ps pq pb : Pl} {r s a b : Rp} {k : Nat} (h : KpSt wm p r ps s k pq a pb b W) (hb : Below W.heap.size W W') : KpSt wm p r ps s k pq a pb b W' :=
 ⟨is_below h.ia hb (is_lt h.ia), is_below h.ib hb (is_lt h.ib), h.ea, h.eb, h.al.keep hb, h.av.keep hb, h.bl.keep hb, h.bv.keep hb, h.pla, h.plb, h.sa, h.sb, h.aK, h.bK, h.kept, h.bel.trans (hb.mono h.bel.size)⟩
theorem KpSt.more {wm W : World} {p ps pq pb : Pl} {r s a b : Rp} {k : Nat} (h : KpSt wm p r ps s k pq a pb b W) : KpSt wm p r ps s (k + 1) pq a pb b W :=
 ⟨h.ia, h.ib, h.ea, h.eb, h.al, h.av, h.bl, h.bv, h.pla, h.plb, h.sa.more (by omega), h.sb.more (by omega), h.aK, h.bK, h.kept, h.bel⟩
theorem KpSt.atA {wm W : World} {p ps pq pb : Pl} {r s a b : Rp} {k : Nat} (h : KpSt wm p r ps s k pq a pb b W) (hr : RpAt p r wm) : RpAt pq a W := ⟨by rw [h.ea.1, h.ea.2]; exact hr.b.keep h.bel, h.al, h.av⟩
theorem KpSt.atB {wm W : World} {p ps pq pb : Pl} {r s a b : Rp} {k : Nat} (h : KpSt wm p r ps s k pq a pb b W) (hs : RpAt ps s wm) : RpAt pb b W := ⟨by rw [h.eb.1, h.eb.2]; exact hs.b.keep h.bel, h.bl, h.bv⟩
theorem offs2 {w wr : World} {pq p2 : Pl} {a a2 : Rp} (h : kvs a.V = [] ∨ ∀ ad, pq.A3 = some ad → ad.block ≠ w.heap.size ∧ ad.block ≠ w.heap.size + 1) (hv : (p2.A3 = pq.A3 ∧ a2.V = a.V) ∨ ∀ ad, p2.A3 = some ad → wr.heap.size ≤ ad.block) (hs : w.heap.size + 1 < wr.heap.size) : kvs a2.V = [] ∨ ∀ ad, p2.A3 = some ad → ad.block ≠ w.heap.size ∧ ad.block ≠ w.heap.size + 1 := by
 rcases hv with ⟨e1, e2⟩ | h2
 ·rw [e1, e2]; exact h
 ·exact .inr fun ad had => by have := h2 ad had; omega
theorem offL {xs : List Value} {A : Option Addr} {x y : Nat} (h : xs = [] ∨ ∀ ad, A = some ad → ad.block ≠ x ∧ ad.block ≠ y) : xs = [] ∨ ∀ ad, A = some ad → ad.block ≠ x := h.imp id fun h ad had => (h ad had).1
theorem offR {xs : List Value} {A : Option Addr} {x y : Nat} (h : xs = [] ∨ ∀ ad, A = some ad → ad.block ≠ x ∧ ad.block ≠ y) : xs = [] ∨ ∀ ad, A = some ad → ad.block ≠ y := h.imp id fun h ad had => (h ad had).2
/-- both replicas behind their stores -/
theorem kp_store {wm W : World} {p ps pq pb p2 p3 : Pl} {r s a b a2 b2 : Rp} {k : Nat} (h : KpSt wm p r ps s k pq a pb b W) (ha : RpAt p2 a2 W) (hb : RpAt p3 b2 W) (pa2 : RpPl p2 a2) (pb2 : RpPl p3 b2) (ea : p2.A1 = pq.A1 ∧ a2.B = a.B) (eb : p3.A1 = pb.A1 ∧ b2.B = b.B)
  (aK : kvs a2.V = [] ∨ ∀ ad, p2.A3 = some ad → ad.block ≠ wm.heap.size ∧ ad.block ≠ wm.heap.size + 1) (bK : kvs b2.V = [] ∨ ∀ ad, p3.A3 = some ad → ad.block ≠ wm.heap.size ∧ ad.block ≠ wm.heap.size + 1) (sa : Sz a2 (120 + (k + 1))) (sb : Sz b2 (120 + (k + 1))) (hk : Kept s.fc s.fr a2 b2) :
  KpSt wm p r ps s (k + 1) p2 a2 p3 b2 (set5 (set5 W wm.heap.size (.slice p2.A1 a2.B.length p2.c1) (.int .i64 a2.fc) (.int .i64 a2.fr) (.slice p2.A2 a2.L.length p2.c2) (.slice p2.A3 a2.V.length p2.c3)) (wm.heap.size + 1) (.slice p3.A1 b2.B.length p3.c1) (.int .i64 b2.fc) (.int .i64 b2.fr) (.slice p3.A2 b2.L.length p3.c2) (.slice p3.A3 b2.V.length p3.c3)) := by
 have h1 : ∀ j, j ≠ wm.heap.size → (set5 W wm.heap.size (.slice p2.A1 a2.B.length p2.c1) (.int .i64 a2.fc) (.int .i64 a2.fr) (.slice p2.A2 a2.L.length p2.c2) (.slice p2.A3 a2.V.length p2.c3)).heap[j]? = W.heap[j]? := fun j hj => set5_off j hj
 have s1 : (set5 W wm.heap.size (.slice p2.A1 a2.B.length p2.c1) (.int .i64 a2.fc) (.int .i64 a2.fr) (.slice p2.A2 a2.L.length p2.c2) (.slice p2.A3 a2.V.length p2.c3)).heap.size = W.heap.size := set5_size
 have i1 : Is (set5 W wm.heap.size (.slice p2.A1 a2.B.length p2.c1) (.int .i64 a2.fc) (.int .i64 a2.fr) (.slice p2.A2 a2.L.length p2.c2) (.slice p2.A3 a2.V.length p2.c3)) wm.heap.size 55 [.slice p2.A1 a2.B.length p2.c1, .int .i64 a2.fc, .int .i64 a2.fr, .slice p2.A2 a2.L.length p2.c2, .slice p2.A3 a2.V.length p2.c3] := set5_is h.ia
 have be1 : Below wm.heap.size wm (set5 W wm.heap.size (.slice p2.A1 a2.B.length p2.c1) (.int .i64 a2.fc) (.int .i64 a2.fr) (.slice p2.A2 a2.L.length p2.c2) (.slice p2.A3 a2.V.length p2.c3)) := set5_below h.bel (Nat.le_refl _)
 generalize set5 W wm.heap.size (.slice p2.A1 a2.B.length p2.c1) (.int .i64 a2.fc) (.int .i64 a2.fr) (.slice p2.A2 a2.L.length p2.c2) (.slice p2.A3 a2.V.length p2.c3) = W1 at h1 s1 i1 be1 ⊢
 have ib1 : Is W1 (wm.heap.size + 1) 55 [.slice pb.A1 b.B.length pb.c1, .int .i64 b.fc, .int .i64 b.fr, .slice pb.A2 b.L.length pb.c2, .slice pb.A3 b.V.length pb.c3] := (h1 _ (by omega)).trans h.ib
 have l1 := at_offG ha.l (moves_off h.ia rfl ha.l) h1 s1
 have v1 := at_offG ha.v (offL aK) h1 s1
 have m1 := at_offG hb.l (moves_off h.ia rfl hb.l) h1 s1
 have n1 := at_offG hb.v (offL bK) h1 s1
 have h2 : ∀ j, j ≠ wm.heap.size + 1 → (set5 W1 (wm.heap.size + 1) (.slice p3.A1 b2.B.length p3.c1) (.int .i64 b2.fc) (.int .i64 b2.fr) (.slice p3.A2 b2.L.length p3.c2) (.slice p3.A3 b2.V.length p3.c3)).heap[j]? = W1.heap[j]? := fun j hj => set5_off j hj
 have s2 : (set5 W1 (wm.heap.size + 1) (.slice p3.A1 b2.B.length p3.c1) (.int .i64 b2.fc) (.int .i64 b2.fr) (.slice p3.A2 b2.L.length p3.c2) (.slice p3.A3 b2.V.length p3.c3)).heap.size = W1.heap.size := set5_size
 have i2 : Is (set5 W1 (wm.heap.size + 1) (.slice p3.A1 b2.B.length p3.c1) (.int .i64 b2.fc) (.int .i64 b2.fr) (.slice p3.A2 b2.L.length p3.c2) (.slice p3.A3 b2.V.length p3.c3)) (wm.heap.size + 1) 55 [.slice p3.A1 b2.B.length p3.c1, .int .i64 b2.fc, .int .i64 b2.fr, .slice p3.A2 b2.L.length p3.c2, .slice p3.A3 b2.V.length p3.c3] := set5_is ib1
 have be2 : Below wm.heap.size wm (set5 W1 (wm.heap.size + 1) (.slice p3.A1 b2.B.length p3.c1) (.int .i64 b2.fc) (.int .i64 b2.fr) (.slice p3.A2 b2.L.length p3.c2) (.slice p3.A3 b2.V.length p3.c3)) := set5_below be1 (Nat.le_succ _)
 generalize set5 W1 (wm.heap.size + 1) (.slice p3.A1 b2.B.length p3.c1) (.int .i64 b2.fc) (.int .i64 b2.fr) (.slice p3.A2 b2.L.length p3.c2) (.slice p3.A3 b2.V.length p3.c3) = W2 at h2 s2 i2 be2 ⊢
 exact ⟨(h2 _ (by omega)).trans i1, i2, ⟨ea.1.trans h.ea.1, ea.2.trans h.ea.2⟩, ⟨eb.1.trans h.eb.1, eb.2.trans h.eb.2⟩, at_offG l1 (moves_off ib1 rfl l1) h2 s2, at_offG v1 (offR aK) h2 s2, at_offG m1 (moves_off ib1 rfl m1) h2 s2, at_offG n1 (offR bK) h2 s2, pa2, pb2, sa, sb, aK, bK, hk, be2⟩
theorem offs_start {w : World} {A : Option Addr} {l : List Mk} (h : At w w.heap.size A (kvs l)) : kvs l = [] ∨ ∀ ad, A = some ad → ad.block ≠ w.heap.size ∧ ad.block ≠ w.heap.size + 1 := by
 cases hl : kvs l with
 | nil => exact .inl rfl
 | cons x t =>
  right
  intro a ha
  obtain ⟨b, off, hA, hlt, _⟩ := h 0 x (by rw [hl]; rfl)
  rw [ha] at hA
  cases hA
  simp only
  omega
theorem kept_stepF {c q : Int} {a b a2 b2 : Rp} {m : Mv} {u v : Bool} {x y : Int} (h : Kept c q a b) (hm : befM c q m = true) (hl : a.L.length < 2000) (e1 : addF a m = (a2, u, x)) (e2 : addF b m = (b2, v, y)) : v = u ∧ y = x ∧ Kept c q a2 b2 := by
 rw [addF_may h.ma] at e1
 rw [addF_may h.mb] at e2
 have := kept_step h m hm hl
 rw [e1, e2] at this
 obtain ⟨h1, h2⟩ := this
 cases h1
 exact ⟨rfl, rfl, h2⟩
theorem kept_stale {c q : Int} {a b b2 : Rp} {m : Mv} {v : Bool} {y : Int} (h : Kept c q a b) (hm : befM c q m = false) (e2 : addF b m = (b2, v, y)) : oneM m = true → y = 9 := fun hone => by
 rw [addF_may h.mb] at e2
 have hb : befM b.fc b.fr m = false := by rw [h.f1, h.f2]; exact hm
 rcases add_cases b m with ⟨e, _⟩ | ⟨_, _, e⟩ | ⟨_, e, _⟩ | ⟨_, e, _⟩
 ·rw [hone] at e; cases e
 ·rw [e] at e2; cases e2; rfl
 ·rw [hb] at e; cases e
 ·rw [hb] at e; cases e
theorem same17_s {A1 A2 : Option Addr} {c1 c2 : Nat} {xs ys : List Mk} (e : xs = ys) (hx : xs.length ≤ 100000) {w : World} (h1 : At w w.heap.size A1 (kvs xs)) (h2 : At w w.heap.size A2 (kvs ys)) :
  Calls Tryz.prog 61 #[.slice A1 xs.length c1, .slice A2 ys.length c2] w fun e w' => e = .returned (.bool true) ∧ Below w.heap.size w w' := by
 subst e; exact same17_k (decide_eq_true rfl) hx hx h1 h2
namespace floorKeeps
set_option maxHeartbeats 16000000 in
theorem walk (p : Pl) (r : Rp) (pl : RpPl p r) (hlen : r.B.length ≤ maxLen ∧ r.L.length ≤ maxLen ∧ r.V.length ≤ maxLen) (rb : Rows_ r.B) (rl : Moves_ r.L) (c q : Int) (A2 : Option Addr) (c2 : Nat) (l : List Mv) (hl : l.length ≤ maxLen) (lm : Moves_ l) (w : World) (ha : RpAt p r w) (hc : At w w.heap.size A2 (mvs l)) :
  Calls Tryz.prog 13 #[.agg #[.slice p.A1 r.B.length p.c1, .int .i64 r.fc, .int .i64 r.fr, .slice p.A2 r.L.length p.c2, .slice p.A3 r.V.length p.c3], .agg #[.int .i64 c, .int .i64 q], .slice A2 l.length c2] w fun e w' => e = .returned (.bool true) ∧ Below w.heap.size w w' := by
 have S0 := Lib.hid (((Bed.start w).addP (p := p) (r := r) ha).addM (A := A2) (l := l) hc)
 obtain ⟨b0, hw⟩ : ∃ b0, b0 = w.alloc (.cells #[.slice p.A1 r.B.length p.c1, .int .i64 r.fc, .int .i64 r.fr, .slice p.A2 r.L.length p.c2, .slice p.A3 r.V.length p.c3] 55) := ⟨_, rfl⟩
 have hb : Below w.heap.size w b0 := by rw [hw]; exact (Below.refl _ _).alloc (Nat.le_refl _) _
 have hz0 : w.heap.size = w.heap.size := by rfl
 have S1 := Lib.hid ((S0.out.step hb).addB (g := w.heap.size) (t := 55) (vs := [.slice p.A1 r.B.length p.c1, .int .i64 r.fc, .int .i64 r.fr, .slice p.A2 r.L.length p.c2, .slice p.A3 r.V.length p.c3]) (by rw [hw, ← hz0]; exact is_new w 55 _))
 have HWb0 := Lib.hid hw
 clear hw hb
 obtain ⟨b1, hw⟩ : ∃ b1, b1 = b0.alloc (.cells #[.int .i64 c, .int .i64 q] 51) := ⟨_, rfl⟩
 have hb : Below b0.heap.size b0 b1 := by rw [hw]; exact (Below.refl _ _).alloc (Nat.le_refl _) _
 have hz1 : b0.heap.size = w.heap.size + 1 := by rw [HWb0.out, World.size_alloc, hz0]
 have S2 := Lib.hid ((S1.out.step hb).addB (g := w.heap.size + 1) (t := 51) (vs := [.int .i64 c, .int .i64 q]) (by rw [hw, ← hz1]; exact is_new b0 51 _))
 have HWb1 := Lib.hid hw
 clear hw hb
 clear hz0 hz1
 have PLr := Lib.hid pl
 have HLEN := Lib.hid hlen
 have HRB := Lib.hid rb
 have HRL := Lib.hid rl
 have HLM := Lib.hid lm
 have HL := Lib.hid hl
 clear pl hlen rb rl lm ha hc
 obtain ⟨f, hf⟩ : ∃ b, fewF r = b := ⟨_, rfl⟩
 have Hf := Lib.hid hf
 clear hf
 have hx := (S2.out.box (.tail _ (.head _)))
 rw [HWb1.out, HWb0.out] at hx
 obtain ⟨⟨q0, q1, q2, q3, q4⟩, -⟩ := cells5 hx
 clear hx
 obtain ⟨g, hg⟩ : ∃ b, fewM l 20 = b := ⟨_, rfl⟩
 have Hg := Lib.hid hg
 clear hg
 go_enter Tryz.func13, Tryz.ntmps13
 go_wp2_with fail
 rw [← HWb0.out, ← HWb1.out]
 refine (rffew_v Hf.out HLEN.out (S2.out.rep (.tail _ (.tail _ (.tail _ (.head _)))))).mono ?_
 rintro e w3 ⟨rfl, hb⟩
 have S3 := Lib.hid (S2.out.step hb)
 clear q0 q1 q2 q3 q4
 clear hb
 cases f with
 | false =>
  go_wp2_with fail
  refine (live18_c _).mono ?_
  rintro e w4 ⟨rfl, hb⟩
  have S4 := Lib.hid (S3.out.step hb)
  clear hb
  go_wp2_with fail
  go_ret
  exact ⟨rfl, S4.out.bel⟩
 | true =>
 have hx := (S3.out.box (.tail _ (.head _)))
 obtain ⟨⟨y1_0, y1_1, y1_2, y1_3, y1_4⟩, -⟩ := cells5 hx
 clear hx
 go_wp2_with fail
 refine (fewM_v (n := 20) Hg.out HL.out (by decide) (S3.out.moves (.tail _ (.tail _ (.head _))))).mono ?_
 rintro e w4 ⟨rfl, hw⟩
 have hb : Below w3.heap.size w3 w4 := hw ▸ Below.refl _ _
 clear hw
 have S4 := Lib.hid (S3.out.step hb)
 clear hb
 clear y1_0 y1_1 y1_2 y1_3 y1_4
 cases g with
 | false =>
  go_wp2_with fail
  refine (live18_c _).mono ?_
  rintro e w5 ⟨rfl, hb⟩
  have S5 := Lib.hid (S4.out.step hb)
  clear hb
  go_wp2_with fail
  go_ret
  exact ⟨rfl, S5.out.bel⟩
 | true =>
 have hl20 := (fewM_in Hg.out).1
 have HSZ := Lib.hid (sz_few Hf.out HRB.out HRL.out)
 obtain ⟨h, hh⟩ : ∃ b, mayF r = b := ⟨_, rfl⟩
 have Hh := Lib.hid hh
 clear hh
 have hx := (S4.out.box (.tail _ (.head _)))
 obtain ⟨⟨y2_0, y2_1, y2_2, y2_3, y2_4⟩, -⟩ := cells5 hx
 clear hx
 go_wp2_with fail
 refine (rfmay_v Hh.out (HSZ.out.ok (by omega)) (S4.out.rep (.tail _ (.tail _ (.tail _ (.head _)))))).mono ?_
 rintro e w5 ⟨rfl, hb⟩
 have S5 := Lib.hid (S4.out.step hb)
 clear y2_0 y2_1 y2_2 y2_3 y2_4
 clear hb
 cases h with
 | false =>
  go_wp2_with fail
  refine (live18_c _).mono ?_
  rintro e w6 ⟨rfl, hb⟩
  have S6 := Lib.hid (S5.out.step hb)
  clear hb
  go_wp2_with fail
  go_ret
  exact ⟨rfl, S6.out.bel⟩
 | true =>
 have HMR := Lib.hid (mayR_iff.1 Hh.out)
 have hall := HSZ.out.all (by omega)
 obtain ⟨o, ho⟩ : ∃ o, pruneF r c q = o := ⟨_, rfl⟩
 obtain ⟨s, y⟩ := o
 have HP := Lib.hid ho
 have HSS := Lib.hid (show Sz s 120 by have := sz_prune HSZ.out c q; rw [ho] at this; exact this)
 have HKS := Lib.hid (show Kept s.fc s.fr r s by have := kept_start HMR.out c q hall; rw [ho] at this; exact this)
 have HER := Lib.hid (show ¬ y = 0 → s = r by have := prune_err HMR.out (c := c) (q := q); rw [ho] at this; exact this)
 have HSV := Lib.hid (show s.V = r.V from HKS.out.v)
 obtain ⟨X, hX⟩ : ∃ X, treeF r = X := ⟨_, rfl⟩
 have HTR := Lib.hid hX
 have HTS := Lib.hid (show treeF s = X by rw [← hX]; exact HKS.out.tree)
 have HXR := Lib.hid (show Rows_ X by rw [← hX]; exact (sz_tree HSZ.out).2)
 have HXL := Lib.hid (show X.length ≤ maxLen by rw [← hX]; have := (sz_tree HSZ.out).1; unfold maxLen; omega)
 have hsv := HSS.out.v
 have hrv := HSZ.out.v
 clear ho hX
 have hx := (S5.out.box (.tail _ (.head _)))
 obtain ⟨⟨y3_0, y3_1, y3_2, y3_3, y3_4⟩, -⟩ := cells5 hx
 clear hx
 have hx := (S5.out.box (.head _))
 obtain ⟨y4_0, y4_1⟩ := box2 hx
 clear hx
 go_wp2_with fail
 refine (fPrune_v (r2 := s) HP.out (HSZ.out.ok (by omega)) PLr.out (S5.out.rep (.tail _ (.tail _ (.tail _ (.head _)))))).mono ?_
 rintro e w6 ⟨p2, rfl, hg, hb⟩
 have S6 := Lib.hid ((S5.out.step hb).addP (p := p2) (r := s) hg.at_)
 have PLs := Lib.hid hg.pl
 clear y3_0 y3_1 y3_2 y3_3 y3_4 y4_0 y4_1
 clear hb hg
 obtain ⟨w7, hw⟩ : ∃ w7, w7 = w6.alloc (.cells #[.slice p2.A1 s.B.length p2.c1, .int .i64 s.fc, .int .i64 s.fr, .slice p2.A2 s.L.length p2.c2, .slice p2.A3 s.V.length p2.c3] 55) := ⟨_, rfl⟩
 have hb : Below w6.heap.size w6 w7 := by rw [hw]; exact (Below.refl _ _).alloc (Nat.le_refl _) _
 have S7 := Lib.hid ((S6.out.step hb).addB (g := w6.heap.size) (t := 55) (vs := [.slice p2.A1 s.B.length p2.c1, .int .i64 s.fc, .int .i64 s.fr, .slice p2.A2 s.L.length p2.c2, .slice p2.A3 s.V.length p2.c3]) (by rw [hw]; exact is_new w6 55 _))
 have HW7 := Lib.hid hw
 clear hw hb
 go_upto_region 4 with fail
 rw [← HW7.out]
 have HI1 := Lib.hid (S7.out.box (.head _))
 have HI2 := Lib.hid (S7.out.box (.tail _ (.tail _ (.tail _ (.head _)))))
 have HA1 := Lib.hid (S7.out.rep (.tail _ (.head _)))
 have HA2 := Lib.hid (S7.out.rep (.tail _ (.tail _ (.tail _ (.tail _ (.tail _ (.head _)))))))
 obtain ⟨⟨g0, g1, g2, g3, g4⟩, -⟩ := cells5 HI1.out
 obtain ⟨⟨g5, g6, g7, g8, g9⟩, -⟩ := cells5 HI2.out
 go_region_held3 (fun w' => w'.cell? ⟨w6.heap.size, 0, none⟩ = some (.slice p2.A1 s.B.length p2.c1) ∧ w'.cell? ⟨w6.heap.size, 1, none⟩ = some (.int .i64 s.fc) ∧ w'.cell? ⟨w6.heap.size, 2, none⟩ = some (.int .i64 s.fr) ∧ w'.cell? ⟨w6.heap.size, 3, none⟩ = some (.slice p2.A2 s.L.length p2.c2) ∧ w'.cell? ⟨w6.heap.size, 4, none⟩ = some (.slice p2.A3 s.V.length p2.c3) ∧ w'.cell? ⟨w.heap.size, 0, none⟩ = some (.slice p.A1 r.B.length p.c1) ∧ w'.cell? ⟨w.heap.size, 1, none⟩ = some (.int .i64 r.fc) ∧ w'.cell? ⟨w.heap.size, 2, none⟩ = some (.int .i64 r.fr) ∧ w'.cell? ⟨w.heap.size, 3, none⟩ = some (.slice p.A2 r.L.length p.c2) ∧ w'.cell? ⟨w.heap.size, 4, none⟩ = some (.slice p.A3 r.V.length p.c3) ∧ Below w7.heap.size w7 w')
  (first
   | (exact hold10F (by assumption) hbn)
   | (exact hold10Fd (by assumption))
   | (exact hold10Fs g0 g1 g2 g3 g4 g5 g6 g7 g8 g9)
   | go_keep)
  (first
   | (go_at_call 50; refine (ftree_v (X := X) (by first | exact HTS.out | exact HTR.out) (by first | exact (HSS.out.ok (by omega)) | exact (HSZ.out.ok (by omega))) (by first | exact PLs.out | exact PLr.out) (by first | exact HA1.out.keep (hold10Fb (by assumption)) | exact HA2.out.keep (hold10Fb (by assumption)))).mono ?_; first | (have hT0 := hT1; rintro e wa ⟨E2, f2, rfl, hT2, hbn⟩; have hT1b := At.keep hT0 hbn) | (rintro e wa ⟨E1, f1, rfl, hT1, hbn⟩))
   | (go_at_call 26; refine (rsame_t HXL.out HXR.out (by first | exact hT1b | exact hT2) (by first | exact hT2 | exact hT1b)).mono ?_; rintro e wa ⟨rfl, hbn⟩)
   | (go_at_call 61; refine (same17_s HSV.out (by omega) (HA1.out.keep (hold10Fb (by assumption))).v (HA2.out.keep (hold10Fb (by assumption))).v).mono ?_; rintro e wa ⟨rfl, hbn⟩))
 have hbz : Below w7.heap.size w7 wa := hold10Fb (by assumption)
 have HBZ := Lib.hid hbz
 clear hbz g0 g1 g2 g3 g4 g5 g6 g7 g8 g9
 have hb := HBZ.out
 have S8 := Lib.hid (S7.out.step hb)
 clear hb
 by_cases hy : y = 0
 case neg =>
  have hy1 : (y == 0) = false := by simpa using hy
  have hy2 : (y != 0) = true := by simpa using hy
  have hy3 : decide (y = 0) = false := decide_eq_false hy
  have HSR := Lib.hid (HER.out hy)
  have hx := (S8.out.box (.head _))
  obtain ⟨⟨y5_0, y5_1, y5_2, y5_3, y5_4⟩, -⟩ := cells5 hx
  clear hx
  have hx := (S8.out.box (.tail _ (.tail _ (.tail _ (.head _)))))
  obtain ⟨⟨y6_0, y6_1, y6_2, y6_3, y6_4⟩, -⟩ := cells5 hx
  clear hx
  go_wp2_with fail
  refine (rfsame_v (r1 := s) (r2 := r) (b := true) (by rw [HSR.out]; exact sameF_refl _) (HSS.out.ok (by omega)) (HSZ.out.ok (by omega)) (S8.out.rep (.tail _ (.head _))) (S8.out.rep (.tail _ (.tail _ (.tail _ (.tail _ (.tail _ (.head _)))))))).mono ?_
  rintro e w9 ⟨rfl, hb⟩
  have S9 := Lib.hid (S8.out.step hb)
  clear y5_0 y5_1 y5_2 y5_3 y5_4 y6_0 y6_1 y6_2 y6_3 y6_4
  clear hb
  go_wp2_with fail
  refine (live18_c _).mono ?_
  rintro e w10 ⟨rfl, hb⟩
  have S10 := Lib.hid (S9.out.step hb)
  clear hb
  go_wp2_with fail
  go_ret
  exact ⟨rfl, S10.out.bel⟩
 subst hy
 have hx := (S8.out.box (.tail _ (.tail _ (.tail _ (.head _)))))
 obtain ⟨⟨y7_0, y7_1, y7_2, y7_3, y7_4⟩, -⟩ := cells5 hx
 clear hx
 have hx := (S8.out.box (.head _))
 obtain ⟨⟨y8_0, y8_1, y8_2, y8_3, y8_4⟩, -⟩ := cells5 hx
 clear hx
 obtain ⟨wk, hwk⟩ : ∃ wk, wk = (wa.alloc (.cells #[.slice p.A1 r.B.length p.c1, .int .i64 r.fc, .int .i64 r.fr, .slice p.A2 r.L.length p.c2, .slice p.A3 r.V.length p.c3] 55)).alloc (.cells #[.slice p2.A1 s.B.length p2.c1, .int .i64 s.fc, .int .i64 s.fr, .slice p2.A2 s.L.length p2.c2, .slice p2.A3 s.V.length p2.c3] 55) := ⟨_, rfl⟩
 have hbk : Below wa.heap.size wa wk := by rw [hwk]; exact ((Below.refl wa.heap.size wa).alloc (Nat.le_refl _) _).alloc (by simp) _
 have HAr := Lib.hid (S8.out.rep (.tail _ (.tail _ (.tail _ (.tail _ (.tail _ (.head _)))))))
 have HAs := Lib.hid (S8.out.rep (.tail _ (.head _)))
 have HST := Lib.hid (show KpSt wa p r p2 s 0 p r p2 s wk from ⟨by rw [hwk]; exact is_below (is_new wa 55 _) ((Below.refl _ _).alloc (Nat.le_refl _) _) (by simp), by rw [hwk]; exact is_newA wa 55 _ _, ⟨rfl, rfl⟩, ⟨rfl, rfl⟩, (HAr.out.keep hbk).l, (HAr.out.keep hbk).v, (HAs.out.keep hbk).l, (HAs.out.keep hbk).v, PLr.out, PLs.out, HSZ.out.more (by omega), HSS.out.more (by omega), offs_start HAr.out.v, offs_start HAs.out.v, HKS.out, hbk⟩)
 have HWK := Lib.hid hwk
 clear hwk hbk
 obtain ⟨⟨n0, n1, n2, n3, n4⟩, -⟩ := cells5 (is_below (S8.out.box (.head _)) ((Below.refl wa.heap.size wa).alloc (Nat.le_refl _) (.cells #[.slice p.A1 r.B.length p.c1, .int .i64 r.fc, .int .i64 r.fr, .slice p.A2 r.L.length p.c2, .slice p.A3 r.V.length p.c3] 55)) (is_lt (S8.out.box (.head _))))
 go_wp2_with fail
 clear n0 n1 n2 n3 n4
 rw [← HWK.out]
 clear y7_0 y7_1 y7_2 y7_3 y7_4 y8_0 y8_1 y8_2 y8_3 y8_4
 go_loopg [11] l.length (fun g i wr => ∃ (k : Nat) (pq : Pl) (a : Rp) (pb : Pl) (b : Rp), i = .int .i64 (k : Int) ∧ k + g = l.length ∧ KpSt wa p r p2 s k pq a pb b wr)
 case atStart => exact ⟨0, p, r, p2, s, rfl, by omega, HST.out⟩
 case round =>
  clear HST HWK
  obtain ⟨k, pq, a, pb, b, rfl, hk, hst⟩ := hrel
  have HR := Lib.hid hst
  have hszl := hst.sa.ll
  have hszv := hst.sa.v
  have SR := Lib.hid (S8.out.step hst.bel)
  have hwsz := is_lt hst.ib
  clear hst
  by_cases hlt : k < l.length
  ·obtain ⟨m, hm⟩ := some_at hlt
   have HML := Lib.hid (SR.out.moves (.tail _ (.tail _ (.tail _ (.tail _ (.head _))))))
   obtain ⟨b0, o0, e0, hb0, x0, x1, x2, x3, x4, x5⟩ := move_cells HML.out hm
   subst e0
   have hk0 : (0 : Int) ≤ (k : Int) := by omega
   have hkl : (k : Int) < (l.length : Int) := by omega
   have HX := Lib.hid hm
   have HMM := Lib.hid (show MvOk m from HLM.out m (mem_at hm))
   have HBS := Lib.hid (SR.out.box (.head _))
   obtain ⟨v, hv⟩ : ∃ v, befT s.fc s.fr (mc m) (mr m) = v := ⟨_, rfl⟩
   have HV := Lib.hid hv
   obtain ⟨⟨q0, q1, q2, q3, q4⟩, -⟩ := cells5 HBS.out
   clear hv hm
   go_wp2_with fail
   refine quiet_held (fun w' => Below wr.heap.size wr w') (by kernel_rfl) (by kernel_rfl) (Below.refl _ _).drew ?_
   repeat (first
    | go_big_quiet_skip
    | (go_big_quiet_want; go_big_quiet_op; go_big_quiet_on)
    | (go_big_quiet_want; apply Exists.intro; refine ⟨fun wq hq => ?_, ?_⟩; (focus (have r0 := keep_cell hq q0; have r1 := keep_cell hq q1; have r2 := keep_cell hq q2; have k0 := keep_cell hq x0; have k1 := keep_cell hq x1; unfold Oper.quietAt; go_simp; all_goals (first | rfl | exact ⟨rfl, rfl⟩ | (with_reducible refine (rbef_k HV.out _).mono ?_; rintro e w5 ⟨rfl, hbn⟩; exact ⟨rfl, hq.trans (hbn.mono hq.size)⟩)))); simp only [Act.put, List.setIfInBounds_toArray, List.set_cons_zero, List.set_cons_succ]; go_big_quiet_on))
   refine wpQuiet_nil ?_
   intro wt hbt
   have HRT := Lib.hid (HR.out.keep hbt)
   have HMT := Lib.hid (HML.out.keep hbt)
   have hwt := is_lt HRT.out.ib
   clear q0 q1 q2 q3 q4 x0 x1 x2 x3 x4 x5 HBS HML hbt
   obtain ⟨b1, o1, e1, hb1, x0, x1, x2, x3, x4, x5⟩ := move_cells HMT.out HX.out
   cases e1
   have HAB := Lib.hid (HRT.out.atB HAs.out)
   have HAA := Lib.hid (HRT.out.atA HAr.out)
   have HSB := Lib.hid (HRT.out.sb)
   cases v with
   | false =>
    obtain ⟨o, ho⟩ : ∃ o, addF b m = o := ⟨_, rfl⟩
    obtain ⟨b2, d, z⟩ := o
    have HO := Lib.hid ho
    have HZ9 := Lib.hid (kept_stale HRT.out.kept HV.out ho)
    obtain ⟨⟨q0, q1, q2, q3, q4⟩, -⟩ := cells5 HRT.out.ib
    clear ho
    go_upto_region 14 with fail
    go_cut [12, 13, 14] (fun u0 u1 u2 wx => ∃ (J : Nat) (p2 : Pl), u0 = .pointer (some ⟨J, 0, none⟩) ∧ u1 = .bool d ∧ u2 = .int .i64 z ∧ Put5 wt pb b p2 b2 J wx ∧ wt.heap.size ≤ J)
    case first =>
     go_region_with (go_at_call 44; refine (fAdd_w HO.out (HSB.out.ok (by omega)) HRT.out.plb HMM.out (HAB.out.keep (by first | exact (Below.refl _ _).drew | exact ((Below.refl _ _).alloc (Nat.le_refl _) _).drew))).mono ?_; rintro e w5 ⟨p3, rfl, ha5, pl5, h15, h35, hb5, h25⟩; have H25 := Lib.hid h25; clear h25; have H15 := Lib.hid h15; clear h15; first | (have hz5 : Is w5 wt.heap.size 55 [.slice none 0 0, .int .i64 0, .int .i64 0, .slice none 0 0, .slice none 0 0] := is_below (w := (wt.alloc (.cells #[.slice none 0 0, .int .i64 0, .int .i64 0, .slice none 0 0, .slice none 0 0] 55)).drew) (is_new wt 55 [.slice none 0 0, .int .i64 0, .int .i64 0, .slice none 0 0, .slice none 0 0]) hb5 (Nat.lt_of_lt_of_eq (Nat.lt_succ_self _) (World.size_alloc _ _).symm); obtain ⟨⟨z0, z1, z2, z3, z4⟩, f0, f1, f2, f3, f4⟩ := cells5 hz5) | skip)
     all_goals (go_wp2_with fail; go_meet; first | exact ⟨_, p3, rfl, rfl, rfl, put5_late (Below.refl _ _).drew ha5 pl5 H15.out h35 hb5 H25.out, hb5.size⟩ | exact ⟨_, p3, rfl, rfl, rfl, put5_early (wq := (wt.alloc (.cells #[.slice none 0 0, .int .i64 0, .int .i64 0, .slice none 0 0, .slice none 0 0] 55)).drew) HAB.out ha5 pl5 H15.out (Nat.le_of_eq (World.size_alloc _ _).symm) h35 (((Below.refl _ _).alloc (Nat.le_refl _) _).drew) (is_new wt 55 [.slice none 0 0, .int .i64 0, .int .i64 0, .slice none 0 0, .slice none 0 0]) hb5 H25.out, Nat.le_refl _⟩)
    case rest =>
     obtain ⟨J, p3, rfl, rfl, rfl, hld, -⟩ := hcut
     have HRU := Lib.hid (HRT.out.keep hld.bel)
     have HMU := Lib.hid (HMT.out.keep hld.bel)
     clear hld q0 q1 q2 q3 q4 x0 x1 x2 x3 x4 x5
     obtain ⟨b1, o1, e1, hb1, x0, x1, x2, x3, x4, x5⟩ := move_cells HMU.out HX.out
     cases e1
     obtain ⟨u, hu⟩ : ∃ u, oneM m = u := ⟨_, rfl⟩
     have HU := Lib.hid hu
     clear hu
     go_wp2_with fail
     refine (rmone_k HU.out HMM.out.2 _).mono ?_
     rintro e wy ⟨rfl, hby⟩
     have HRY := Lib.hid (HRU.out.keep hby).more
     clear x0 x1 x2 x3 x4 x5 hby
     cases u with
     | true =>
      have hz := HZ9.out HU.out
      subst hz
      go_wp2_with fail
      go_roundg (gk - 1)
      case rel => exact ⟨k + 1, pq, a, pb, b, by go_num, by omega, HRY.out⟩
      case measure => omega
     | false =>
      go_wp2_with fail
      go_roundg (gk - 1)
      case rel => exact ⟨k + 1, pq, a, pb, b, by go_num, by omega, HRY.out⟩
      case measure => omega
   | true =>
    obtain ⟨o, ho⟩ : ∃ o, addF a m = o := ⟨_, rfl⟩
    obtain ⟨a2, u, x⟩ := o
    obtain ⟨o, ho2⟩ : ∃ o, addF b m = o := ⟨_, rfl⟩
    obtain ⟨b2, d, z⟩ := o
    obtain ⟨rfl, rfl, hkp⟩ := kept_stepF HRT.out.kept HV.out (by omega) ho ho2
    have HKP := Lib.hid hkp
    have HO := Lib.hid ho
    have HO2 := Lib.hid ho2
    have HS1 := Lib.hid (show Sz a2 (120 + (k + 1)) by have := sz_add HRT.out.sa HMM.out; rw [ho] at this; exact this.more (by omega))
    have HS2 := Lib.hid (show Sz b2 (120 + (k + 1)) by have := sz_add HRT.out.sb HMM.out; rw [ho2] at this; exact this.more (by omega))
    have HSA := Lib.hid (HRT.out.sa)
    obtain ⟨⟨q0, q1, q2, q3, q4⟩, -⟩ := cells5 HRT.out.ia
    have hKl := is_lt HRT.out.ia
    clear ho ho2 hkp
    go_upto_region 17 with fail
    go_cut [15, 16, 17] (fun u0 u1 u2 wx => ∃ (J : Nat) (p2 : Pl), u0 = .pointer (some ⟨J, 0, none⟩) ∧ u1 = .bool d ∧ u2 = .int .i64 z ∧ Put5 wt pq a p2 a2 J wx ∧ wt.heap.size ≤ J)
    case first =>
     go_region_with (go_at_call 44; refine (fAdd_w HO.out (HSA.out.ok (by omega)) HRT.out.pla HMM.out (HAA.out.keep (by first | exact (Below.refl _ _).drew | exact ((Below.refl _ _).alloc (Nat.le_refl _) _).drew))).mono ?_; rintro e w5 ⟨p3, rfl, ha5, pl5, h15, h35, hb5, h25⟩; have H25 := Lib.hid h25; clear h25; have H15 := Lib.hid h15; clear h15; first | (have hz5 : Is w5 wt.heap.size 55 [.slice none 0 0, .int .i64 0, .int .i64 0, .slice none 0 0, .slice none 0 0] := is_below (w := (wt.alloc (.cells #[.slice none 0 0, .int .i64 0, .int .i64 0, .slice none 0 0, .slice none 0 0] 55)).drew) (is_new wt 55 [.slice none 0 0, .int .i64 0, .int .i64 0, .slice none 0 0, .slice none 0 0]) hb5 (Nat.lt_of_lt_of_eq (Nat.lt_succ_self _) (World.size_alloc _ _).symm); obtain ⟨⟨z0, z1, z2, z3, z4⟩, f0, f1, f2, f3, f4⟩ := cells5 hz5) | skip)
     all_goals (go_wp2_with fail; go_meet; first | exact ⟨_, p3, rfl, rfl, rfl, put5_late (Below.refl _ _).drew ha5 pl5 H15.out h35 hb5 H25.out, hb5.size⟩ | exact ⟨_, p3, rfl, rfl, rfl, put5_early (wq := (wt.alloc (.cells #[.slice none 0 0, .int .i64 0, .int .i64 0, .slice none 0 0, .slice none 0 0] 55)).drew) HAA.out ha5 pl5 H15.out (Nat.le_of_eq (World.size_alloc _ _).symm) h35 (((Below.refl _ _).alloc (Nat.le_refl _) _).drew) (is_new wt 55 [.slice none 0 0, .int .i64 0, .int .i64 0, .slice none 0 0, .slice none 0 0]) hb5 H25.out, Nat.le_refl _⟩)
    case rest =>
     obtain ⟨J, p3, rfl, rfl, rfl, hld, hJ⟩ := hcut
     have HLD := Lib.hid hld
     have HRU := Lib.hid (HRT.out.keep hld.bel)
     have HMU := Lib.hid (HMT.out.keep hld.bel)
     have HBU := Lib.hid (HAB.out.keep hld.bel)
     have HSU := Lib.hid (show wt.heap.size ≤ wc.heap.size from hld.bel.size)
     rename World => wu
     clear hld q0 q1 q2 q3 q4 x0 x1 x2 x3 x4 x5 hJ
     obtain ⟨b1, o1, e1, hb1, x0, x1, x2, x3, x4, x5⟩ := move_cells HMU.out HX.out
     cases e1
     obtain ⟨⟨q0, q1, q2, q3, q4⟩, -⟩ := cells5 HRU.out.ib
     have hKl2 := is_lt HRU.out.ib
     go_upto_region 18 with fail
     go_cut [18, 19, 20] (fun u0 u1 u2 wx => ∃ (J : Nat) (p2 : Pl), u0 = .pointer (some ⟨J, 0, none⟩) ∧ u1 = .bool d ∧ u2 = .int .i64 z ∧ Put5 wu pb b p2 b2 J wx ∧ wu.heap.size ≤ J)
     case first =>
      go_region_with (go_at_call 44; refine (fAdd_w HO2.out (HSB.out.ok (by omega)) HRU.out.plb HMM.out (HBU.out.keep (by first | exact (Below.refl _ _).drew | exact ((Below.refl _ _).alloc (Nat.le_refl _) _).drew))).mono ?_; rintro e w5 ⟨p4, rfl, ha5, pl5, h15, h35, hb5, h25⟩; have H25 := Lib.hid h25; clear h25; have H15 := Lib.hid h15; clear h15; first | (have hz5 : Is w5 wu.heap.size 55 [.slice none 0 0, .int .i64 0, .int .i64 0, .slice none 0 0, .slice none 0 0] := is_below (w := (wu.alloc (.cells #[.slice none 0 0, .int .i64 0, .int .i64 0, .slice none 0 0, .slice none 0 0] 55)).drew) (is_new wu 55 [.slice none 0 0, .int .i64 0, .int .i64 0, .slice none 0 0, .slice none 0 0]) hb5 (Nat.lt_of_lt_of_eq (Nat.lt_succ_self _) (World.size_alloc _ _).symm); obtain ⟨⟨z0, z1, z2, z3, z4⟩, f0, f1, f2, f3, f4⟩ := cells5 hz5) | skip)
      all_goals (go_wp2_with fail; go_meet; first | exact ⟨_, p4, rfl, rfl, rfl, put5_late (Below.refl _ _).drew ha5 pl5 H15.out h35 hb5 H25.out, hb5.size⟩ | exact ⟨_, p4, rfl, rfl, rfl, put5_early (wq := (wu.alloc (.cells #[.slice none 0 0, .int .i64 0, .int .i64 0, .slice none 0 0, .slice none 0 0] 55)).drew) HBU.out ha5 pl5 H15.out (Nat.le_of_eq (World.size_alloc _ _).symm) h35 (((Below.refl _ _).alloc (Nat.le_refl _) _).drew) (is_new wu 55 [.slice none 0 0, .int .i64 0, .int .i64 0, .slice none 0 0, .slice none 0 0]) hb5 H25.out, Nat.le_refl _⟩)
     case rest =>
      obtain ⟨J2, p4, rfl, rfl, rfl, hld, hJ⟩ := hcut
      have HLE := Lib.hid hld
      have HRV := Lib.hid (HRU.out.keep hld.bel)
      have HI3 := Lib.hid (is_below HLD.out.ij hld.bel (is_lt HLD.out.ij))
      have HA3 := Lib.hid (HLD.out.at_.keep hld.bel)
      have HJ2 : Hid (wa.heap.size + 1 < J2) := Lib.hid (by have := HSU.out; omega)
      clear hld q0 q1 q2 q3 q4 x0 x1 x2 x3 x4 x5 hJ
      obtain ⟨X2, hX2⟩ : ∃ X2, treeF a2 = X2 := ⟨_, rfl⟩
      have HT1 := Lib.hid hX2
      have HT2 := Lib.hid (show treeF b2 = X2 by rw [← hX2]; exact HKP.out.tree)
      have HXR2 := Lib.hid (show Rows_ X2 by rw [← hX2]; exact (sz_tree HS1.out).2)
      have HXL2 := Lib.hid (show X2.length ≤ maxLen by rw [← hX2]; have := (sz_tree HS1.out).1; unfold maxLen; omega)
      have hdd : (d != d) = false := by cases d <;> rfl
      have hdd2 : (d == d) = true := by cases d <;> rfl
      have hzz : (z != z) = false := by simp
      have hzz2 : (z == z) = true := by simp
      clear hX2
      go_upto_region 19 with fail
      obtain ⟨⟨g0, g1, g2, g3, g4⟩, -⟩ := cells5 HI3.out
      obtain ⟨⟨g5, g6, g7, g8, g9⟩, -⟩ := cells5 HLE.out.ij
      go_region_held3 (fun w' => w'.cell? ⟨J, 0, none⟩ = some (.slice p3.A1 a2.B.length p3.c1) ∧ w'.cell? ⟨J, 1, none⟩ = some (.int .i64 a2.fc) ∧ w'.cell? ⟨J, 2, none⟩ = some (.int .i64 a2.fr) ∧ w'.cell? ⟨J, 3, none⟩ = some (.slice p3.A2 a2.L.length p3.c2) ∧ w'.cell? ⟨J, 4, none⟩ = some (.slice p3.A3 a2.V.length p3.c3) ∧ w'.cell? ⟨J2, 0, none⟩ = some (.slice p4.A1 b2.B.length p4.c1) ∧ w'.cell? ⟨J2, 1, none⟩ = some (.int .i64 b2.fc) ∧ w'.cell? ⟨J2, 2, none⟩ = some (.int .i64 b2.fr) ∧ w'.cell? ⟨J2, 3, none⟩ = some (.slice p4.A2 b2.L.length p4.c2) ∧ w'.cell? ⟨J2, 4, none⟩ = some (.slice p4.A3 b2.V.length p4.c3) ∧ Below wc.heap.size wc w')
       (first
        | (exact hold10F (by assumption) hbn)
        | (exact hold10Fd (by assumption))
        | (exact hold10Fs g0 g1 g2 g3 g4 g5 g6 g7 g8 g9)
        | go_keep)
       (first
        | (go_at_call 50; refine (ftree_v (X := X2) (by first | exact HT1.out | exact HT2.out) (by first | exact (HS1.out.ok (by omega)) | exact (HS2.out.ok (by omega))) (by first | exact HLD.out.pl | exact HLE.out.pl) (by first | exact HA3.out.keep (hold10Fb (by assumption)) | exact HLE.out.at_.keep (hold10Fb (by assumption)))).mono ?_; first | (have hT0 := hT1; rintro e wz ⟨E2, f2, rfl, hT2, hbn⟩; have hT1b := At.keep hT0 hbn) | (rintro e wz ⟨E1, f1, rfl, hT1, hbn⟩))
        | (go_at_call 26; refine (rsame_t HXL2.out HXR2.out (by first | exact hT1b | exact hT2) (by first | exact hT2 | exact hT1b)).mono ?_; rintro e wz ⟨rfl, hbn⟩))
      have hbz : Below wc.heap.size wc wz := hold10Fb (by assumption)
      have HBZ2 := Lib.hid hbz
      clear hbz g0 g1 g2 g3 g4 g5 g6 g7 g8 g9 hdd hdd2 hzz hzz2
      have HRW := Lib.hid (HRV.out.keep HBZ2.out)
      have HAW := Lib.hid (HA3.out.keep HBZ2.out)
      have HBW := Lib.hid (HLE.out.at_.keep HBZ2.out)
      have HIJ := Lib.hid (is_below HI3.out HBZ2.out (is_lt HI3.out))
      have HIJ2 := Lib.hid (is_below HLE.out.ij HBZ2.out (is_lt HLE.out.ij))
      have HNEW := Lib.hid (kp_store HRW.out HAW.out HBW.out HLD.out.pl HLE.out.pl HLD.out.b HLE.out.b (offs2 HRT.out.aK HLD.out.v hwt) (offs2 HRU.out.bK HLE.out.v (by have := HSU.out; omega)) HS1.out HS2.out HKP.out)
      have HIK1 := Lib.hid HRW.out.ia
      have hj2 : J2 ≠ wa.heap.size := by have := HJ2.out; omega
      have HIJ3 := Lib.hid (far_is (a0 := .slice p3.A1 a2.B.length p3.c1) (a1 := .int .i64 a2.fc) (a2 := .int .i64 a2.fr) (a3 := .slice p3.A2 a2.L.length p3.c2) (a4 := .slice p3.A3 a2.V.length p3.c3) HIJ2.out hj2)
      have HIK2 := Lib.hid (far_is (a0 := .slice p3.A1 a2.B.length p3.c1) (a1 := .int .i64 a2.fc) (a2 := .int .i64 a2.fr) (a3 := .slice p3.A2 a2.L.length p3.c2) (a4 := .slice p3.A3 a2.V.length p3.c3) HRW.out.ib (by omega : wa.heap.size + 1 ≠ wa.heap.size))
      obtain ⟨⟨q0, q1, q2, q3, q4⟩, -⟩ := cells5 HIJ.out
      obtain ⟨⟨z0, z1, z2, z3, z4⟩, f0, f1, f2, f3, f4⟩ := cells5 HIK1.out
      have hij3 := HIJ3.out
      have hik2 := HIK2.out
      unfold set5 at hij3 hik2
      obtain ⟨⟨r0, r1, r2, r3, r4⟩, -⟩ := cells5 hij3
      obtain ⟨⟨y0, y1, y2, y3, y4⟩, g0, g1, g2, g3, g4⟩ := cells5 hik2
      clear hij3 hik2
      go_wp2_with fail
      clear q0 q1 q2 q3 q4 z0 z1 z2 z3 z4 f0 f1 f2 f3 f4 r0 r1 r2 r3 r4 y0 y1 y2 y3 y4 g0 g1 g2 g3 g4
      have hnew := HNEW.out
      obtain ⟨w9, hw9⟩ : ∃ w9, w9 = set5 (set5 wz wa.heap.size (.slice p3.A1 a2.B.length p3.c1) (.int .i64 a2.fc) (.int .i64 a2.fr) (.slice p3.A2 a2.L.length p3.c2) (.slice p3.A3 a2.V.length p3.c3)) (wa.heap.size + 1) (.slice p4.A1 b2.B.length p4.c1) (.int .i64 b2.fc) (.int .i64 b2.fr) (.slice p4.A2 b2.L.length p4.c2) (.slice p4.A3 b2.V.length p4.c3) := ⟨_, rfl⟩
      rw [← hw9] at hnew
      have HNEW2 := Lib.hid hnew
      clear hnew HNEW
      unfold set5 at hw9
      rw [← hw9]
      go_roundg (gk - 1)
      case rel => exact ⟨k + 1, p3, a2, p4, b2, by go_num, by omega, HNEW2.out⟩
      case measure => omega
  ·have hkl : ¬ (k : Int) < (l.length : Int) := by omega
   have S41 := Lib.hid ((((SR.out.addP (p := pq) (r := a) (HR.out.atA HAr.out)).addP (p := pb) (r := b) (HR.out.atB HAs.out)).addB (g := wa.heap.size) (t := 55) (vs := [.slice pq.A1 a.B.length pq.c1, .int .i64 a.fc, .int .i64 a.fr, .slice pq.A2 a.L.length pq.c2, .slice pq.A3 a.V.length pq.c3]) HR.out.ia).addB (g := wa.heap.size + 1) (t := 55) (vs := [.slice pb.A1 b.B.length pb.c1, .int .i64 b.fc, .int .i64 b.fr, .slice pb.A2 b.L.length pb.c2, .slice pb.A3 b.V.length pb.c3]) HR.out.ib)
   have HAB := Lib.hid (show a.V = b.V from HR.out.kept.v.symm)
   have hx := (S41.out.box (.tail _ (.head _)))
   obtain ⟨⟨y9_0, y9_1, y9_2, y9_3, y9_4⟩, -⟩ := cells5 hx
   clear hx
   have hx := (S41.out.box (.head _))
   obtain ⟨⟨y10_0, y10_1, y10_2, y10_3, y10_4⟩, -⟩ := cells5 hx
   clear hx
   go_wp2_with fail
   refine (same17_s HAB.out (by omega) (RpAt.v (S41.out.rep (.tail _ (.tail _ (.tail _ (.head _)))))) (RpAt.v (S41.out.rep (.tail _ (.tail _ (.head _)))))).mono ?_
   rintro e w42 ⟨rfl, hb⟩
   have S42 := Lib.hid (S41.out.step hb)
   clear y9_0 y9_1 y9_2 y9_3 y9_4 y10_0 y10_1 y10_2 y10_3 y10_4
   clear hb
   go_wp2_with fail
   refine (live18_c _).mono ?_
   rintro e w43 ⟨rfl, hb⟩
   have S43 := Lib.hid (S42.out.step hb)
   clear hb
   go_wp2_with fail
   go_ret
   exact ⟨rfl, S43.out.bel⟩
end floorKeeps
end Go.Proofs.YthhckdjagnlgpaaGreat
end
