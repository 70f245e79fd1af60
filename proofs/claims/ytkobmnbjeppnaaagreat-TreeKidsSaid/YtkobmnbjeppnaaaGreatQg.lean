/-
 Where each node's way ends: the program's.
-/
import Derived.Test.YtkobmnbjeppnaaaGreatQf
namespace Go.Proofs.YtkobmnbjeppnaaaGreat
open Go.RowKit Go.IntWalk Go.Maps
open Gr
set_option maxRecDepth 100000
attribute [local go_sem] Oper.semAt_some
/-- what a round must keep: all below n₀, and the box of the rows -/
def KeepB (n₀ Bs : Nat) (W W' : World) : Prop := Below n₀ W W' ∧ W'.heap[Bs]? = W.heap[Bs]?
theorem keepB_t {n₀ Bs : Nat} {A B C : World} (h : KeepB n₀ Bs A B) (k : KeepB n₀ Bs B C) : KeepB n₀ Bs A C := ⟨h.1.trans k.1, k.2.trans h.2⟩
theorem keepB_b {n₀ Bs : Nat} {w : World} (hn : n₀ ≤ w.heap.size) (hb : Bs < w.heap.size) (W : World) (l : Nat) (o o' : Obj) (hl : w.heap.size ≤ l) (h : W.heap[l]? = some o) (h1 : o.isCells = false) (h2 : o.isWalk = false) : KeepB n₀ Bs W (W.putObj l o') :=
 ⟨belowK_b hn W l o o' hl h h1 h2, World.putObj_heap_other (by omega)⟩
/-- marks of ranges over functions that have ended -/
def Marks (base : Nat) : List Deferred → World → Prop
 | [], _ => True
 | d :: ds, W => ∃ D, d = { target := .collected D, args := #[] } ∧ base ≤ D ∧ W.heap[D]? = some (.deferred (some [])) ∧ (∀ e ∈ ds, e ≠ d) ∧ Marks base ds W
theorem Marks.kept {base : Nat} {W W' : World} (h : ∀ D, base ≤ D → W.heap[D]? = some (.deferred (some [])) → W'.heap[D]? = some (.deferred (some []))) : ∀ {ds : List Deferred}, Marks base ds W → Marks base ds W'
 | [], _ => trivial
 | d :: ds, hm => by
  obtain ⟨D, h1, h2, h3, h4, h5⟩ := hm
  exact ⟨D, h1, h2, h D h2 h3, h4, Marks.kept h h5⟩
theorem Marks.lt {base : Nat} {W : World} : ∀ {ds : List Deferred}, Marks base ds W → ∀ e ∈ ds, ∃ D, e = { target := .collected D, args := #[] } ∧ D < W.heap.size
 | [], _, e, he => by cases he
 | d :: ds, hm, e, he => by
  obtain ⟨D, h1, _, h3, _, h5⟩ := hm
  rcases List.mem_cons.1 he with rfl | he
  ·exact ⟨D, h1, (Array.getElem?_eq_some_iff.1 h3).1⟩
  ·exact Marks.lt h5 e he
theorem Marks.more {base D : Nat} {W : World} : ∀ {ds : List Deferred}, (∀ e ∈ ds, e ≠ { target := .collected D, args := #[] }) → Marks base ds W → Marks base ds (W.putObj D (.deferred none))
 | [], _, _ => trivial
 | d :: ds, hn, hm => by
  obtain ⟨E, h1, h2, h3, h4, h5⟩ := hm
  have hne : E ≠ D := fun e => hn d (List.mem_cons_self ..) (by rw [h1, e])
  exact ⟨E, h1, h2, (World.putObj_heap_other hne).trans h3, h4, Marks.more (fun e he => hn e (List.mem_cons_of_mem _ he)) h5⟩
/-- what leaving does: the marks' blocks are shut, one by one -/
theorem leaves_marks {F : Fence} {n : Nat} {P : Program} {fn : Func} {tmps : Array Value} {R : Ending → World → Prop} {base : Nat} {v : Value} (I : World → Prop)
  (hI : ∀ W D, I W → base ≤ D → W.heap[D]? = some (.deferred (some [])) → I (W.putObj D (.deferred none)))
  (hr : ∀ W, I W → (results fn tmps).run P W = .ok v W) (hR : ∀ W, I W → R (.returned v) W) : ∀ (ds : List Deferred) (W : World), Marks base ds W → I W → LeavesInM F n P fn tmps R ds .returning W
 | [], W, _, hi => ⟨v, hr W hi, hR W hi⟩
 | d :: ds, W, hm, hi => by
  obtain ⟨D, rfl, h2, h3, h4, h5⟩ := hm
  refine ⟨by simp, .inl ⟨_, _, rfl, run_takeDeferred h3, ?_⟩⟩
  refine leaves_marks I hI hr hR ds _ (Marks.more h4 h5) (hI W D hi h2 h3)
/-- the state between two nodes of a way -/
structure EI (w1 : World) (b p q : Nat) (K : Int → Option (Int × Bool)) (nn : Nat) (path : List Int) (to : Int × Bool) (W : World) : Prop where
 bx : Boxed W (b + 1) 52 (.map (some b))
 row : ∃ v, Boxed W p 36 v ∧ W.ownsRow (p + 4) 3 1 v path.length (ivs path)
 to : Is W q 56 [.int .i64 to.1, .bool to.2]
 map : ∃ D, W.ownsMap Tryz.prog 3 RE b nn D ∧ Eok D K
 bel : Below w1.heap.size w1 W
theorem own_off {w w' : World} {base q n size : Nat} {e : TypeId} {v : Value} {xs : List Value} (hrow : w.ownsRow base e size v n xs) (hg : w.grownBy w' (some q)) (hq : q < base) : w'.ownsRow base e size v n xs := by
 refine hrow.kept hg ?_
 by_cases hb : v.ownBlock = none
 ·exact .inl hb
 ·exact .inr fun e => by have := (hrow.lt q e).1; omega
theorem EI.alloc {w1 W : World} {b p q nn : Nat} {K : Int → Option (Int × Bool)} {path : List Int} {to : Int × Bool} (h : EI w1 b p q K nn path to W) (o : Obj) : EI w1 b p q K nn path to (W.alloc o) := by
 obtain ⟨v, hv, hr⟩ := h.row
 obtain ⟨D, hm, hD⟩ := h.map
 exact ⟨h.bx.alloc o, ⟨v, hv.alloc o, hr.alloc o⟩, is_alloc h.to o, ⟨D, hm.alloc o, hD⟩, h.bel.alloc h.bel.size o⟩
theorem EI.grown {w1 W W' : World} {b p q nn n2 : Nat} {K K2 : Int → Option (Int × Bool)} {path : List Int} {to : Int × Bool} (h : EI w1 b p q K nn path to W) (hg : W.grownBy W' (some b)) (hb : b = w1.heap.size) (hp2 : b + 2 ≤ p) (hq : q ≠ b) (hm : ∃ D, W'.ownsMap Tryz.prog 3 RE b n2 D ∧ Eok D K2) : EI w1 b p q K2 n2 path to W' := by
 obtain ⟨v, hv, hr⟩ := h.row
 exact ⟨h.bx.kept hg (by simp), ⟨v, hv.kept hg (fun e => by injection e; omega), own_off hr hg (by omega)⟩, (hg.block q (is_lt h.to) (fun e => hq (by injection e))).trans h.to, hm, h.bel.grown hg h.bel.size (fun k e => by cases e; omega)⟩
theorem EI.later {w1 W W' : World} {b p q nn : Nat} {K : Int → Option (Int × Bool)} {path : List Int} {to : Int × Bool} (h : EI w1 b p q K nn path to W) (hb : Below W.heap.size W W') : EI w1 b p q K nn path to W' := by
 obtain ⟨v, hv, hr⟩ := h.row
 obtain ⟨D, hm, hD⟩ := h.map
 have hg : W.grownBy W' none := ⟨hb.os, hb.tape, hb.output, hb.size, fun i hi _ => hb.block i hi⟩
 exact ⟨h.bx.kept hg (by simp), ⟨v, hv.kept hg (by simp), hr.kept hg (Classical.em _)⟩, (hb.block q (is_lt h.to)).trans h.to, ⟨D, hm.kept hg (by simp), hD⟩, h.bel.trans (hb.mono h.bel.size)⟩
theorem EI.setTo {w1 W : World} {b p q nn : Nat} {K : Int → Option (Int × Bool)} {path : List Int} {to : Int × Bool} (h : EI w1 b p q K nn path to W) (hb : b = w1.heap.size) (hq : b + 2 ≤ q) (hpq : p ≠ q) (y : Int) (f : Bool) :
  EI w1 b p q K nn path (y, f) ((W.setCell ⟨q, 0, none⟩ (.int .i64 y)).setCell ⟨q, 1, none⟩ (.bool f)) := by
 obtain ⟨v, hv, hr⟩ := h.row
 obtain ⟨D, hm, hD⟩ := h.map
 have hne : v.ownBlock ≠ some q := fun e => by
  rcases hr.2 with ⟨rfl, _⟩ | ⟨g, cap, cur, rfl, _, hgb, _⟩
  ·simp [Value.ownBlock] at e
  ·simp [Value.ownBlock] at e
   subst e
   have := h.to
   rw [show W.heap[g]? = _ from this] at hgb
   cases hgb
 have g1 : W.grownBy (W.setCell ⟨q, 0, none⟩ (.int .i64 y)) (some q) := ⟨rfl, rfl, rfl, by simp, fun i _ hi => Below.heap_setCell W _ _ i (fun e => hi (by rw [e]))⟩
 have g2 : (W.setCell ⟨q, 0, none⟩ (.int .i64 y)).grownBy ((W.setCell ⟨q, 0, none⟩ (.int .i64 y)).setCell ⟨q, 1, none⟩ (.bool f)) (some q) := ⟨rfl, rfl, rfl, by simp, fun i _ hi => Below.heap_setCell (W.setCell ⟨q, 0, none⟩ (.int .i64 y)) _ _ i (fun e => hi (by rw [e]))⟩
 have hx : Boxed ((W.setCell ⟨q, 0, none⟩ (.int .i64 y)).setCell ⟨q, 1, none⟩ (.bool f)) p 36 v := (Below.heap_setCell _ _ _ p hpq).trans ((Below.heap_setCell _ _ _ p hpq).trans hv)
 refine ⟨(Below.heap_setCell _ _ _ (b + 1) (by show b + 1 ≠ q; omega)).trans ((Below.heap_setCell _ _ _ (b + 1) (by show b + 1 ≠ q; omega)).trans h.bx), ⟨v, hx, ?_⟩, is_set (is_set h.to 0 _) 1 _, ⟨D, ?_, hD⟩, (h.bel.setCell (p := ⟨q, 0, none⟩) (by show w1.heap.size ≤ q; omega) _).setCell (p := ⟨q, 1, none⟩) (by show w1.heap.size ≤ q; omega) _⟩
 ·exact (hr.kept g1 (.inr hne)).kept g2 (.inr hne)
 ·exact (hm.kept g1 (fun e => by injection e; omega)).kept g2 (fun e => by injection e; omega)
theorem EI.own {w1 : World} {b p q B : Nat} {K : List (Int × Bool) → Int → Option (Int × Bool)} {m : List (Int × Bool) → Nat} {path : List (Int × Bool) → List Int} {to : List (Int × Bool) → Int × Bool} (hb : b < B) (hw : w1.heap.size ≤ B) : OwnFrom B (fun s W => EI w1 b p q (K s) (m s) (path s) (to s) W) := fun s X Y row h hg hr => by
 have hcell : ∀ {k : Nat} {o : Obj}, X.heap[k]? = some o → o.isCells = true → some k ≠ row := fun hk ho e => by
  obtain ⟨_, o', ho', hc'⟩ := hr _ e.symm
  rw [hk] at ho'; cases ho'; rw [ho] at hc'; cases hc'
 obtain ⟨v, hv, hrow⟩ := h.row
 obtain ⟨D, hm, hD⟩ := h.map
 refine ⟨h.bx.kept hg (hcell h.bx rfl), ⟨v, hv.kept hg (hcell hv rfl), hrow.kept hg ?_⟩, (hg.block q (is_lt h.to) (hcell (show X.heap[q]? = _ from h.to) rfl)).trans h.to, ⟨D, hm.kept hg (fun e => ?_), hD⟩, h.bel.grown hg h.bel.size (fun k e => by have := (hr k e).1; omega)⟩
 ·rcases hrow.2 with ⟨rfl, _⟩ | ⟨g, cap, cur, rfl, _, hgb, _⟩
  ·exact .inl rfl
  ·exact .inr (hcell hgb rfl)
 ·have := (hr b e.symm).1; omega
theorem run_makeHint {n : Int} (w : World) : (Instr.makeMap 52 (some (.int .i64 n))).run Tryz.prog w = .ok (.map (some w.heap.size)) (w.alloc (.map #[] 0)) := by
 simp [Instr.makeMap, run_underlying Tryz.underlying52, go_sem]
/-- what is told of a way's nodes -/
def setK (K : Int → Option (Int × Bool)) (ns : List Int) (e : Int × Bool) : Int → Option (Int × Bool) := ns.foldl (fun K x => updK K x e) K
theorem setK_snoc (K : Int → Option (Int × Bool)) (ns : List Int) (x : Int) (e : Int × Bool) : setK K (ns ++ [x]) e = updK (setK K ns e) x e := by
 unfold setK; rw [List.foldl_append]; rfl
theorem setK_at (e : Int × Bool) (y : Int) : ∀ (ns : List Int) (K : Int → Option (Int × Bool)), setK K ns e y = if y ∈ ns then some e else K y
 | [], K => by simp [setK]
 | x :: t, K => by
  rw [show setK K (x :: t) e = setK (updK K x e) t e from rfl, setK_at e y t]
  by_cases ht : y ∈ t
  ·rw [if_pos ht, if_pos (List.mem_cons_of_mem _ ht)]
  ·rw [if_neg ht]
   by_cases h : y = x
   ·subst h; rw [updK_on, if_pos (List.mem_cons_self ..)]
   ·rw [updK_off _ _ h, if_neg (by simp [h, ht])]
/-- what is known behind some nodes of a way -/
def preK (K : Int → Option (Int × Bool)) (pre : List (Int × Bool)) : Int → Option (Int × Bool) := setK K (pre.map (·.1)) (0, false)
theorem preK_snoc (K : Int → Option (Int × Bool)) (pre : List (Int × Bool)) (x : Int × Bool) : preK K (pre ++ [x]) = updK (preK K pre) x.1 (0, false) := by
 unfold preK; rw [List.map_append, List.map_cons, List.map_nil, setK_snoc]
theorem preK_out {y : Int} {pre : List (Int × Bool)} {K : Int → Option (Int × Bool)} (h : y ∉ pre.map (·.1)) : preK K pre y = K y := by
 unfold preK; rw [setK_at, if_neg h]
theorem preK_in {y : Int} {pre : List (Int × Bool)} {K : Int → Option (Int × Bool)} (h : y ∈ pre.map (·.1)) : preK K pre y = some (0, false) := by
 unfold preK; rw [setK_at, if_pos h]
theorem chn_in64 {l : List Rw} (hi : ∀ r ∈ l, In64 (ch r) ∧ In64 (pa r)) : ∀ (n : Nat) (c : Int), In64 c → ∀ x ∈ chn l n c, In64 x.1
 | 0, _, _, x, hx => by simp [chn] at hx
 | n + 1, c, hc, x, hx => by
  unfold chn at hx
  rcases List.mem_cons.1 hx with rfl | hx
  ·exact hc
  ·by_cases hp : parB l c = true
   ·rw [if_pos hp] at hx
    refine chn_in64 hi n _ ?_ x hx
    unfold parV
    cases h : fnd l c with
    | none => exact ⟨by show _ ≤ (0 : Int); omega, by show (0 : Int) ≤ _; omega⟩
    | some r =>
     unfold fnd at h
     exact (hi r (List.mem_of_find?_eq_some h)).2
   ·rw [if_neg hp] at hx; cases hx
theorem chn_ahead {l : List Rw} {n : Nat} {c : Int} {pre : List (Int × Bool)} {y : Int × Bool} (h : pre ++ [y] <+: chn l n c) : ∀ z ∈ pre, z.2 = false := fun z hz => by
 obtain ⟨j, hj⟩ := List.mem_iff_getElem?.1 hz
 have hjl : j < pre.length := (List.getElem?_eq_some_iff.1 hj).1
 obtain ⟨t, ht⟩ := h
 have h1 : (chn l n c)[j]? = some (z.1, z.2) := by rw [← ht, List.append_assoc, List.getElem?_append_left hjl]; exact hj
 have h2 : (chn l n c)[pre.length]? = some (y.1, y.2) := by rw [← ht, List.append_assoc, List.getElem?_append_right (Nat.le_refl _), Nat.sub_self]; rfl
 obtain ⟨g1, g2⟩ := chn_at h1
 obtain ⟨u, h3, h4⟩ := it_less (chn_at h2).1 (Nat.le_of_lt hjl)
 rw [g1] at h3
 cases h3
 rw [g2]
 cases hq : parB l z.1 with
 | true => rfl
 | false =>
  rw [show pre.length - j = (pre.length - j - 1) + 1 by omega, it, upF_par, hq] at h4
  cases h4
theorem toOf_ahead {l : List Rw} {n : Nat} {c : Int} {pre : List (Int × Bool)} {y : Int × Bool} (h : pre ++ [y] <+: chn l n c) : toOf pre = (0, false) := by
 have ha := chn_ahead h
 unfold toOf
 cases hl : pre.getLast? with
 | none => rfl
 | some z =>
  have := ha z (List.mem_of_getLast? hl)
  obtain ⟨z1, z2⟩ := z
  simp only at this
  subst this
  rfl
theorem chn_head {l : List Rw} {n : Nat} {c : Int} {x : Int × Bool} {t : List (Int × Bool)} (h : x :: t <+: chn l (n + 1) c) : x.1 = c := by
 obtain ⟨u, hu⟩ := h
 rw [chn] at hu
 injection hu with hu _
 rw [hu]
theorem EI.app {w1 W w2 : World} {b p q nn : Nat} {K : Int → Option (Int × Bool)} {path : List Int} {to : Int × Bool} {o : Obj} {v v' : Value} {y : Int} (h : EI w1 b p q K nn path to W) (hbw : b = w1.heap.size) (hp : b + 2 ≤ p) (hpq : p + 1 = q) (hv : Boxed W p 36 v) (hrow : W.ownsRow (p + 4) 3 1 v path.length (ivs path))
  (hown' : w2.ownsRow (p + 4) 3 1 v' (path.length + 1) (ivs path ++ [.int .i64 y])) (hgrow : (W.alloc o).grownBy w2 v.ownBlock) (hWs : p + 4 ≤ W.heap.size) :
  EI w1 b p q K nn (path ++ [y]) to (w2.setCell ⟨p, 0, none⟩ v') ∧ Below (b + 2) W (w2.setCell ⟨p, 0, none⟩ v') ∧ KeepsOthers W (w2.setCell ⟨p, 0, none⟩ v') ∧ (w2.setCell ⟨p, 0, none⟩ v').heap[p + 2]? = W.heap[p + 2]? := by
 obtain ⟨D, hm, hD⟩ := h.map
 have hbs : b + 2 ≤ W.heap.size := by omega
 obtain ⟨hv1, hv2, hr2, hk2, hb2⟩ := hv.appended (by decide) (ownsRow_base_a hrow (show b + 2 ≤ p + 4 by omega)) hbs hp (ownsRow_base_a hown' (show b + 2 ≤ p + 4 by omega)) hgrow
 have off : ∀ j, j < p + 4 → some j ≠ v.ownBlock := fun j hj e => by have := (hrow.lt j e.symm).1; omega
 have off' : v'.ownBlock ≠ some p := fun e => by have := (hown'.lt p e).1; omega
 have keep : ∀ j, j < p + 4 → j ≠ p → (w2.setCell ⟨p, 0, none⟩ v').heap[j]? = W.heap[j]? := fun j hj hne =>
  (Below.heap_setCell _ _ _ j hne).trans ((hgrow.block j (by simp only [World.size_alloc]; omega) (off j hj)).trans (Below.heap_alloc _ _ _ (by omega)))
 refine ⟨⟨(keep (b + 1) (by omega) (by omega)).trans h.bx, ⟨v', hv2, ?_⟩, (keep q (by omega) (by omega)).trans h.to, ⟨D, ?_, hD⟩, h.bel.trans (hb2.mono (by omega))⟩, hb2, hk2, keep (p + 2) (by omega) (by omega)⟩
 ·rw [List.length_append, show ivs (path ++ [y]) = ivs path ++ [.int .i64 y] by simp [ivs]]
  exact hown'.kept (grownBy_setCell' w2 p v') (.inr off')
 ·obtain ⟨es, clock, hb, F, hs, hDD⟩ := hm
  exact ⟨es, clock, (keep b (by omega) (by omega)).trans hb, F, hs, hDD⟩
theorem Marks.grown {base B : Nat} {W W' : World} (hk : ∀ D, D < B → W.heap[D]? = some (.deferred (some [])) → W'.heap[D]? = some (.deferred (some []))) : ∀ {ds : List Deferred}, (∀ e ∈ ds, ∀ D, B ≤ D → e ≠ { target := .collected D, args := #[] }) → Marks base ds W → Marks base ds W'
 | [], _, _ => trivial
 | d :: ds, hn, hm => by
  obtain ⟨D, h1, h2, h3, h4, h5⟩ := hm
  have hD : D < B := by
   refine Nat.lt_of_not_le fun hle => hn d (List.mem_cons_self ..) D hle h1
  exact ⟨D, h1, h2, hk D hD h3, h4, Marks.grown hk (fun e he => hn e (List.mem_cons_of_mem _ he)) h5⟩
theorem Marks.own {β : Type} {base B : Nat} {ds : List Deferred} (hn : ∀ e ∈ ds, ∀ D, B ≤ D → e ≠ { target := .collected D, args := #[] }) : OwnFrom B (fun (_ : β) W => Marks base ds W) := fun s X Y row h hg hr =>
 Marks.grown (fun D hD hx => (hg.block D (Array.getElem?_eq_some_iff.1 hx).1 (fun e => by have := (hr D e.symm).1; omega)).trans hx) hn h
theorem Marks.others {base : Nat} {W W' : World} {ds : List Deferred} (hk : KeepsOthers W W') (h : Marks base ds W) : Marks base ds W' := Marks.kept (fun _ _ hD => hk.same _ _ hD rfl) h
theorem Marks.below {base : Nat} {W W' : World} {ds : List Deferred} (hb : Below W.heap.size W W') (h : Marks base ds W) : Marks base ds W' := Marks.kept (fun D _ hD => (hb.block D (Array.getElem?_eq_some_iff.1 hD).1).trans hD) h
/-- between two nodes of a way; where it is left -/
def EGo (w w1 : World) (b g n : Nat) (K : Int → Option (Int × Bool)) (ds : List Deferred) (pre : List (Int × Bool)) (W' : World) : Prop :=
 ((pre.map (·.1)).Nodup ∧ (∀ y ∈ pre.map (·.1), K y = none)) ∧ g + 5 ≤ W'.heap.size ∧ EI w1 b (g + 1) (g + 2) (preK K pre) (n + pre.length) (pre.map (·.1)) (toOf pre) W' ∧ Marks w.heap.size ds W'
def EStop (w w1 : World) (l : List Rw) (b g n : Nat) (K : Int → Option (Int × Bool)) (ds : List Deferred) (s : List (Int × Bool)) (W' : World) : Prop :=
 ∃ (pre : List (Int × Bool)) (y : Int × Bool), s = pre ++ [y] ∧ (∀ z ∈ pre.map (·.1), K z = none) ∧ (K y.1 = some (endE l y.1) ∨ y.1 ∈ pre.map (·.1)) ∧ EI w1 b (g + 1) (g + 2) (preK K pre) (n + pre.length) (pre.map (·.1)) (endE l y.1) W' ∧ Marks w.heap.size ds W'
def tmE (A A1 : Option Addr) (cap cap1 N b : Nat) (k : Nat) (x : Nat → Value) : Array Value := #[.slice A N cap, undef, .map none, .slice A1 N cap1, .pointer (some ⟨b + 1, 0, none⟩), x 5, x 6, x 7, x 8, x 9, x 10, x 11, x 12, x 13, x 14, .slice A N cap, .slice A1 N cap1, .slice A N cap, .int .i64 (N : Int), .map (some b), .slice A1 N cap1, .int .i64 (N : Int), .int .i64 (k : Int),
 x 23, x 24, x 25, x 26, x 27, x 28, x 29, x 30, x 31, x 32, x 33, x 34, x 35, x 36, x 37, x 38, x 39, x 40, x 41, x 42, x 43, x 44, x 45, x 46, x 47, x 48, x 49, x 50, x 51, x 52, x 53, x 54, x 55, x 56, x 57, x 58, x 59, x 60, x 61]
/-- the state between two rows -/
structure EO (w w1 : World) (l : List Rw) (b : Nat) (K : Int → Option (Int × Bool)) (n k : Nat) (ds : List Deferred) (W : World) : Prop where
 bx : Boxed W (b + 1) 52 (.map (some b))
 map : ∃ D, W.ownsMap Tryz.prog 3 RE b n D ∧ Eok D K
 right : ∀ c v, K c = some v → v = endE l c
 done : ∀ (i : Nat) (r : Rw), i < k → (srt l)[i]? = some r → (K (ch r)).isSome = true
 marks : Marks w.heap.size ds W
 bel : Below w1.heap.size w1 W
set_option maxHeartbeats 8000000 in
theorem ends_in (A : Option Addr) (cap : Nat) (l : List Rw) (hl : l.length ≤ 1000) (ho : OrdOk l) (hi : ∀ r ∈ l, In64 (ch r) ∧ In64 (pa r)) (w : World) (hc : At w w.heap.size A (tvs l)) :
  CallsIn Fence.wide 4 Tryz.prog 39 #[.slice A l.length cap] w fun e W' => ∃ b D n K, e = .returned (.map (some b)) ∧ W'.ownsMap Tryz.prog 3 RE b n D ∧ Eok D K ∧ (∀ r ∈ l, K (ch r) = some (endE l (ch r))) ∧ w.heap.size ≤ b ∧ Below w.heap.size w W' := by
 have HC := Lib.hid hc
 have HO := Lib.hid ho
 have HI := Lib.hid hi
 clear hc ho hi
 have hmk := @run_makeHint (l.length : Int)
 refine callsIn_of_wp_marks Tryz.func39 rfl trivial ?_ rfl
 simp only [Tryz.ntmps39, List.size_toArray, List.length_cons, List.length_nil, Nat.reduceAdd, Nat.reduceSub, Array.replicate_succ, Array.replicate_zero, List.push_toArray, List.append_toArray, List.nil_append, List.cons_append]
 gi_wp2_with fail
 refine ⟨trivial, (callsIn_wide.2 (HO.out A cap _ HC.out)).mono ?_⟩
 rintro e w1 ⟨A1, cap1, rfl, hat1, hb1⟩
 obtain ⟨b, hb⟩ : ∃ b, b = w1.heap.size := ⟨_, rfl⟩
 have hmap0 := (World.ownsMap_made w1 Tryz.prog 3 RE).alloc (.cells #[.map (some w1.heap.size)] 52)
 have hbx0 := Boxed.new (w1.alloc (.map #[] 0)) 52 (.map (some w1.heap.size))
 have hbel0 : Below w1.heap.size w1 ((w1.alloc (.map #[] 0)).alloc (.cells #[.map (some w1.heap.size)] 52)) := ((Below.refl _ _).alloc (Nat.le_refl _) _).alloc (by simp) _
 rw [World.size_alloc] at hbx0
 have HE0 := Lib.hid (And.intro hmap0 (And.intro hbx0 hbel0))
 have HAT := Lib.hid hat1
 have HB1 := Lib.hid hb1
 clear hmap0 hbx0 hbel0 hat1 hb1
 gi_wp2_with fail
 clear hmk
 rw [← hb] at HE0 ⊢
 have hbs : w.heap.size ≤ b := by rw [hb]; exact HB1.out.size
 have HB := Lib.hid hb
 clear hb
 refine wpIn_loop (fun a W => ∃ (k n : Nat) (K : Int → Option (Int × Bool)), a.tmps = tmE A A1 cap cap1 l.length b k (fun i => a.tmps.getD i undef) ∧ k ≤ l.length ∧ n ≤ 3000 * k ∧ EO w w1 l b K n k a.defers W)
  (fun a _ => l.length - (Go.RowKit.intOf (a.tmps.getD 22 undef)).toNat) ⟨0, 0, fun _ => none, rfl, Nat.zero_le _, Nat.zero_le _, ⟨HE0.out.2.1, ⟨_, HE0.out.1, eok_nil⟩, fun c v h => (by cases h), fun i r h _ => (by omega), trivial, by have := HE0.out.2.2; rw [HB.out] at this ⊢; exact this⟩⟩ ?_
 rintro ⟨tm, ds⟩ W ⟨k, n, K, htm, hk, hn, hE⟩
 simp only at htm hE
 generalize (fun i => tm.getD i undef) = x at htm
 subst htm
 have HE := Lib.hid hE
 clear hE
 unfold tmE
 by_cases hlt : k < l.length
 ·obtain ⟨r, hr⟩ := some_at (show k < (srt l).length by rw [srt_len]; exact hlt)
  have hkl : (k : Int) < (l.length : Int) := by omega
  have hk0 : (0 : Int) ≤ (k : Int) := by omega
  obtain ⟨b0, o0, rfl, hb0, e0, e1, e2, e3⟩ := row_cells ((HAT.out.below HE.out.bel).mono HE.out.bel.size) hr
  obtain ⟨g, hg⟩ : ∃ g, g = W.heap.size := ⟨_, rfl⟩
  obtain ⟨W3, hW3⟩ : ∃ W3, W3 = ((W.alloc (.cells #[.int .i64 (ch r), .int .i64 (pa r), .string (ba (nm r)), .float .f64 (rk r)] 28)).alloc (.cells #[.slice none 0 0] 36)).alloc (.cells #[.int .i64 0, .bool false] 56) := ⟨_, rfl⟩
  have hbg : b + 2 ≤ g := by have := HE.out.bx.lt; omega
  have hs3 : W3.heap.size = g + 3 := by rw [hW3, hg]; simp
  have hE3 : EI w1 b (g + 1) (g + 2) K n [] (0, false) W3 := by
   have i0 := is_new ((W.alloc (.cells #[.int .i64 (ch r), .int .i64 (pa r), .string (ba (nm r)), .float .f64 (rk r)] 28)).alloc (.cells #[.slice none 0 0] 36)) 56 [.int .i64 0, .bool false]
   have i1 := Boxed.new (W.alloc (.cells #[.int .i64 (ch r), .int .i64 (pa r), .string (ba (nm r)), .float .f64 (rk r)] 28)) 36 (.slice none 0 0)
   simp only [World.size_alloc] at i0 i1
   obtain ⟨D, hm, hD⟩ := HE.out.map
   rw [hW3, hg]
   exact ⟨((HE.out.bx.alloc _).alloc _).alloc _, ⟨_, i1.alloc _, ⟨rfl, .inl ⟨rfl, rfl⟩⟩⟩, i0, ⟨D, ((hm.alloc _).alloc _).alloc _, hD⟩, ((HE.out.bel.alloc HE.out.bel.size _).alloc (by have := HE.out.bel.size; simp only [World.size_alloc]; omega) _).alloc (by have := HE.out.bel.size; simp only [World.size_alloc]; omega) _⟩
  have hbel3 : Below W.heap.size W W3 := by rw [hW3]; exact (((Below.refl _ _).alloc (Nat.le_refl _) _).alloc (by simp) _).alloc (by simp only [World.size_alloc]; omega) _
  have HE3 := Lib.hid (And.intro hE3 hbel3)
  have HW3 := Lib.hid hW3
  have HG := Lib.hid hg
  have HR := Lib.hid hr
  clear hg hW3 hE3 hbel3 hr
  gi_wp2_with fail
  rw [← HW3.out, ← HG.out]
  refine ⟨trivial, (up_in Fence.wide 3 trivial rfl _ _ _ _ _).mono ?_⟩
  rintro e w5 ⟨rfl, hw5⟩
  gi_wp2_with fail
  obtain ⟨W5, hW5⟩ : ∃ W5, W5 = (W3.alloc (.cells #[.slice (some ⟨b0, o0, none⟩) l.length cap1] 63)).alloc (.cells #[.int .i64 (ch r)] 3) := ⟨_, rfl⟩
  have hE5 : EI w1 b (g + 1) (g + 2) K n [] (0, false) W5 := by rw [hW5]; exact (HE3.out.1.alloc _).alloc _
  have hbel5 : Below W.heap.size W W5 := by rw [hW5]; exact (HE3.out.2.alloc HE3.out.2.size _).alloc (by have := HE3.out.2.size; simp only [World.size_alloc]; omega) _
  have hs5 : W5.heap.size = g + 5 := by rw [hW5]; simp [hs3]
  have hBt : Boxed W5 (g + 3) 63 (.slice (some ⟨b0, o0, none⟩) l.length cap1) := by
   have := (Boxed.new W3 63 (.slice (some ⟨b0, o0, none⟩) l.length cap1)).alloc (.cells #[.int .i64 (ch r)] 3)
   rw [hs3] at this; rw [hW5]; exact this
  have hBc : Boxed W5 (g + 3 + 1) 3 (.int .i64 (ch r)) := by
   have := Boxed.new (W3.alloc (.cells #[.slice (some ⟨b0, o0, none⟩) l.length cap1] 63)) 3 (.int .i64 (ch r))
   rw [World.size_alloc, hs3] at this; rw [hW5]; exact this
  have hat5 : At W5 w1.heap.size (some ⟨b0, o0, none⟩) (tvs (srt l)) := HAT.out.below hE5.bel
  have hseq : SeqQ Fence.wide 3 Tryz.prog 68 #[.pointer (some ⟨g + 3 + 1, 0, none⟩), .pointer (some ⟨g + 3, 0, none⟩)] upArr (KeepB w1.heap.size (g + 3)) (fun A B => Below A.heap.size A B) (fun s => s <+: chn l (l.length + 1) (ch r)) (fun ys _ => ys = chn l (l.length + 1) (ch r)) (fun pre _ => pre <+: chn l (l.length + 1) (ch r)) (l.length + 1) W5 := by
   have hw15 := hE5.bel.size
   have := up_stopsK 3 (by decide) (g + 3 + 1) (g + 3) (some ⟨b0, o0, none⟩) cap1 (srt l) (ch r) (by rw [srt_len]; omega) (srt_asc l) W5 (by omega) (KeepB w1.heap.size (g + 3)) (fun _ _ _ h k => keepB_t h k)
    (fun X hX => ⟨hX.mono hw15, hX.block _ (by omega)⟩) (fun X Y hx hy => ⟨hy.mono (Nat.le_trans hw15 hx.1.size), hy.block _ (by have := hx.1.size; omega)⟩)
    (fun X hx => ⟨(World.cell?_of_block hx.2).trans (by rw [srt_len]; exact hBt.cell), (hat5.below hx.1).mono (Nat.le_trans hw15 hx.1.size)⟩) hBc.cell
   rw [srt_len, chn_srt] at this
   exact this
  have hmk5 : Marks w.heap.size ds W5 := Marks.kept (fun D _ hD => (hbel5.block D (Array.getElem?_eq_some_iff.1 hD).1).trans hD) HE.out.marks
  have hmne : ∀ e ∈ ds, ∀ D, g + 5 ≤ D → e ≠ { target := .collected D, args := #[] } := fun e he D hD h => by
   obtain ⟨E, h1, h2⟩ := HE.out.marks.lt e he
   rw [h1] at h
   have : E = D := by injection h with h _; injection h
   have h3 := HG.out
   omega
  have HSEQ := Lib.hid hseq
  have HE5 := Lib.hid hE5
  have HMK := Lib.hid (And.intro hmk5 hmne)
  have HW5 := Lib.hid hW5
  clear hseq hE5 hmk5 hmne hat5 hBt hBc hbel5 hW5
  rw [← HW5.out]
  have hch : In64 (ch r) := (HI.out r (srt_mem.1 (mem_at HR.out))).1
  have HCH := Lib.hid hch
  clear hch
  refine wpIn_mono (Q := fun e' a' W' => (e' = .normal ∨ e' = .exit 2) ∧ ∃ (path : List Int) (D n' : Nat), a' = { tmps := #[.slice A l.length cap, undef, .map none, .slice (some ⟨b0, o0, none⟩) l.length cap1, .pointer (some ⟨b + 1, 0, none⟩), x 5, .pointer (some ⟨g, 0, none⟩), .pointer (some ⟨g + 1, 0, none⟩), .pointer (some ⟨g + 1 + 1, 0, none⟩), x 9, x 10, x 11, x 12, x 13, x 14, .slice A l.length cap, .slice (some ⟨b0, o0, none⟩) l.length cap1, .slice A l.length cap, .int .i64 (l.length : Int), .map (some b), .slice (some ⟨b0, o0, none⟩) l.length cap1, .int .i64 (l.length : Int), .int .i64 (k : Int), .bool true, .pointer (some ⟨b0, o0 + k * 4, none⟩), .agg #[.int .i64 (ch r), .int .i64 (pa r), .string (ba (nm r)), .float .f64 (rk r)], .slice (some ⟨b0, o0, none⟩) l.length cap1, .pointer (some ⟨g, 0, none⟩), .int .i64 (ch r), .func (.func 68) #[] #[.pointer (some ⟨g + 3 + 1, 0, none⟩), .pointer (some ⟨g + 3, 0, none⟩)], x 30, x 31, x 32, x 33, x 34, x 35, x 36, x 37, x 38, x 39, x 40, x 41, x 42, x 43, x 44, x 45, x 46, x 47, x 48, x 49, x 50, x 51, x 52, x 53, x 54, x 55, x 56, x 57, x 58, x 59, x 60, x 61], defers := { target := .collected D, args := #[] } :: ds } ∧ n' ≤ n + (l.length + 1) ∧ path.length ≤ l.length + 1 ∧ (∀ y ∈ path, In64 y ∧ endE l y = endE l (ch r)) ∧ (ch r ∈ path ∨ (K (ch r)).isSome = true) ∧ EI w1 b (g + 1) (g + 2) (setK K path (0, false)) n' path (endE l (ch r)) W' ∧ W'.heap[D]? = some (.deferred (some [])) ∧ g + 5 ≤ D ∧ Marks w.heap.size ds W') ?rng ?rest
  case rng =>
   refine rangeQ rfl (by decide) (gf := 68) (lb := #[.pointer (some ⟨g + 3 + 1, 0, none⟩), .pointer (some ⟨g + 3, 0, none⟩)]) rfl trivial (enters_of Tryz.func68 (by kernel_rfl) rfl)
    HSEQ.out keepB_t (keepB_b HE5.out.bel.size (by omega)) (Below.refl _ _) (fun _ => rfl)
    (fun A B hab k o hk hko ho => (hab.block k (Array.getElem?_eq_some_iff.1 hko).1).trans hko)
    (ownFrom_pure _ _) (ownFrom_pure _ _)
    (EGo w w1 b g n K ds)
    (fun c s W' => c = .exit 2 ∧ EStop w w1 l b g n K ds s W')
    (OwnFrom.and (ownFrom_pure _ _) (OwnFrom.and (fun _ X Y row hs hg _ => Nat.le_trans hs hg.size) (OwnFrom.and (EI.own (B := W5.heap.size) (by omega) HE5.out.bel.size) (Marks.own (by rw [hs5]; exact HMK.out.2)))))
    (fun c s X Y row hs hg hr => by
     obtain ⟨hc, pre, y, h1, h2, h3, h4, h5⟩ := hs
     exact ⟨hc, pre, y, h1, h2, h3, (EI.own (B := W5.heap.size) (K := fun _ => preK K pre) (m := fun _ => n + pre.length) (path := fun _ => pre.map (·.1)) (to := fun _ => endE l y.1) (by omega) HE5.out.bel.size) s X Y row h4 hg hr, (Marks.own (β := List (Int × Bool)) (by rw [hs5]; exact HMK.out.2)) s X Y row h5 hg hr⟩)
    (fun s A B hs hab => ⟨hs.1, Nat.le_trans hs.2.1 hab.size, hs.2.2.1.later hab, hs.2.2.2.below hab⟩)
    (fun c s A B hs hab => by
     obtain ⟨hc, pre, y, h1, h2, h3, h4, h5⟩ := hs
     exact ⟨hc, pre, y, h1, h2, h3, h4.later hab, h5.below hab⟩) ?start
    (fun y => { tmps := #[.slice A l.length cap, undef, .map none, .slice (some ⟨b0, o0, none⟩) l.length cap1, .pointer (some ⟨b + 1, 0, none⟩), x 5, .pointer (some ⟨g, 0, none⟩), .pointer (some ⟨g + 1, 0, none⟩), .pointer (some ⟨g + 1 + 1, 0, none⟩), .int .i64 y.1, .bool y.2, x 11, x 12, x 13, x 14, .slice A l.length cap, .slice (some ⟨b0, o0, none⟩) l.length cap1, .slice A l.length cap, .int .i64 (l.length : Int), .map (some b), .slice (some ⟨b0, o0, none⟩) l.length cap1, .int .i64 (l.length : Int), .int .i64 (k : Int), .bool true, .pointer (some ⟨b0, o0 + k * 4, none⟩), .agg #[.int .i64 (ch r), .int .i64 (pa r), .string (ba (nm r)), .float .f64 (rk r)], .slice (some ⟨b0, o0, none⟩) l.length cap1, .pointer (some ⟨g, 0, none⟩), .int .i64 (ch r), .func (.func 68) #[] #[.pointer (some ⟨g + 3 + 1, 0, none⟩), .pointer (some ⟨g + 3, 0, none⟩)], .int .i64 y.1, .bool y.2, x 32, x 33, x 34, x 35, x 36, x 37, x 38, x 39, x 40, x 41, x 42, x 43, x 44, x 45, x 46, x 47, x 48, x 49, x 50, x 51, x 52, x 53, x 54, x 55, x 56, x 57, x 58, x 59, x 60, x 61], defers := [] }) ?assign ?body ?done ?stop
   case start => exact ⟨⟨List.nodup_nil, fun y hy => (by cases hy)⟩, by omega, HE5.out, HMK.out.1⟩
   case assign =>
    intro lp y W' Q hQ
    unfold upArr
    gi_wp2
    exact hQ
   case body =>
    rintro lp pre y W' hok ⟨⟨hnd, hno⟩, hsW, hE, hmk⟩ hlen
    obtain ⟨D, hm, hD⟩ := hE.map
    have hin : In64 y.1 := chn_in64 HI.out _ _ HCH.out y (hok.subset (by simp))
    have hlk := look_e hm hD hin
    have hcb := hE.bx.cell
    have HOK := Lib.hid hok
    have HMK2 := Lib.hid hmk
    have HNO := Lib.hid (And.intro hnd hno)
    have HEE := Lib.hid hE
    have HIN := Lib.hid hin
    clear hok hmk hnd hno hE hin
    cases hkk : preK K pre y.1 with
    | some v =>
     rw [hkk] at hlk
     have hlk2 : (Instr.lookup 52 (.map (some b)) (.int .i64 y.1) true).run Tryz.prog W' = .ok (.tuple #[.agg #[.int .i64 v.1, .bool v.2], .bool true]) W' := hlk
     have hEa := HEE.out.alloc (.cells #[.int .i64 v.1, .bool v.2] 56)
     have c0 := is_cell hEa.to 0
     have c1 := is_cell hEa.to 1
     have f0 := is_free hEa.to 0
     have f1 := is_free hEa.to 1
     have t0 := is_set hEa.to 0 (.int .i64 v.1)
     have c1' := is_cell t0 1
     have f1' := is_free t0 1
     simp only [List.getElem?_cons_zero, List.getElem?_cons_succ, List.set_cons_zero] at c0 c1 c1'
     have HKK := Lib.hid hkk
     have HEA := Lib.hid hEa
     clear hkk hlk hEa t0 hm hD
     gi_wp2_with fail
     refine ⟨((KeepsOthers.alloc _ _).trans ((KeepsOthers.setCell _ _ _).trans (KeepsOthers.setCell _ _ _))).from _, rfl, pre, y, rfl, HNO.out.2, ?_, ?_, ((HMK2.out.others (KeepsOthers.alloc _ _)).others (KeepsOthers.setCell _ _ _)).others (KeepsOthers.setCell _ _ _)⟩
     ·by_cases hp : y.1 ∈ pre.map (·.1)
      ·exact .inr hp
      ·have := HKK.out
       rw [preK_out hp] at this
       exact .inl (by rw [this, HE.out.right _ _ this])
     ·have hv : endE l y.1 = (v.1, v.2) := by
       by_cases hp : y.1 ∈ pre.map (·.1)
       ·have := HKK.out
        rw [preK_in hp] at this
        cases this
        exact chn_again HOK.out hp
       ·have := HKK.out
        rw [preK_out hp] at this
        exact (HE.out.right _ _ this).symm
      rw [hv]
      exact HEA.out.setTo HB.out (by omega) (by omega) v.1 v.2
    | none =>
     have hyp : y.1 ∉ pre.map (·.1) := fun h => by rw [preK_in h] at hkk; cases hkk
     have hky : K y.1 = none := by rw [← hkk]; exact (preK_out hyp).symm
     rw [hkk] at hlk
     have hlk2 : (Instr.lookup 52 (.map (some b)) (.int .i64 y.1) true).run Tryz.prog W' = .ok (.tuple #[.agg #[.int .i64 0, .bool false], .bool false]) W' := hlk
     obtain ⟨Wa, hWa⟩ : ∃ Wa, Wa = W'.alloc (.cells #[.int .i64 0, .bool false] 56) := ⟨_, rfl⟩
     have hEa : EI w1 b (g + 1) (g + 2) (preK K pre) (n + pre.length) (pre.map (·.1)) (toOf pre) Wa := by rw [hWa]; exact HEE.out.alloc _
     obtain ⟨Da, hma, hDa⟩ := hEa.map
     obtain ⟨wb, Db, hrb, hmb, hDb, hgb⟩ := put_e (v := (0, false)) hma hDa (by omega) HIN.out
     have hrb2 : (Instr.mapUpdate 52 (.map (some b)) (.int .i64 y.1) (.agg #[.int .i64 0, .bool false])).run Tryz.prog Wa = .ok () wb := hrb
     have hEb := hEa.grown hgb HB.out (by omega) (by omega) ⟨Db, hmb, hDb⟩
     have hka : KeepsOthers W' Wa := by rw [hWa]; exact KeepsOthers.alloc _ _
     have hca := hEa.bx.cell
     rw [← preK_snoc] at hEb
     obtain ⟨vr, hv, hrow⟩ := hEb.row
     rw [toOf_ahead HOK.out] at hEb
     have hcv := hv.cell
     have hbs : b + 2 ≤ wb.heap.size := by have := hEb.bx.lt; omega
     have hws : g + 1 + 4 ≤ wb.heap.size := by
      have q1 : W'.heap.size ≤ Wa.heap.size := by rw [hWa]; simp
      have q2 := hgb.size
      omega
     have hpl : pre.length ≤ 1001 := by omega
     obtain ⟨i0, hi, hz0, hz1, hz2⟩ := info_parts Tryz.info3
     have HEB := Lib.hid hEb
     have HWA := Lib.hid hWa
     have HGB := Lib.hid (And.intro hka hgb)
     have HYP := Lib.hid (And.intro hyp hky)
     clear hkk hlk hma hDa hmb hDb hEa hEb hWa hrb hm hD hka hgb hyp hky
     have hsz : wb.heap.size = Wa.heap.size ∨ True := .inr trivial
     have hfin : ∀ W9, EI w1 b (g + 1) (g + 2) (preK K (pre ++ [y])) (n + pre.length + 1) ((pre.map (·.1)) ++ [y.1]) (toOf (pre ++ [y])) W9 → KeepsOthers wb W9 → Below (b + 2) wb W9 → W9.heap[g + 3]? = wb.heap[g + 3]? → KeepsFrom (g + 5) W' W9 ∧ KeepB w1.heap.size (g + 3) W' W9 ∧ EGo w w1 b g n K ds (pre ++ [y]) W9 := by
      intro W9 h1 h2 h3 h4
      have hbw : b = w1.heap.size := HB.out
      have h35 : b < g + 5 := by omega
      have k1 : KeepsFrom (g + 5) Wa wb := KeepsFrom.of_grownBy HGB.out.2 (fun j e => by cases e; exact h35)
      have kb : Below w1.heap.size Wa wb := by
       have hg := HGB.out.2
       have h9 : w1.heap.size ≤ Wa.heap.size := by rw [HWA.out]; have := HEE.out.bel.size; simp only [World.size_alloc]; omega
       exact ⟨hg.os, hg.tape, hg.output, hg.size, fun i hi => hg.block i (by omega) (fun e => by injection e; omega)⟩
      have ka : Below w1.heap.size W' Wa := by rw [HWA.out]; exact (Below.refl _ _).alloc HEE.out.bel.size _
      have hgs : g + 3 < W'.heap.size := by omega
      refine ⟨((HGB.out.1.from _).trans k1).trans (h2.from _), ⟨(ka.trans kb).trans (h3.mono (by omega)), ?_⟩, ⟨⟨?_, ?_⟩, ?_, ?_, ?_⟩⟩
      ·rw [h4, HGB.out.2.block (g + 3) (by rw [HWA.out]; simp only [World.size_alloc]; omega) (fun e => by injection e; omega), HWA.out]
       exact Below.heap_alloc _ _ _ hgs
      ·rw [List.map_append, List.nodup_append]
       exact ⟨HNO.out.1, by simp, fun a ha c hc => by simp at hc; subst hc; exact fun e => HYP.out.1 (e ▸ ha)⟩
      ·intro z hz
       rw [List.map_append] at hz
       rcases List.mem_append.1 hz with hz | hz
       ·exact HNO.out.2 z hz
       ·simp at hz; rw [hz]; exact HYP.out.2
      ·have q1 : W'.heap.size ≤ Wa.heap.size := by rw [HWA.out]; simp
       have q2 := HGB.out.2.size
       have q3 := h3.size
       omega
      ·rw [List.map_append, List.length_append]
       exact h1
      ·refine Marks.others h2 (Marks.grown (B := W5.heap.size) (fun D hD hx => (HGB.out.2.block D (Array.getElem?_eq_some_iff.1 hx).1 (fun e => ?_)).trans hx) (by rw [hs5]; exact HMK.out.2) (HMK2.out.others HGB.out.1))
       have e2 : D = b := by injection e
       rw [e2] at hx
       obtain ⟨D', hm', hD'⟩ := (show EI w1 b (g + 1) (g + 2) (preK K pre) (n + pre.length) (pre.map (·.1)) (toOf pre) Wa by rw [HWA.out]; exact HEE.out.alloc _).map
       obtain ⟨es, clock, hb', _⟩ := hm'
       rw [hb'] at hx
       cases hx
     have HFIN := Lib.hid hfin
     clear hfin
     rw [HWA.out] at hca hrb2
     obtain ⟨y1, y2⟩ := y
     simp only at hlk2 hrb2 hcv
     cases y2 with
     | true =>
      gi_wp2_with (first
       | (gi_at_builtin; refine wpListIn_append_own _ rfl _ _ 36 rfl (g + 1 + 4) 3 i0 (.int .i64 0) 1 8 Tryz.underlying36 hi hz0 hz1 hz2 rfl (by decide) _ _ _ rfl (hrow.alloc _) ⟨wb.heap.size, 0, none⟩ 1 1 [.int .i64 y1] rfl rfl (cell_one_new _ _ _) (by simp [Value.oneCell']) (by rw [List.length_map]; unfold maxLen; omega) (by rw [List.length_map]; omega) (by simp; omega) ?_; intro v' w2 hown' hgrow _; obtain ⟨g', cap', rfl⟩ := ownsRow_succ hown'; obtain ⟨hEd, hb2, hk2, hk3⟩ := HEB.out.app HB.out (by omega) (by omega) hv hrow hown' hgrow hws; simp only [List.length_map] at hEd hb2 hk2 hk3; have hv1 : Boxed w2 (g + 1) 36 vr := (hv.alloc _).kept hgrow (hv.not_row (by decide) hrow); have hc1 := hv1.cell; have hf1 := hv1.frozen; have d0 := is_cell hEd.to 0; have z0 := is_free hEd.to 0; have hs1 := is_set hEd.to 0 (.int .i64 y1); have d1 := is_cell hs1 1; have z1 := is_free hs1 1; simp only [List.getElem?_cons_zero, List.getElem?_cons_succ, List.set_cons_zero] at d0 d1)
       | fail)
      refine HFIN.out _ ?_ ((hk2.trans (KeepsOthers.setCell _ _ _)).trans (KeepsOthers.setCell _ _ _)) ((hb2.setCell (p := ⟨g + 1 + 1, 0, none⟩) (by show b + 2 ≤ g + 1 + 1; omega) _).setCell (p := ⟨g + 1 + 1, 1, none⟩) (by show b + 2 ≤ g + 1 + 1; omega) _) ?_
      ·rw [toOf_snoc, if_pos rfl]
       exact hEd.setTo HB.out (by omega) (by omega) y1 true
      ·exact (Below.heap_setCell _ _ _ (g + 3) (by show g + 3 ≠ g + 1 + 1; omega)).trans ((Below.heap_setCell _ _ _ (g + 3) (by show g + 3 ≠ g + 1 + 1; omega)).trans hk3)
     | false =>
      gi_wp2_with (first
       | (gi_at_builtin; refine wpListIn_append_own _ rfl _ _ 36 rfl (g + 1 + 4) 3 i0 (.int .i64 0) 1 8 Tryz.underlying36 hi hz0 hz1 hz2 rfl (by decide) _ _ _ rfl (hrow.alloc _) ⟨wb.heap.size, 0, none⟩ 1 1 [.int .i64 y1] rfl rfl (cell_one_new _ _ _) (by simp [Value.oneCell']) (by rw [List.length_map]; unfold maxLen; omega) (by rw [List.length_map]; omega) (by simp; omega) ?_; intro v' w2 hown' hgrow _; obtain ⟨g', cap', rfl⟩ := ownsRow_succ hown'; obtain ⟨hEd, hb2, hk2, hk3⟩ := HEB.out.app HB.out (by omega) (by omega) hv hrow hown' hgrow hws; have hv1 : Boxed w2 (g + 1) 36 vr := (hv.alloc _).kept hgrow (hv.not_row (by decide) hrow); have hc1 := hv1.cell; have hf1 := hv1.frozen)
       | fail)
      simp only [List.length_map] at hEd hb2 hk2 hk3
      exact HFIN.out _ (by rw [toOf_snoc, if_neg (by decide)]; exact hEd) hk2 hb2 hk3
   case done =>
    rintro D ys W' hD rfl ⟨⟨hnd, hno⟩, -, hE, hmk⟩ hK
    refine ⟨.inl rfl, (chn l (l.length + 1) (ch r)).map (·.1), D, n + (chn l (l.length + 1) (ch r)).length, rfl, ?_, ?_, ?_, .inl ?_, ?_, hK, by omega, hmk⟩
    ·have := chn_len l (l.length + 1) (ch r); omega
    ·rw [List.length_map]; exact chn_len l _ _
    ·intro y hy
     obtain ⟨z, hz, rfl⟩ := List.mem_map.1 hy
     exact ⟨chn_in64 HI.out _ _ HCH.out z hz, chn_const hz⟩
    ·rw [chn]; simp
    ·have := hE; rw [chn_done hnd] at this; exact this
   case stop =>
    rintro D c pre W' hD hpre ⟨rfl, pre2, y, rfl, hno, hy, hE, hmk⟩ hK
    have hsub : ∀ z ∈ pre2, z ∈ chn l (l.length + 1) (ch r) := fun z hz => hpre.subset (List.mem_append_left _ hz)
    have hyc : endE l y.1 = endE l (ch r) := chn_const (hpre.subset (by simp))
    rw [hyc] at hE
    have hl2 : pre2.length ≤ l.length + 1 := by
     have h1 := hpre.length_le
     have h2 := chn_len l (l.length + 1) (ch r)
     rw [List.length_append] at h1
     omega
    refine wpIn_exit ⟨.inr rfl, pre2.map (·.1), D, n + pre2.length, rfl, by omega, by rw [List.length_map]; exact hl2, ?_, ?_, hE, hK, by omega, hmk⟩
    ·intro z hz
     obtain ⟨u, hu, rfl⟩ := List.mem_map.1 hz
     exact ⟨chn_in64 HI.out _ _ HCH.out u (hsub u hu), chn_const (hsub u hu)⟩
    ·cases pre2 with
     | nil =>
      right
      have := chn_head (show y :: [] <+: chn l (l.length + 1) (ch r) from hpre)
      rcases hy with hy | hy
      ·rw [← this, hy]; rfl
      ·cases hy
     | cons z t =>
      left
      have := chn_head (show z :: (t ++ [y]) <+: chn l (l.length + 1) (ch r) from hpre)
      rw [← this]; simp
  case rest =>
   rintro e' a' W' ⟨he, path, D, n', rfl, hn', hpl, hpa, hcp, hE', hD1, hD2, hmk'⟩
   obtain ⟨E, hEq⟩ : ∃ E, E = endE l (ch r) := ⟨_, rfl⟩
   rw [← hEq] at hE'
   have hpa' : ∀ y ∈ path, In64 y ∧ endE l y = E := by rw [hEq]; exact hpa
   obtain ⟨vr, hv, hrow⟩ := hE'.row
   obtain ⟨Av, capv, rfl, hatv, hfrv, hcpv⟩ := own_at hrow
   have hcv := hv.cell
   have HE' := Lib.hid hE'
   have HM' := Lib.hid (And.intro hD1 hmk')
   have HP' := Lib.hid (And.intro hpa' hcp)
   have HEQ := Lib.hid hEq
   have HAV := Lib.hid hatv
   clear hE' hD1 hmk' hpa hpa' hcp hEq hatv hfrv hcpv hrow hv
   rcases he with rfl | rfl
   all_goals
    gi_wp2_with fail
    gi_loopw [52] (fun i wr => ∃ (j n2 : Nat), i = .int .i64 (j : Int) ∧ j ≤ path.length ∧ n2 ≤ n' + j ∧ EI w1 b (g + 1) (g + 2) (setK (setK K path (0, false)) (path.take j) E) n2 path E wr ∧ At wr wr.heap.size Av (ivs path) ∧ wr.heap[D]? = some (.deferred (some [])) ∧ Marks w.heap.size ds wr)
     (fun i _ => path.length - (Go.RowKit.intOf i).toNat)
    case atStart => exact ⟨0, n', rfl, Nat.zero_le _, by omega, HE'.out, HAV.out, HM'.out.1, HM'.out.2⟩
    case round =>
     rename World => wr
     obtain ⟨j, n2, rfl, hj, hn2, hE2, hat2, hD3, hmk2⟩ := hrel
     have HE2 := Lib.hid hE2
     have HAT2 := Lib.hid hat2
     have HM3 := Lib.hid (And.intro hD3 hmk2)
     clear hE2 hat2 hD3 hmk2
     by_cases hlt2 : j < path.length
     ·obtain ⟨y, hy⟩ := some_at hlt2
      obtain ⟨b2, o2, rfl, -, hcell⟩ := HAT2.out j (.int .i64 y) (by unfold ivs; rw [List.getElem?_map, hy]; rfl)
      obtain ⟨Dm, hm, hDm⟩ := HE2.out.map
      obtain ⟨wb, Db, hrb, hmb, hDb, hgb⟩ := put_e (v := E) hm hDm (by omega) (HP'.out.1 y (mem_at hy)).1
      have hrb2 : (Instr.mapUpdate 52 (.map (some b)) (.int .i64 y) (.agg #[.int .i64 E.1, .bool E.2])).run Tryz.prog wr = .ok () wb := hrb
      have hcb := HE2.out.bx.cell
      have c0 := is_cell HE2.out.to 0
      have c1 := is_cell HE2.out.to 1
      simp only [List.getElem?_cons_zero, List.getElem?_cons_succ] at c0 c1
      have hj0 : (0 : Int) ≤ (j : Int) := by omega
      have hjl : (j : Int) < (path.length : Int) := by omega
      have hEn := HE2.out.grown hgb HB.out (by omega) (by omega) ⟨Db, hmb, hDb⟩
      have htk : path.take (j + 1) = path.take j ++ [y] := by rw [List.take_add_one, hy]; rfl
      rw [← setK_snoc, ← htk] at hEn
      have hatn : At wb wb.heap.size (some ⟨b2, o2, none⟩) (ivs path) := fun i u hu => by
       obtain ⟨b3, o3, he3, hb3, hc3⟩ := HAT2.out i u hu
       cases he3
       refine ⟨_, _, rfl, Nat.lt_of_lt_of_le hb3 hgb.size, ?_⟩
       rw [World.cell?_of_block (hgb.block _ hb3 (fun e => ?_))]
       ·exact hc3
       ·have e2 : b2 = b := by injection e
        obtain ⟨es, clock, hb', _⟩ := hm
        rw [e2] at hc3
        simp [World.cell?, hb'] at hc3
      have hDn : wb.heap[D]? = some (.deferred (some [])) := (hgb.block D (Array.getElem?_eq_some_iff.1 HM3.out.1).1 (fun e => by injection e; omega)).trans HM3.out.1
      have hmn : Marks w.heap.size ds wb := Marks.kept (fun D' _ hx => (hgb.block D' (Array.getElem?_eq_some_iff.1 hx).1 (fun e => by
       have e2 : D' = b := by injection e
       obtain ⟨es, clock, hb', _⟩ := hm
       rw [e2, hb'] at hx
       cases hx)).trans hx) HM3.out.2
      have HN := Lib.hid (And.intro hEn (And.intro hatn (And.intro hDn hmn)))
      clear hrb hm hDm hmb hDb hgb hEn hatn hDn hmn htk hy
      gi_wp2_with fail
      go_roundw
      case rel => exact ⟨j + 1, n2 + 1, by simp, by omega, by omega, HN.out.1, HN.out.2.1, HN.out.2.2.1, HN.out.2.2.2⟩
      case measure => simp only [Go.RowKit.intOf]; omega
     ·obtain rfl : j = path.length := by omega
      have hEE := HE2.out
      rw [List.take_length] at hEE
      have hat : ∀ c, setK (setK K path (0, false)) path E c = if c ∈ path then some E else K c := fun c => by
       rw [setK_at, setK_at]
       by_cases h : c ∈ path
       ·rw [if_pos h, if_pos h]
       ·rw [if_neg h, if_neg h, if_neg h]
      have hEO : EO w w1 l b (setK (setK K path (0, false)) path E) n2 (k + 1) ({ target := .collected D, args := #[] } :: ds) wr := by
       refine ⟨hEE.bx, hEE.map, fun c v hv => ?_, fun i r' hi' hr' => ?_, ⟨D, rfl, by omega, HM3.out.1, fun e he => HMK.out.2 e he D hD2, HM3.out.2⟩, hEE.bel⟩
       ·rw [hat] at hv
        by_cases h : c ∈ path
        ·rw [if_pos h] at hv
         cases hv
         exact (HP'.out.1 c h).2.symm
        ·rw [if_neg h] at hv
         exact HE.out.right c v hv
       ·rw [hat]
        by_cases h : ch r' ∈ path
        ·rw [if_pos h]; rfl
        ·rw [if_neg h]
         by_cases hik : i < k
         ·exact HE.out.done i r' hik hr'
         ·have e1 : i = k := by omega
          rw [e1, HR.out] at hr'
          cases hr'
          rcases HP'.out.2 with h2 | h2
          ·exact absurd h2 h
          ·exact h2
      have HEO := Lib.hid hEO
      clear hEE hat hEO
      gi_wp2_with fail
      refine ⟨⟨k + 1, n2, setK (setK K path (0, false)) path E, rfl, by omega, by omega, HEO.out⟩, ?_⟩
      show l.length - ((k : Int) + 1).toNat < l.length - ((k : Int)).toNat
      omega
 ·obtain rfl : k = l.length := by omega
  have hnl : ¬ ((l.length : Int) < (l.length : Int)) := by omega
  have hcb := HE.out.bx.cell
  gi_wp2_with fail
  obtain ⟨D0, hm0, hD0⟩ := HE.out.map
  have hall : ∀ r ∈ l, K (ch r) = some (endE l (ch r)) := fun r hr => by
   obtain ⟨i, hi⟩ := List.mem_iff_getElem?.1 (srt_mem.2 hr)
   have hil : i < l.length := by rw [← srt_len l]; exact (List.getElem?_eq_some_iff.1 hi).1
   have h1 := HE.out.done i r hil hi
   cases hk2 : K (ch r) with
   | none => rw [hk2] at h1; cases h1
   | some v => rw [HE.out.right _ _ hk2]
  have hbw : Below w.heap.size w W := HB1.out.trans (HE.out.bel.mono HB1.out.size)
  have HALL := Lib.hid hall
  clear hall
  refine leaves_marks (base := w.heap.size) (fun W' => W'.ownsMap Tryz.prog 3 RE b n D0 ∧ Below w.heap.size w W') (fun W' D h hD hx => ⟨?_, ?_⟩) (fun W' h => ?_) (fun W' h => ⟨b, rfl, D0, ⟨n, h.1⟩, K, hD0, fun _ _ _ _ hr => HALL.out _ hr, hbs, h.2⟩) ds W HE.out.marks ⟨hm0, hbw⟩
  ·obtain ⟨es, clock, hb', F, hs, hDD⟩ := h.1
   refine ⟨es, clock, (World.putObj_heap_other (fun e => ?_)).trans hb', F, hs, hDD⟩
   rw [e, hx] at hb'
   cases hb'
  ·exact h.2.trans (belowK_b (Nat.le_refl _) W' D _ _ hD hx rfl rfl)
  ·simp [results, Tryz.f39, go_sem]
end Go.Proofs.YtkobmnbjeppnaaaGreat
