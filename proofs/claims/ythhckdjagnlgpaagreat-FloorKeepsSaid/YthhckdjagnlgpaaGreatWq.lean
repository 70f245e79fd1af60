/-
 Replicas: what stays so, whatever comes, or is settled: plain.
-/
import Derived.Test.YthhckdjagnlgpaaGreatVy
import Derived.Test.YthhckdjagnlgpaaGreatWd
namespace Go.Proofs.YthhckdjagnlgpaaGreat
open Gr
set_option maxRecDepth 100000
theorem befT_iff {a b c d : Int} : befT a b c d = true ↔ a < c ∨ (a = c ∧ b < d) := by simp [befT]
theorem befT_no {a b c d : Int} : befT a b c d = false ↔ ¬ (a < c ∨ (a = c ∧ b < d)) := by
 rw [← befT_iff]; simp
theorem befM_iff {c r : Int} {m : Mv} : befM c r m = true ↔ c < mc m ∨ (c = mc m ∧ r < mr m) := befT_iff
theorem oneM_facts {m : Mv} (h : oneM m = true) : 1 ≤ mc m ∧ mc m ≤ 4611686018427387903 ∧ 1 ≤ mr m ∧ mr m ≤ 255 := by
 unfold oneM at h
 simp only [Bool.and_eq_true, decide_eq_true_eq] at h
 exact ⟨h.1, h.2.1, h.2.2.1, h.2.2.2.1⟩
/-- a replica that may be -/
structure MayR (r : Rp) : Prop where
 t : Tree r.B
 n : r.L.length ≤ 2000
 o : ∀ m ∈ r.L, oneM m = true
 a : Asc r.L
 rv : RanK r.V
 av : AscK r.V
 s : ∀ m ∈ r.L, befM r.fc r.fr m = true
 b : ∀ q, topM r.L q ≤ getK r.V q
 z : zeroT r.fc r.fr = true ∨ knownK r.V r.fc r.fr = true
theorem mayR_iff {r : Rp} : mayF r = true ↔ MayR r := by
 rw [mayF_iff, mayB_tree, mayM_iff, mayK_iff]
 constructor
 ·rintro ⟨h1, ⟨h2, h3, h4⟩, ⟨h5, h6⟩, h7, h8, h9⟩
  refine ⟨h1, h2, h3, h4, h5, h6, fun m hm => ?_, fun q => ?_, h9⟩
  ·rw [← h7] at hm
   exact (List.mem_filter.1 hm).2
  ·rw [← getK_of]; exact (belowK_iff h5.pos).1 h8 q
 ·intro h
  refine ⟨h.t, ⟨h.n, h.o, h.a⟩, ⟨h.rv, h.av⟩, List.filter_eq_self.2 h.s, ?_, h.z⟩
  rw [belowK_iff h.rv.pos]
  intro q
  rw [getK_of]; exact h.b q
theorem knownK_iff {v : List Mk} {c r : Int} : knownK v c r = true ↔ 0 < c ∧ c ≤ getK v r := by simp [knownK]
theorem knownK_up {v u : List Mk} {c r : Int} (h : knownK v c r = true) (hu : getK v r ≤ getK u r) : knownK u c r = true := by
 rw [knownK_iff] at *; omega
theorem topM_bound {l : List Mv} {q n : Int} (h0 : 0 ≤ n) (h : ∀ m ∈ l, mr m = q → mc m ≤ n) : topM l q ≤ n := by
 by_cases hp : 0 < topM l q
 ·obtain ⟨m, hm, e1, e2⟩ := topM_is hp
  have := h m hm e1
  omega
 ·omega
theorem met_time {l : List Mv} {m : Mv} (h : (insM l m).2.2 = false) : ∃ y ∈ l, timeEq y m = true := by
 rw [ins_met] at h
 simpa using h
/-- how a move that is added changes a replica -/
theorem add_cases (r : Rp) (m : Mv) :
  (oneM m = false ∧ addG r m = (r, false, 1)) ∨ (oneM m = true ∧ befM r.fc r.fr m = false ∧ addG r m = (r, false, 9)) ∨
  (oneM m = true ∧ befM r.fc r.fr m = true ∧ (insM r.L m).2.2 = false ∧ addG r m = (r, false, 0)) ∨
  (oneM m = true ∧ befM r.fc r.fr m = true ∧ (insM r.L m).2.2 = true ∧ addG r m = ({ r with L := (insM r.L m).1, V := raiseK r.V (mc m) (mr m) }, true, 0)) := by
 unfold addG
 cases h1 : oneM m with
 | false => exact .inl ⟨rfl, by rw [if_pos rfl]⟩
 | true =>
  rw [if_neg (by decide)]
  cases h2 : befM r.fc r.fr m with
  | false => exact .inr (.inl ⟨rfl, rfl, by rw [if_pos (show befT r.fc r.fr (mc m) (mr m) = false from h2)]⟩)
  | true =>
   rw [if_neg (by rw [show befT r.fc r.fr (mc m) (mr m) = true from h2]; decide)]
   cases h3 : (insM r.L m).2.2 with
   | false => exact .inr (.inr (.inl ⟨rfl, rfl, rfl, by rw [if_pos rfl]⟩))
   | true => exact .inr (.inr (.inr ⟨rfl, rfl, rfl, by rw [if_neg (by decide)]⟩))
theorem known_of {r : Rp} (h : MayR r) {m : Mv} (hm : (insM r.L m).2.2 = false) : mc m ≤ getK r.V (mr m) := by
 obtain ⟨y, hy, ht⟩ := met_time hm
 rw [timeEq_iff] at ht
 have h1 := topM_le hy
 have h2 := h.b (mr y)
 rw [← ht.1, ← ht.2]
 omega
theorem may_add {r : Rp} (h : MayR r) (m : Mv) (hl : r.L.length < 2000) : MayR (addG r m).1 := by
 rcases add_cases r m with ⟨_, e⟩ | ⟨_, _, e⟩ | ⟨_, _, _, e⟩ | ⟨h1, h2, h3, e⟩
 ·rw [e]; exact h
 ·rw [e]; exact h
 ·rw [e]; exact h
 ·rw [e]
  obtain ⟨c1, c2, c3, c4⟩ := oneM_facts h1
  have hup : ∀ q, getK r.V q ≤ getK (raiseK r.V (mc m) (mr m)) q := fun q => by
   rw [getK_raise]; split
   ·next hq => rw [hq]; omega
   ·omega
  have hran := raiseK_ran (v := r.V) (c := mc m) (r := mr m) h.rv ⟨c3, c4⟩ c2
  refine ⟨h.t, ?_, insM_one h.o h1, insM_asc m h.a, hran, raiseK_asc _ _ h.av, fun x hx => ?_, fun q => ?_, ?_⟩
  ·have := insM_len r.L m; show (insM r.L m).1.length ≤ 2000; omega
  ·rcases insM_mem hx with hx | rfl
   ·exact h.s x hx
   ·exact h2
  ·refine topM_bound (getK_nn hran.pos q) fun x hx hq => ?_
   show mc x ≤ getK (raiseK r.V (mc m) (mr m)) q
   rcases insM_mem hx with hx | rfl
   ·have h1 := topM_le hx
    have h2 := h.b (mr x)
    have h3 := hup q
    rw [hq] at h1 h2
    omega
   ·rw [getK_raise, if_pos hq.symm]; omega
  ·rcases h.z with hz | hz
   ·exact .inl hz
   ·exact .inr (knownK_up hz (hup _))
theorem addF_may {r : Rp} (h : MayR r) (m : Mv) : addF r m = addG r m := by
 unfold addF
 rw [if_neg (by rw [mayR_iff.2 h]; decide)]
/-- those that are not behind a time -/
def outM (l : List Mv) (c r : Int) : List Mv := l.filter fun m => !befM c r m
theorem out_sin {l : List Mv} (h : Asc l) (c r : Int) : l.take (l.length - (sinM l c r).length) = outM l c r ∧ outM l c r ++ sinM l c r = l := by
 obtain ⟨k, hk, e, h1, h2⟩ := sinM_cut c r h
 have ho : outM l c r = l.take k := by
  unfold outM
  rw [← List.take_append_drop k l, List.filter_append, List.take_append_drop, List.filter_eq_self.2 (fun x hx => by rw [h1 x hx]; rfl), List.filter_eq_nil_iff.2 (fun x hx => by rw [h2 x hx]; decide), List.append_nil]
 refine ⟨?_, ?_⟩
 ·rw [ho, e, List.length_drop, show l.length - (l.length - k) = k by omega]
 ·rw [ho, e, List.take_append_drop]
/-- how a replica is pruned -/
theorem prune_cases {r : Rp} (h : MayR r) (c q : Int) :
  (knownK r.V c q = false ∧ pruneF r c q = (r, 1)) ∨ (knownK r.V c q = true ∧ befT r.fc r.fr c q = false ∧ pruneF r c q = (r, 0)) ∨
  (knownK r.V c q = true ∧ befT r.fc r.fr c q = true ∧ pruneF r c q = ({ B := allP r.B (outM r.L c q), fc := c, fr := q, L := sinM r.L c q, V := r.V }, 0)) := by
 unfold pruneF
 rw [if_neg (by rw [mayR_iff.2 h]; decide), (out_sin h.a c q).1]
 cases h1 : knownK r.V c q with
 | false => exact .inl ⟨rfl, by rw [if_pos rfl]⟩
 | true =>
  rw [if_neg (by decide)]
  cases h2 : befT r.fc r.fr c q with
  | false => exact .inr (.inl ⟨rfl, rfl, by rw [if_pos rfl]⟩)
  | true => exact .inr (.inr ⟨rfl, rfl, by rw [if_neg (by decide)]⟩)
theorem may_prune {r : Rp} (h : MayR r) (c q : Int) (hl : r.B.length + r.L.length ≤ 2000) : MayR (pruneF r c q).1 := by
 rcases prune_cases h c q with ⟨_, e⟩ | ⟨_, _, e⟩ | ⟨h1, h2, e⟩
 ·rw [e]; exact h
 ·rw [e]; exact h
 ·rw [e]
  have hs : ∀ m ∈ sinM r.L c q, m ∈ r.L := fun m hm => (List.mem_filter.1 hm).1
  have ho : ∀ m ∈ outM r.L c q, m ∈ r.L := fun m hm => (List.mem_filter.1 hm).1
  have hn : (outM r.L c q).length ≤ r.L.length := List.length_filter_le _ _
  refine ⟨all_tree h.t (fun m hm => h.o m (ho m hm)) (by omega), Nat.le_trans (List.length_filter_le _ _) h.n, fun m hm => h.o m (hs m hm), h.a.sublist List.filter_sublist, h.rv, h.av, fun m hm => (List.mem_filter.1 hm).2, fun x => ?_, .inr h1⟩
  refine topM_bound (getK_nn h.rv.pos x) fun m hm hx => ?_
  have h3 := topM_le (hs m hm)
  have h4 := h.b (mr m)
  rw [hx] at h3 h4
  show mc m ≤ getK r.V x
  omega
theorem prune_marks (r : Rp) (c q : Int) : (pruneF r c q).1.V = r.V := by
 unfold pruneF
 split
 ·rfl
 ·split
  ·rfl
  ·split <;> rfl
/-- what is pruned is behind what was asked, or was so -/
theorem prune_floor {r : Rp} (h : MayR r) {c q : Int} (h0 : (pruneF r c q).2 = 0) : knownK r.V c q = true ∧ befT (pruneF r c q).1.fc (pruneF r c q).1.fr c q = false := by
 rcases prune_cases h c q with ⟨_, e⟩ | ⟨h1, h2, e⟩ | ⟨h1, h2, e⟩
 ·rw [e] at h0; exact absurd h0 (by show ¬ (1 : Int) = 0; decide)
 ·rw [e]; exact ⟨h1, h2⟩
 ·rw [e]; exact ⟨h1, by show befT c q c q = false; rw [befT_no]; omega⟩
theorem prune_not_less {r : Rp} (h : MayR r) (c q : Int) : befT (pruneF r c q).1.fc (pruneF r c q).1.fr r.fc r.fr = false := by
 rcases prune_cases h c q with ⟨_, e⟩ | ⟨h1, h2, e⟩ | ⟨h1, h2, e⟩
 ·rw [e]; show befT r.fc r.fr r.fc r.fr = false; rw [befT_no]; omega
 ·rw [e]; show befT r.fc r.fr r.fc r.fr = false; rw [befT_no]; omega
 ·rw [e]; show befT c q r.fc r.fr = false; rw [befT_no]; rw [befT_iff] at h2; omega
theorem prune_err {r : Rp} (h : MayR r) {c q : Int} (h0 : ¬ (pruneF r c q).2 = 0) : (pruneF r c q).1 = r := by
 rcases prune_cases h c q with ⟨_, e⟩ | ⟨h1, h2, e⟩ | ⟨h1, h2, e⟩
 ·rw [e]
 ·rw [e]
 ·rw [e] at h0; exact absurd rfl h0
theorem prune_code {r s : Rp} (h : MayR r) (hs : MayR s) (hv : s.V = r.V) (c q : Int) : (pruneF s c q).2 = (pruneF r c q).2 := by
 have k1 : (pruneF r c q).2 = if knownK r.V c q = true then 0 else 1 := by
  rcases prune_cases h c q with ⟨e1, e⟩ | ⟨e1, _, e⟩ | ⟨e1, _, e⟩ <;> rw [e, e1] <;> rfl
 have k2 : (pruneF s c q).2 = if knownK s.V c q = true then 0 else 1 := by
  rcases prune_cases hs c q with ⟨e1, e⟩ | ⟨e1, _, e⟩ | ⟨e1, _, e⟩ <;> rw [e, e1] <;> rfl
 rw [k1, k2, hv]
/-- a move behind a time, inserted: those at or ahead of it stay, those behind it take it -/
theorem ins_out {l : List Mv} (ha : Asc l) {c q : Int} {m : Mv} (hb : befM c q m = true) : (insM (sinM l c q) m).2.2 = (insM l m).2.2 ∧ sinM (insM l m).1 c q = (insM (sinM l c q) m).1 ∧ outM (insM l m).1 c q = outM l c q := by
 have hup : ∀ y, timeEq y m = true → befM c q y = true := fun y hy => by
  rw [timeEq_iff] at hy
  rw [befM_iff] at hb ⊢
  omega
 rcases insM_cases l m with ⟨k, x, hx, ht, _, e, _⟩ | ⟨h0, k, hk, hlo, hhi, e⟩
 ·have hxm : x ∈ sinM l c q := List.mem_filter.2 ⟨List.mem_of_getElem? hx, hup x ht⟩
  have h1 : (insM (sinM l c q) m).2.2 = false := by
   rw [ins_met]; simp only [Bool.not_eq_false', List.any_eq_true]; exact ⟨x, hxm, ht⟩
  refine ⟨by rw [h1, e], ?_, by rw [e]⟩
  rw [e, ins_old h1]
 ·have hd : ∀ y ∈ l.drop k, bm m y = true := by
   by_cases hkl : k < l.length
   ·have hy := hhi l[k] (List.getElem?_eq_getElem hkl)
    have hp : Asc (l.drop k) := ha.sublist (List.drop_sublist _ _)
    rw [List.drop_eq_getElem_cons hkl] at hp ⊢
    intro y hy2
    rcases List.mem_cons.1 hy2 with rfl | hy2
    ·exact hy
    ·have := (List.pairwise_cons.1 hp).1 y hy2
     exact bm_iff.2 ((bm_iff.1 hy).trans this)
   ·rw [List.drop_eq_nil_of_le (by omega)]; intro y hy; cases hy
  have hsp : sinM l c q = sinM (l.take k) c q ++ sinM (l.drop k) c q := by
   unfold sinM; rw [← List.filter_append, List.take_append_drop]
  have hop : outM l c q = outM (l.take k) c q ++ outM (l.drop k) c q := by
   unfold outM; rw [← List.filter_append, List.take_append_drop]
  have hins := insM_stop (l := sinM l c q) (m := m) (j := (sinM (l.take k) c q).length) (by rw [hsp, List.length_append]; omega) (fun y hy => h0 y (List.mem_filter.1 hy).1)
   (fun y hy => by rw [hsp, List.take_left] at hy; exact hlo y (List.mem_filter.1 hy).1) (by
    cases hf : sinM (l.drop k) c q with
    | nil => left; rw [hsp, hf, List.append_nil]
    | cons y t =>
     right
     refine ⟨y, by rw [hsp, hf, List.getElem?_append_right (Nat.le_refl _), Nat.sub_self]; rfl, ?_⟩
     have : y ∈ sinM (l.drop k) c q := by rw [hf]; exact List.mem_cons_self
     exact hd y (List.mem_filter.1 this).1)
  rw [hsp, List.take_left, List.drop_left, ← hsp] at hins
  refine ⟨by rw [hins, e], ?_, ?_⟩
  ·rw [e, hins]
   show sinM (l.take k ++ m :: l.drop k) c q = _
   unfold sinM
   rw [List.filter_append, List.filter_cons_of_pos hb]
  ·rw [e]
   show outM (l.take k ++ m :: l.drop k) c q = _
   rw [hop]
   unfold outM
   rw [List.filter_append, List.filter_cons_of_neg (by rw [hb]; decide)]
/-- b is a, settled up to a time -/
structure Kept (c q : Int) (a b : Rp) : Prop where
 ma : MayR a
 mb : MayR b
 f1 : b.fc = c
 f2 : b.fr = q
 le : befT c q a.fc a.fr = false
 l : b.L = sinM a.L c q
 t : b.B = allP a.B (outM a.L c q)
 v : b.V = a.V
theorem Kept.tree {c q : Int} {a b : Rp} (h : Kept c q a b) : treeF b = treeF a := by
 unfold treeF
 rw [h.t, h.l, ← allP_app, (out_sin h.ma.a c q).2]
theorem out_self {r : Rp} (h : MayR r) : sinM r.L r.fc r.fr = r.L ∧ outM r.L r.fc r.fr = [] :=
 ⟨List.filter_eq_self.2 h.s, List.filter_eq_nil_iff.2 fun x hx => by rw [h.s x hx]; decide⟩
theorem kept_start {r : Rp} (h : MayR r) (c q : Int) (hl : r.B.length + r.L.length ≤ 2000) : Kept (pruneF r c q).1.fc (pruneF r c q).1.fr r (pruneF r c q).1 := by
 have hm := may_prune h c q hl
 have hn := prune_not_less h c q
 rcases prune_cases h c q with ⟨_, e⟩ | ⟨_, _, e⟩ | ⟨h1, h2, e⟩
 ·rw [e] at hm hn ⊢
  exact ⟨h, h, rfl, rfl, hn, (out_self h).1.symm, by show r.B = allP r.B (outM r.L r.fc r.fr); rw [(out_self h).2]; rfl, rfl⟩
 ·rw [e] at hm hn ⊢
  exact ⟨h, h, rfl, rfl, hn, (out_self h).1.symm, by show r.B = allP r.B (outM r.L r.fc r.fr); rw [(out_self h).2]; rfl, rfl⟩
 ·rw [e] at hm hn ⊢
  exact ⟨h, hm, rfl, rfl, hn, rfl, rfl, rfl⟩
theorem kept_step {c q : Int} {a b : Rp} (h : Kept c q a b) (m : Mv) (hm : befM c q m = true) (hl : a.L.length < 2000) : (addG b m).2 = (addG a m).2 ∧ Kept c q (addG a m).1 (addG b m).1 := by
 have hbf : befM b.fc b.fr m = true := by rw [h.f1, h.f2]; exact hm
 have haf : befM a.fc a.fr m = true := by
  have h1 := h.le
  rw [befT_no] at h1
  rw [befM_iff] at hm ⊢
  omega
 obtain ⟨i1, i2, i3⟩ := ins_out h.ma.a hm
 have hlb : b.L.length < 2000 := by rw [h.l]; exact Nat.lt_of_le_of_lt (List.length_filter_le _ _) hl
 have k1 := may_add h.ma m hl
 have k2 := may_add h.mb m hlb
 rcases add_cases a m with ⟨e1, e⟩ | ⟨_, e2, _⟩ | ⟨e1, _, e3, e⟩ | ⟨e1, _, e3, e⟩
 ·rcases add_cases b m with ⟨_, f⟩ | ⟨f1, _⟩ | ⟨f1, _⟩ | ⟨f1, _⟩
  ·rw [e, f]; exact ⟨rfl, h⟩
  all_goals rw [e1] at f1; cases f1
 ·rw [haf] at e2; cases e2
 ·rcases add_cases b m with ⟨f1, _⟩ | ⟨_, f2, _⟩ | ⟨f1, _, f3, f⟩ | ⟨f1, _, f3, f⟩
  ·rw [e1] at f1; cases f1
  ·rw [hbf] at f2; cases f2
  ·rw [e, f]; exact ⟨rfl, h⟩
  ·rw [h.l, i1, e3] at f3; cases f3
 ·rcases add_cases b m with ⟨f1, _⟩ | ⟨_, f2, _⟩ | ⟨f1, _, f3, f⟩ | ⟨f1, _, f3, f⟩
  ·rw [e1] at f1; cases f1
  ·rw [hbf] at f2; cases f2
  ·rw [h.l, i1, e3] at f3; cases f3
  ·rw [e] at k1
   rw [f] at k2
   rw [e, f]
   refine ⟨rfl, k1, k2, h.f1, h.f2, h.le, ?_, ?_, ?_⟩
   ·show (insM b.L m).1 = sinM (insM a.L m).1 c q
    rw [i2, h.l]
   ·show b.B = allP a.B (outM (insM a.L m).1 c q)
    rw [i3]; exact h.t
   ·show raiseK b.V _ _ = raiseK a.V _ _
    rw [h.v]
/-- moves that are all taken -/
def GoodM (r : Rp) (l : List Mv) : Prop := ∀ m ∈ l, oneM m = true ∧ befM r.fc r.fr m = true
theorem marks_eq {u v : List Mk} (h1 : RanK u) (h2 : AscK u) (h3 : RanK v) (h4 : AscK v) (h : ∀ q, getK u q = getK v q) : u = v := extK h2 h4 h1.pos h3.pos h
/-- what a move that is taken does: it is inserted, its mark is known -/
theorem add_taken {r : Rp} (h : MayR r) {m : Mv} (hm : oneM m = true ∧ befM r.fc r.fr m = true) : ∃ V b, addG r m = ({ r with L := (insM r.L m).1, V := V }, b, 0) ∧ ∀ q, getK V q = max (getK r.V q) (topM [m] q) := by
 have htop : ∀ q, topM [m] q = if mr m = q then mc m else 0 := fun q => by
  have := (oneM_facts hm.1).1
  rw [topM_cons]
  show (if mr m = q then max (max 0 (mc m)) 0 else 0) = _
  split
  ·omega
  ·rfl
 rcases add_cases r m with ⟨e1, e⟩ | ⟨_, e2, _⟩ | ⟨e1, _, e3, e⟩ | ⟨e1, _, e3, e⟩
 ·rw [hm.1] at e1; cases e1
 ·rw [hm.2] at e2; cases e2
 ·refine ⟨r.V, false, by rw [e, ins_old e3], fun q => ?_⟩
  rw [htop]
  have h0 := getK_nn h.rv.pos q
  split
  ·next hq => have := known_of h e3; rw [hq] at this; omega
  ·omega
 ·refine ⟨_, true, e, fun q => ?_⟩
  rw [htop, getK_raise]
  have h0 := getK_nn h.rv.pos q
  by_cases hq : q = mr m
  ·rw [if_pos hq, if_pos hq.symm, hq]
  ·rw [if_neg hq, if_neg (fun e => hq e.symm)]; omega
theorem merge_good (r0 : Rp) : ∀ (l : List Mv) (o : Rp), MayR o → GoodM o l → o.L.length + l.length ≤ 2000 → ∃ V, mergeG r0 o l = ({ o with L := uniM o.L l, V := V }, 0) ∧ MayR { o with L := uniM o.L l, V := V } ∧ ∀ q, getK V q = max (getK o.V q) (topM l q)
 | [], o, h, _, _ => ⟨o.V, rfl, h, fun q => by have := getK_nn h.rv.pos q; show _ = max _ 0; omega⟩
 | m :: l, o, h, hg, hl => by
  rw [List.length_cons] at hl
  obtain ⟨V1, b, e1, h1⟩ := add_taken h (hg m List.mem_cons_self)
  have hk := may_add h m (by omega)
  rw [e1] at hk
  have hlen := insM_len o.L m
  obtain ⟨V, e2, h2, h3⟩ := merge_good r0 l _ hk (fun x hx => hg x (List.mem_cons_of_mem _ hx)) (by show (insM o.L m).1.length + l.length ≤ 2000; omega)
  refine ⟨V, ?_, h2, fun q => ?_⟩
  ·show (if (addG o m).2.2 = 0 then mergeG r0 (addG o m).1 l else (r0, (addG o m).2.2)) = _
   rw [e1]
   exact (if_pos rfl).trans e2
  ·rw [h3 q]
   show max (getK V1 q) _ = _
   rw [h1 q, show topM (m :: l) q = max (topM [m] q) (topM l q) from topM_app [m] l q]
   omega
theorem merge_bad (r0 : Rp) : ∀ (l : List Mv) (o : Rp), MayR o → ¬ GoodM o l → o.L.length + l.length ≤ 2000 → ∃ x : Int, mergeG r0 o l = (r0, x) ∧ x ≠ 0
 | [], o, _, hb, _ => absurd (fun m hm => by cases hm) hb
 | m :: l, o, h, hb, hl => by
  rw [List.length_cons] at hl
  have hlen := insM_len o.L m
  show ∃ x : Int, (if (addG o m).2.2 = 0 then mergeG r0 (addG o m).1 l else (r0, (addG o m).2.2)) = (r0, x) ∧ x ≠ 0
  by_cases hm : oneM m = true ∧ befM o.fc o.fr m = true
  ·obtain ⟨V1, b, e1, h1⟩ := add_taken h hm
   have hk := may_add h m (by omega)
   rw [e1] at hk
   obtain ⟨x, e2, h2⟩ := merge_bad r0 l _ hk (fun hg => hb fun y hy => by
    rcases List.mem_cons.1 hy with rfl | hy
    ·exact hm
    ·exact hg y hy) (by show (insM o.L m).1.length + l.length ≤ 2000; omega)
   refine ⟨x, ?_, h2⟩
   rw [e1]
   exact (if_pos rfl).trans e2
  ·rcases add_cases o m with ⟨e1, e⟩ | ⟨_, e2, e⟩ | ⟨e1, e2, e3, e⟩ | ⟨e1, e2, e3, e⟩
   ·rw [e]; exact ⟨1, if_neg (by show ¬ (1 : Int) = 0; decide), by decide⟩
   ·rw [e]; exact ⟨9, if_neg (by show ¬ (9 : Int) = 0; decide), by decide⟩
   ·exact absurd ⟨e1, e2⟩ hm
   ·exact absurd ⟨e1, e2⟩ hm
theorem mergeF_G {r : Rp} (h : MayR r) (l : List Mv) : mergeF r l = mergeG r r l := by
 unfold mergeF
 by_cases h0 : l.length = 0
 ·rw [if_pos h0, List.eq_nil_of_length_eq_zero h0]; rfl
 ·rw [if_neg h0, if_neg (by rw [mayR_iff.2 h]; decide)]
theorem ascM_unique {l : List Mv} (h : Asc l) {x y : Mv} (hx : x ∈ l) (hy : y ∈ l) (ht : timeEq x y = true) : x = y := by
 rw [timeEq_iff] at ht
 obtain ⟨i, hi, ei⟩ := List.mem_iff_getElem.1 hx
 obtain ⟨j, hj, ej⟩ := List.mem_iff_getElem.1 hy
 rcases Nat.lt_trichotomy i j with hij | hij | hij
 ·have := List.pairwise_iff_getElem.1 h i j hi hj hij
  rw [ei, ej] at this
  unfold MLt at this; omega
 ·subst hij; rw [← ei, ← ej]
 ·have := List.pairwise_iff_getElem.1 h j i hj hi hij
  rw [ei, ej] at this
  unfold MLt at this; omega
/-- two lists with the same moves, of which no two of one time are unlike, come to the same -/
theorem uni_same {L l k : List Mv} (hL : Asc L) (hal : ∀ x ∈ l, ∀ y ∈ l, timeEq x y = true → alikeM x y = true) (h1 : ∀ x, x ∈ l ↔ x ∈ k) : sameM (uniM L l) (uniM L k) = true := by
 have ha := uniM_asc (b := l) hL
 have hb := uniM_asc (b := k) hL
 refine sameM_of ha hb (fun x hx => ?_) (fun y hy => ?_)
 ·rcases uniM_mem hx with h | h
  ·exact ⟨x, uniM_keep h, alikeM_refl x⟩
  ·obtain ⟨y, hy, ht⟩ := uniM_time (a := L) ((h1 x).1 h)
   rcases uniM_mem hy with h2 | h2
   ·have hyU : y ∈ uniM L l := uniM_keep h2
    have := ascM_unique ha hyU hx ht
    subst this
    exact ⟨y, hy, alikeM_refl y⟩
   ·refine ⟨y, hy, hal x h y ((h1 y).2 h2) ?_⟩
    rw [timeEq_iff] at ht ⊢
    exact ⟨ht.1.symm, ht.2.symm⟩
 ·rcases uniM_mem hy with h | h
  ·exact ⟨y, uniM_keep h, by rw [timeEq_iff]; exact ⟨rfl, rfl⟩⟩
  ·exact uniM_time ((h1 y).2 h)
theorem top_same {l k : List Mv} (h1 : ∀ x, x ∈ l ↔ x ∈ k) (q : Int) : topM l q = topM k q := by
 have a1 := topM_bound (q := q) (topM_nn q k) fun m (hm : m ∈ l) hq => by have := topM_le ((h1 m).1 hm); rw [hq] at this; exact this
 have a2 := topM_bound (q := q) (topM_nn q l) fun m (hm : m ∈ k) hq => by have := topM_le ((h1 m).2 hm); rw [hq] at this; exact this
 omega
theorem sameF_of {a b : Rp} (h1 : a.B = b.B) (h2 : a.fc = b.fc) (h3 : a.fr = b.fr) (h4 : sameM a.L b.L = true) (h5 : a.V = b.V) : sameF a b = true := by
 unfold sameF
 rw [decide_eq_true (And.intro h2 h3), decide_eq_true h5, h1, sameP_refl, h4]; rfl
theorem sameF_refl (a : Rp) : sameF a a = true := sameF_of rfl rfl rfl (sameM_refl _) rfl
/-- moves that come in any order come to the same -/
theorem merge_order {r : Rp} (h : MayR r) {l k : List Mv} (hl : r.L.length + 2 * l.length ≤ 2000) (hk : k.length = l.length) (h1 : ∀ x, x ∈ l ↔ x ∈ k) (hal : ∀ x ∈ l, ∀ y ∈ l, timeEq x y = true → alikeM x y = true) :
  ((mergeF r l).2 = 0 ∧ (mergeF r k).2 = 0 ∧ sameF (mergeF r l).1 (mergeF r k).1 = true ∧ MayR (mergeF r l).1 ∧ (mergeF (mergeF r l).1 k).2 = 0 ∧ (mergeF (mergeF r l).1 k).1 = (mergeF r l).1) ∨
  (¬ (mergeF r l).2 = 0 ∧ ¬ (mergeF r k).2 = 0 ∧ (mergeF r l).1 = r ∧ (mergeF r k).1 = r) := by
 rw [mergeF_G h, mergeF_G h]
 by_cases hg : GoodM r l
 ·left
  have hg2 : GoodM r k := fun m hm => hg m ((h1 m).2 hm)
  obtain ⟨V, e, m1, g1⟩ := merge_good r l r h hg (by omega)
  obtain ⟨U, f, m2, g2⟩ := merge_good r k r h hg2 (by omega)
  have hVU : V = U := marks_eq m1.rv m1.av m2.rv m2.av fun q => by rw [g1, g2, top_same h1]
  rw [e, f, mergeF_G m1]
  have hlen := uniM_len l r.L
  obtain ⟨Z, d, m3, g3⟩ := merge_good { r with L := uniM r.L l, V := V } k { r with L := uniM r.L l, V := V } m1 hg2 (by show (uniM r.L l).length + k.length ≤ 2000; omega)
  have hold : uniM (uniM r.L l) k = uniM r.L l := uniM_old fun x hx => uniM_time ((h1 x).2 hx)
  have hZV : Z = V := marks_eq m3.rv m3.av m1.rv m1.av fun q => by
   rw [g3 q]
   show max (getK V q) (topM k q) = getK V q
   rw [g1 q, top_same h1]; omega
  refine ⟨rfl, rfl, sameF_of rfl rfl rfl (uni_same h.a hal h1) hVU, m1, ?_, ?_⟩
  ·rw [d]
  ·rw [d]
   show ({ r with L := uniM (uniM r.L l) k, V := Z } : Rp) = _
   rw [hold, hZV]
 ·right
  have hg2 : ¬ GoodM r k := fun hh => hg fun m hm => hh m ((h1 m).1 hm)
  obtain ⟨x, e, m1⟩ := merge_bad r l r h hg (by omega)
  obtain ⟨y, f, m2⟩ := merge_bad r k r h hg2 (by omega)
  rw [e, f]
  exact ⟨m1, m2, rfl, rfl⟩
/-- settled at one time, and then at a later one -/
theorem prune_twice {r : Rp} (h : MayR r) {c q d p : Int} (hl : r.B.length + r.L.length ≤ 2000) (h1 : knownK r.V c q = true) (h2 : knownK r.V d p = true) (hb : befT c q d p = true) : (pruneF (pruneF r c q).1 d p).1 = (pruneF r d p).1 := by
 have hm := may_prune h c q hl
 rcases prune_cases h c q with ⟨e1, _⟩ | ⟨_, e2, e⟩ | ⟨_, e2, e⟩
 ·rw [h1] at e1; cases e1
 ·rw [e]
 ·rw [e] at hm ⊢
  rcases prune_cases h d p with ⟨f1, _⟩ | ⟨_, f2, f⟩ | ⟨_, f2, f⟩
  ·rw [h2] at f1; cases f1
  ·exfalso
   rw [befT_iff] at e2 hb
   rw [befT_no] at f2
   omega
  ·rw [f]
   rcases prune_cases hm d p with ⟨g1, _⟩ | ⟨_, g2, _⟩ | ⟨_, _, g⟩
   ·rw [show knownK r.V d p = true from h2] at g1; cases g1
   ·rw [show befT c q d p = true from hb] at g2; cases g2
   ·rw [g]
    have s1 : sinM (sinM r.L c q) d p = sinM r.L d p := by
     unfold sinM
     rw [List.filter_filter]
     refine List.filter_congr fun x _ => ?_
     cases hx : befM d p x with
     | false => rfl
     | true =>
      have : befM c q x = true := by rw [befM_iff] at hx ⊢; rw [befT_iff] at hb; omega
      rw [this]; rfl
    have s2 : outM r.L c q ++ outM (sinM r.L c q) d p = outM r.L d p := by
     have h3 : outM (outM r.L c q) d p = outM r.L c q := List.filter_eq_self.2 fun x hx => by
      have h4 := (List.mem_filter.1 hx).2
      have : befM d p x = false := by
       cases hx2 : befM d p x with
       | false => rfl
       | true =>
        have : befM c q x = true := by rw [befM_iff] at hx2 ⊢; rw [befT_iff] at hb; omega
        rw [this] at h4; cases h4
      rw [this]; rfl
     have h5 : outM (outM r.L c q ++ sinM r.L c q) d p = outM r.L d p := congrArg (fun l => outM l d p) (out_sin h.a c q).2
     rw [← h5, show outM (outM r.L c q ++ sinM r.L c q) d p = outM (outM r.L c q) d p ++ outM (sinM r.L c q) d p from List.filter_append .., h3]
    show ({ B := allP (allP r.B (outM r.L c q)) (outM (sinM r.L c q) d p), fc := d, fr := p, L := sinM (sinM r.L c q) d p, V := r.V } : Rp) = _
    rw [← allP_app, s1, s2]
theorem prune_stay {r : Rp} (h : MayR r) {c q : Int} (h1 : knownK r.V c q = true) (hb : befT r.fc r.fr c q = false) : pruneF r c q = (r, 0) := by
 rcases prune_cases h c q with ⟨e1, _⟩ | ⟨_, _, e⟩ | ⟨_, e2, _⟩
 ·rw [h1] at e1; cases e1
 ·exact e
 ·rw [hb] at e2; cases e2
/-- all that FloorTwice asks, where each time is known -/
theorem prune_ways {r : Rp} (h : MayR r) {c q d p : Int} (hl : r.B.length + r.L.length ≤ 2000) (h1 : knownK r.V c q = true) (h2 : knownK r.V d p = true) :
  pruneF (pruneF (pruneF r c q).1 d p).1 d p = ((pruneF (pruneF r c q).1 d p).1, 0) ∧
  (befT c q d p = true → (pruneF (pruneF r c q).1 d p).1 = (pruneF r d p).1) ∧
  (befT c q d p = false → (pruneF (pruneF r c q).1 d p).1 = (pruneF r c q).1 ∧ pruneF (pruneF r d p).1 c q = ((pruneF r c q).1, 0)) := by
 have z1 : (pruneF r c q).2 = 0 := by
  rcases prune_cases h c q with ⟨e1, _⟩ | ⟨_, _, e⟩ | ⟨_, _, e⟩
  ·rw [h1] at e1; cases e1
  ·rw [e]
  ·rw [e]
 have z2 : (pruneF r d p).2 = 0 := by
  rcases prune_cases h d p with ⟨e1, _⟩ | ⟨_, _, e⟩ | ⟨_, _, e⟩
  ·rw [h2] at e1; cases e1
  ·rw [e]
  ·rw [e]
 have ma := may_prune h c q hl
 have mc := may_prune h d p hl
 have fa := (prune_floor h z1).2
 have fc := (prune_floor h z2).2
 have va := prune_marks r c q
 have vc := prune_marks r d p
 have kd : knownK (pruneF r c q).1.V d p = true := by rw [va]; exact h2
 refine ⟨?_, fun hb => prune_twice h hl h1 h2 hb, fun hb => ?_⟩
 ·have hz : (pruneF (pruneF r c q).1 d p).2 = 0 := by rw [prune_code h ma va]; exact z2
  have hfl := (prune_floor ma hz).2
  have hmay : MayR (pruneF (pruneF r c q).1 d p).1 := by
   rcases prune_cases ma d p with ⟨e1, _⟩ | ⟨_, _, e⟩ | ⟨_, e2, e⟩
   ·rw [kd] at e1; cases e1
   ·rw [e]; exact ma
   ·by_cases hb : befT c q d p = true
    ·rw [prune_twice h hl h1 h2 hb]; exact mc
    ·exfalso
     rw [befT_no] at fa
     rw [befT_iff] at e2 hb
     omega
  exact prune_stay hmay (by rw [prune_marks, va]; exact h2) hfl
 ·have hst : pruneF (pruneF r c q).1 d p = ((pruneF r c q).1, 0) := prune_stay ma kd (by rw [befT_no] at *; omega)
  refine ⟨by rw [hst], ?_⟩
  have hz : (pruneF (pruneF r d p).1 c q).2 = 0 := by rw [prune_code h mc vc]; exact z1
  refine Prod.ext ?_ hz
  show (pruneF (pruneF r d p).1 c q).1 = (pruneF r c q).1
  by_cases hb2 : befT d p c q = true
  ·exact prune_twice h hl h2 h1 hb2
  ·have e1 : d = c ∧ p = q := by
    rw [befT_no] at hb
    rw [befT_iff] at hb2
    omega
   obtain ⟨rfl, rfl⟩ := e1
   rw [hst]
/-- moves that were asked, one behind the other, of which some were taken -/
structure Took (r a : Rp) (l : List Mv) : Prop where
 may : MayR a
 f1 : a.fc = r.fc
 f2 : a.fr = r.fr
 b : a.B = r.B
 k : ∀ q, getK a.V q = max (getK r.V q) (topM l q)
theorem took_start {r : Rp} (h : MayR r) : Took r r [] := ⟨h, rfl, rfl, rfl, fun q => by have := getK_nn h.rv.pos q; show _ = max _ 0; omega⟩
theorem took_no {r a : Rp} {l : List Mv} (h : Took r a l) {m : Mv} (h0 : ¬ (addG a m).2.2 = 0) : Took r (addG a m).1 l := by
 rcases add_cases a m with ⟨_, e⟩ | ⟨_, _, e⟩ | ⟨_, _, _, e⟩ | ⟨_, _, _, e⟩
 ·rw [e]; exact h
 ·rw [e]; exact h
 ·rw [e] at h0; exact absurd rfl h0
 ·rw [e] at h0; exact absurd rfl h0
theorem took_yes {r a : Rp} {l : List Mv} (h : Took r a l) {m : Mv} (h0 : (addG a m).2.2 = 0) (hl : a.L.length < 2000) : Took r (addG a m).1 (l ++ [m]) := by
 have hm : oneM m = true ∧ befM a.fc a.fr m = true := by
  rcases add_cases a m with ⟨_, e⟩ | ⟨_, _, e⟩ | ⟨e1, e2, _, e⟩ | ⟨e1, e2, _, e⟩
  ·rw [e] at h0; exact absurd h0 (by show ¬ (1 : Int) = 0; decide)
  ·rw [e] at h0; exact absurd h0 (by show ¬ (9 : Int) = 0; decide)
  ·exact ⟨e1, e2⟩
  ·exact ⟨e1, e2⟩
 obtain ⟨V, b, e, g⟩ := add_taken h.may hm
 have hk := may_add h.may m hl
 rw [e] at hk ⊢
 refine ⟨hk, h.f1, h.f2, h.b, fun q => ?_⟩
 show getK V q = _
 rw [g q, h.k q, topM_app]; omega
theorem took_marks {r a : Rp} {l : List Mv} (hr : MayR r) (h : Took r a l) (hl : ∀ m ∈ l, oneM m = true) : a.V = joinK r.V (ofK l) := by
 have hran : RanK (ofK l) := ofK_ran fun m hm => by have := oneM_facts (hl m hm); omega
 refine marks_eq h.may.rv h.may.av (joinK_ran hr.rv hran) (joinK_asc hr.av) fun q => ?_
 rw [getK_join q (ofK_asc l) (ofK_pos l) hr.rv.pos, getK_of]
 exact h.k q
end Go.Proofs.YthhckdjagnlgpaaGreat
