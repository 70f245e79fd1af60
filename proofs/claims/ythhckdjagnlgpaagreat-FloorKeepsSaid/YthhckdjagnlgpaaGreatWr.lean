/-
 Replicas that are not great, whatever comes; the document's Merge as the program's: plain.
 The document's Merge of replicas.
-/
import Derived.Test.YthhckdjagnlgpaaGreatWi
import Derived.Test.YthhckdjagnlgpaaGreatWo
import Derived.Test.YthhckdjagnlgpaaGreatWq
import Derived.Deep.LoopGhost
import Derived.Deep.DeepCutAuto
import Derived.Deep.RegionWith
section
namespace Go.Proofs.YthhckdjagnlgpaaGreat
open Gr
set_option maxRecDepth 100000
/-- such as a program may have, of at most n rows and moves, and at most n marks -/
structure Sz (r : Rp) (n : Nat) : Prop where
 s : r.B.length + r.L.length ≤ n
 v : r.V.length ≤ n
 rb : Rows_ r.B
 rl : Moves_ r.L
theorem Sz.ok {r : Rp} {n : Nat} (h : Sz r n) (hn : n ≤ 400) : RpOk r := ⟨by have := h.s; omega, by have := h.s; omega, by have := h.v; omega, h.rb, h.rl⟩
theorem Sz.more {r : Rp} {n m : Nat} (h : Sz r n) (hn : n ≤ m) : Sz r m := ⟨by have := h.s; omega, by have := h.v; omega, h.rb, h.rl⟩
theorem Sz.ll {r : Rp} {n : Nat} (h : Sz r n) : r.L.length ≤ n := by have := h.s; omega
theorem Sz.all {r : Rp} {n : Nat} (h : Sz r n) (hn : n ≤ 2000) : r.B.length + r.L.length ≤ 2000 := by have := h.s; omega
abbrev MvOk (m : Mv) : Prop := rk (mw m) < 18446744073709551616 ∧ (nm (mw m)).length ≤ maxLen
theorem sz_addG {r : Rp} {n : Nat} (h : Sz r n) {m : Mv} (hm : MvOk m) : Sz (addG r m).1 (n + 1) := by
 rcases add_cases r m with ⟨_, e⟩ | ⟨_, _, e⟩ | ⟨_, _, _, e⟩ | ⟨_, _, _, e⟩
 ·rw [e]; exact h.more (by omega)
 ·rw [e]; exact h.more (by omega)
 ·rw [e]; exact h.more (by omega)
 ·rw [e]
  have h1 := insM_len r.L m
  have h2 := raiseK_len r.V (mc m) (mr m)
  have h3 := h.s
  have h4 := h.v
  refine ⟨?_, ?_, h.rb, fun y hy => ?_⟩
  ·show r.B.length + (insM r.L m).1.length ≤ n + 1; omega
  ·show (raiseK r.V (mc m) (mr m)).length ≤ n + 1; omega
  ·rcases insM_mem hy with hy | rfl
   ·exact h.rl y hy
   ·exact hm
theorem sz_add {r : Rp} {n : Nat} (h : Sz r n) {m : Mv} (hm : MvOk m) : Sz (addF r m).1 (n + 1) := by
 unfold addF
 split
 ·exact h.more (by omega)
 ·exact sz_addG h hm
theorem sz_prune {r : Rp} {n : Nat} (h : Sz r n) (c q : Int) : Sz (pruneF r c q).1 n := by
 have hs := h.s
 unfold pruneF
 split
 ·exact h
 ·split
  ·exact h
  ·split
   ·exact h
   ·have h1 : (sinM r.L c q).length ≤ r.L.length := List.length_filter_le _ _
    have h2 := allP_len r.B (r.L.take (r.L.length - (sinM r.L c q).length))
    rw [List.length_take] at h2
    refine ⟨?_, h.v, allP_rows h.rb fun m hm => h.rl m (List.mem_of_mem_take hm), fun m hm => h.rl m (List.mem_filter.1 hm).1⟩
    show (allP r.B (r.L.take (r.L.length - (sinM r.L c q).length))).length + (sinM r.L c q).length ≤ n
    omega
theorem sz_mergeG {r0 : Rp} {k : Nat} (h0 : Sz r0 k) : ∀ (l : List Mv) (o : Rp) (n : Nat), Sz o n → Moves_ l → k ≤ n + l.length → Sz (mergeG r0 o l).1 (n + l.length)
 | [], o, n, h, _, _ => h
 | m :: t, o, n, h, hM, hk => by
  rw [List.length_cons] at hk ⊢
  show Sz (if (addG o m).2.2 = 0 then mergeG r0 (addG o m).1 t else (r0, (addG o m).2.2)).1 (n + (t.length + 1))
  split
  ·have := sz_mergeG h0 t (addG o m).1 (n + 1) (sz_addG h (hM m List.mem_cons_self)) (fun x hx => hM x (List.mem_cons_of_mem _ hx)) (by omega)
   exact this.more (by omega)
  ·exact h0.more hk
theorem sz_merge {r : Rp} {n : Nat} (h : Sz r n) {l : List Mv} (hM : Moves_ l) : Sz (mergeF r l).1 (n + l.length) := by
 unfold mergeF
 split
 ·exact h.more (by omega)
 ·split
  ·exact h.more (by omega)
  ·exact sz_mergeG h l r n h hM (by omega)
theorem sz_few {r : Rp} (h : fewF r = true) (hb : Rows_ r.B) (hl : Moves_ r.L) : Sz r 120 := by
 unfold fewF at h
 simp only [Bool.and_eq_true, decide_eq_true_eq] at h
 have h1 := few_in h.1
 have h2 := fewM_in h.2.1
 exact ⟨by have := h1.1; have := h2.1; omega, by omega, hb, hl⟩
theorem sz_tree {r : Rp} {n : Nat} (h : Sz r n) : (treeF r).length ≤ n ∧ Rows_ (treeF r) := by
 have h1 := allP_len r.B r.L
 have h2 := h.s
 exact ⟨by show (allP r.B r.L).length ≤ n; omega, allP_rows h.rb h.rl⟩
/-- the document's Merge: each is added anew -/
def mergeD (r0 : Rp) : Rp → List Mv → Rp × Int
 | out, [] => (out, 0)
 | out, m :: t => if (addF out m).2.2 = 0 then mergeD r0 (addF out m).1 t else (r0, (addF out m).2.2)
theorem mergeD_G (r0 : Rp) : ∀ (l : List Mv) (o : Rp), MayR o → o.L.length + l.length ≤ 2000 → mergeD r0 o l = mergeG r0 o l
 | [], _, _, _ => rfl
 | m :: t, o, h, hl => by
  rw [List.length_cons] at hl
  show (if (addF o m).2.2 = 0 then mergeD r0 (addF o m).1 t else (r0, (addF o m).2.2)) = (if (addG o m).2.2 = 0 then mergeG r0 (addG o m).1 t else (r0, (addG o m).2.2))
  rw [addF_may h]
  have hlen : (addG o m).1.L.length ≤ o.L.length + 1 := by
   rcases add_cases o m with ⟨_, e⟩ | ⟨_, _, e⟩ | ⟨_, _, _, e⟩ | ⟨_, _, _, e⟩
   ·rw [e]; show o.L.length ≤ _; omega
   ·rw [e]; show o.L.length ≤ _; omega
   ·rw [e]; show o.L.length ≤ _; omega
   ·rw [e]; exact insM_len o.L m
  rw [mergeD_G r0 t (addG o m).1 (may_add h m (by omega)) (by omega)]
theorem mergeD_F (r : Rp) (l : List Mv) (hl : r.L.length + l.length ≤ 2000) : mergeD r r l = mergeF r l := by
 cases hm : mayF r with
 | true => rw [mergeF_G (mayR_iff.1 hm), mergeD_G r l r (mayR_iff.1 hm) hl]
 | false =>
  unfold mergeF
  cases l with
  | nil => rfl
  | cons m t =>
   rw [if_neg (by simp), if_pos hm]
   show (if (addF r m).2.2 = 0 then mergeD r (addF r m).1 t else (r, (addF r m).2.2)) = (r, 1)
   have : addF r m = (r, false, 1) := by unfold addF; rw [if_pos hm]
   rw [this]
   exact if_neg (by show ¬ (1 : Int) = 0; decide)
theorem addF_facts {r r2 : Rp} {m : Mv} {b : Bool} {x : Int} (h : addF r m = (r2, b, x)) (hm : MvOk m) (hl : Moves_ r.L) : r2.B = r.B ∧ r2.L.length ≤ r.L.length + 1 ∧ r2.V.length ≤ r.V.length + 1 ∧ Moves_ r2.L := by
 cases hmay : mayF r with
 | false =>
  unfold addF at h
  rw [if_pos hmay] at h
  cases h
  exact ⟨rfl, by omega, by omega, hl⟩
 | true =>
  have h2 : addG r m = (r2, b, x) := by unfold addF at h; rw [if_neg (by rw [hmay]; decide)] at h; exact h
  obtain ⟨h1, h3, h4, h5, -⟩ := addG_facts h2 hm hl (mayF_in hmay)
  exact ⟨h1, h3, h4, h5⟩
theorem few_lens {r : Rp} (h : fewF r = true) : r.L.length ≤ 60 ∧ r.V.length ≤ 60 := by
 unfold fewF at h
 simp only [Bool.and_eq_true, decide_eq_true_eq] at h
 exact ⟨(fewM_in h.2.1).1, h.2.2⟩
theorem twice_code {r a b t : Rp} {c q d s x y z : Int} (h : MayR r) (hl : r.B.length + r.L.length ≤ 2000) (h1 : pruneF r c q = (a, x)) (h2 : pruneF a d s = (b, y)) (h3 : pruneF r d s = (t, z)) : y = z := by
 have hm := may_prune h c q hl
 have hv := prune_marks r c q
 rw [h1] at hm hv
 have := prune_code h hm hv d s
 rw [h2, h3] at this
 exact this
theorem twice_ways {r a b t : Rp} {c q d s x y z : Int} (h : MayR r) (hl : r.B.length + r.L.length ≤ 2000) (h1 : pruneF r c q = (a, x)) (h2 : pruneF a d s = (b, y)) (h3 : pruneF r d s = (t, z)) (hx : x = 0) (hy : y = 0) :
  pruneF b d s = (b, 0) ∧ (befT c q d s = true → b = t) ∧ (befT c q d s = false → b = a ∧ pruneF t c q = (a, 0)) := by
 have hyz := twice_code h hl h1 h2 h3
 have k1 := (prune_floor h (c := c) (q := q) (by rw [h1]; exact hx)).1
 have k2 := (prune_floor h (c := d) (q := s) (by rw [h3]; exact hyz ▸ hy)).1
 have := prune_ways h hl k1 k2
 rw [h1] at this
 simp only [] at this
 rw [h2, h3] at this
 exact this
theorem insM_grow (l : List Mv) (m : Mv) : l.length ≤ (insM l m).1.length := by
 rcases insM_cases l m with ⟨k, y, _, _, _, e, _⟩ | ⟨h0, k, hk, hlo, hhi, e⟩
 ·rw [e]; exact Nat.le_refl _
 ·rw [e]
  show l.length ≤ (l.take k ++ m :: l.drop k).length
  rw [List.length_append, List.length_cons, List.length_take, List.length_drop]; omega
theorem add_floor (r : Rp) (m : Mv) : (addG r m).1.fc = r.fc ∧ (addG r m).1.fr = r.fr ∧ (addG r m).1.B = r.B ∧ ∀ q, getK r.V q ≤ getK (addG r m).1.V q := by
 rcases add_cases r m with ⟨_, e⟩ | ⟨_, _, e⟩ | ⟨_, _, _, e⟩ | ⟨_, _, _, e⟩
 ·rw [e]; exact ⟨rfl, rfl, rfl, fun q => Int.le_refl _⟩
 ·rw [e]; exact ⟨rfl, rfl, rfl, fun q => Int.le_refl _⟩
 ·rw [e]; exact ⟨rfl, rfl, rfl, fun q => Int.le_refl _⟩
 ·rw [e]
  refine ⟨rfl, rfl, rfl, fun q => ?_⟩
  show getK r.V q ≤ getK (raiseK r.V (mc m) (mr m)) q
  rw [getK_raise]; split
  ·next hq => rw [hq]; omega
  ·omega
/-- all that FloorMay asks -/
theorem may_facts {r a s : Rp} {m : Mv} {b : Bool} {x y c q : Int} (h : MayR r) (hl : r.B.length + r.L.length < 2000) (h1 : addF r m = (a, b, x)) (h2 : pruneF a c q = (s, y)) :
  MayR a ∧ MayR s ∧
  ((x = 0 ∧ oneM m = true ∧ befT r.fc r.fr (mc m) (mr m) = true ∧ mc m ≤ getK a.V (mr m) ∧ r.L.length ≤ a.L.length) ∨ (x = 1 ∧ b = false ∧ a = r ∧ oneM m = false) ∨ (x = 9 ∧ b = false ∧ a = r ∧ oneM m = true ∧ befT r.fc r.fr (mc m) (mr m) = false)) ∧
  (y = 0 ∨ (y = 1 ∧ s = a)) ∧ belowK r.V s.V = true ∧ befT s.fc s.fr r.fc r.fr = false := by
 rw [addF_may h] at h1
 have ma := may_add h m (by omega)
 have hf := add_floor r m
 have hlen : a.B.length + a.L.length ≤ 2000 := by
  have hb := congrArg List.length hf.2.2.1
  have : (addG r m).1.L.length ≤ r.L.length + 1 := by
   rcases add_cases r m with ⟨_, e⟩ | ⟨_, _, e⟩ | ⟨_, _, _, e⟩ | ⟨_, _, _, e⟩
   ·rw [e]; show r.L.length ≤ _; omega
   ·rw [e]; show r.L.length ≤ _; omega
   ·rw [e]; show r.L.length ≤ _; omega
   ·rw [e]; exact insM_len r.L m
  rw [h1] at hb this
  simp only [] at hb this
  omega
 rw [h1] at ma hf
 simp only [] at ma hf
 have ms := may_prune ma c q hlen
 have hv := prune_marks a c q
 have hn := prune_not_less ma c q
 rw [h2] at ms hv hn
 simp only [] at ms hv hn
 refine ⟨ma, ms, ?_, ?_, ?_, ?_⟩
 ·rcases add_cases r m with ⟨e1, e⟩ | ⟨e1, e2, e⟩ | ⟨e1, e2, e3, e⟩ | ⟨e1, e2, e3, e⟩
  ·rw [e] at h1; cases h1; exact .inr (.inl ⟨rfl, rfl, rfl, e1⟩)
  ·rw [e] at h1; cases h1; exact .inr (.inr ⟨rfl, rfl, rfl, e1, e2⟩)
  ·rw [e] at h1; cases h1
   exact .inl ⟨rfl, e1, e2, known_of h e3, Nat.le_refl _⟩
  ·rw [e] at h1; cases h1
   refine .inl ⟨rfl, e1, e2, ?_, insM_grow r.L m⟩
   show mc m ≤ getK (raiseK r.V (mc m) (mr m)) (mr m)
   rw [getK_raise, if_pos rfl]; omega
 ·rcases prune_cases ma c q with ⟨_, e⟩ | ⟨_, _, e⟩ | ⟨_, _, e⟩
  ·rw [e] at h2; cases h2; exact .inr ⟨rfl, rfl⟩
  ·rw [e] at h2; cases h2; exact .inl rfl
  ·rw [e] at h2; cases h2; exact .inl rfl
 ·rw [belowK_iff ms.rv.pos, hv]; exact hf.2.2.2
 ·rw [hf.1, hf.2.1] at hn; exact hn
end Go.Proofs.YthhckdjagnlgpaaGreat
end
section
namespace Go.Proofs.YthhckdjagnlgpaaGreat
open Go.RowKit Go.IntWalk Go.Maps
open Gr
set_option maxRecDepth 100000
attribute [local go_sem] Oper.semAt_some
/-- a Merge under way: k moves came -/
structure MrgD (w : World) (p : Pl) (r : Rp) (l : List Mv) (k : Nat) (pq : Pl) (rq : Rp) (W : World) : Prop where
 ik : Is W (w.heap.size + 1 + 1) 55 [.slice pq.A1 rq.B.length pq.c1, .int .i64 rq.fc, .int .i64 rq.fr, .slice pq.A2 rq.L.length pq.c2, .slice pq.A3 rq.V.length pq.c3]
 ig : Is W w.heap.size 55 [.slice p.A1 r.B.length p.c1, .int .i64 r.fc, .int .i64 r.fr, .slice p.A2 r.L.length p.c2, .slice p.A3 r.V.length p.c3]
 ir : Is W (w.heap.size + 1) 55 [.slice none 0 0, .int .i64 0, .int .i64 0, .slice none 0 0, .slice none 0 0]
 eb : pq.A1 = p.A1 ∧ rq.B = r.B
 al : At W W.heap.size pq.A2 (mvs rq.L)
 av : At W W.heap.size pq.A3 (kvs rq.V)
 pl : RpPl pq rq
 ml : Moves_ rq.L
 ll : rq.L.length ≤ r.L.length + k
 lv : rq.V.length ≤ r.V.length + k
 offK : kvs rq.V = [] ∨ ∀ a, pq.A3 = some a → a.block ≠ (w.heap.size + 1 + 1)
 offR : kvs rq.V = [] ∨ ∀ a, pq.A3 = some a → a.block ≠ w.heap.size + 1
 mg : mergeD r rq (l.drop k) = mergeD r r l
 bel : Below w.heap.size w W
theorem MrgD.keep {w W W' : World} {p pq : Pl} {r rq : Rp} {l : List Mv} {k : Nat} (h : MrgD w p r l k pq rq W) (hb : Below W.heap.size W W') : MrgD w p r l k pq rq W' :=
 ⟨is_below h.ik hb (is_lt h.ik), is_below h.ig hb (is_lt h.ig), is_below h.ir hb (is_lt h.ir), h.eb, h.al.keep hb, h.av.keep hb, h.pl, h.ml, h.ll, h.lv, h.offK, h.offR, h.mg, h.bel.trans (hb.mono h.bel.size)⟩
theorem mergeD_step {r rq r2 : Rp} {l : List Mv} {k : Nat} {m : Mv} {b : Bool} {x : Int} (hm : l[k]? = some m) (h : addF rq m = (r2, b, x)) : mergeD r rq (l.drop k) = if x = 0 then mergeD r r2 (l.drop (k + 1)) else (r, x) := by
 obtain ⟨hk, e⟩ := List.getElem?_eq_some_iff.1 hm
 rw [List.drop_eq_getElem_cons hk, e]
 show (if (addF rq m).2.2 = 0 then mergeD r (addF rq m).1 (l.drop (k + 1)) else (r, (addF rq m).2.2)) = _
 rw [h]
theorem rfadd_w {p : Pl} {r r2 : Rp} {m : Mv} {b : Bool} {x : Int} (h : addF r m = (r2, b, x)) (ok : RpOk r) (pl : RpPl p r) (hm : MvOk m) {w : World} (ha : RpAt p r w) :
  Calls Tryz.prog 45 #[.agg #[.slice p.A1 r.B.length p.c1, .int .i64 r.fc, .int .i64 r.fr, .slice p.A2 r.L.length p.c2, .slice p.A3 r.V.length p.c3], .agg #[.int .i64 (mc m), .int .i64 (mr m), .int .i64 (pa (mw m)), .int .i64 (ch (mw m)), .string (ba (nm (mw m))), .float .f64 (rk (mw m))]] w fun e w' => ∃ p2 : Pl, e = .returned (.tuple #[.agg #[.slice p2.A1 r2.B.length p2.c1, .int .i64 r2.fc, .int .i64 r2.fr, .slice p2.A2 r2.L.length p2.c2, .slice p2.A3 r2.V.length p2.c3], .bool b, .int .i64 x]) ∧ RpAt p2 r2 w' ∧ RpPl p2 r2 ∧ (p2.A1 = p.A1 ∧ r2.B = r.B) ∧ ((p2.A3 = p.A3 ∧ r2.V = r.V) ∨ Fresh w.heap.size p2.A3) ∧ Below w.heap.size w w' ∧ ((p2.A2 = p.A2 ∧ r2.L = r.L) ∨ Fresh w.heap.size p2.A2) :=
 (rfadd_c ok pl m hm.1 hm.2 ha).mono fun e w' hh => by
  obtain ⟨p2, he, h1, h2, h3, h4, h5⟩ := hh
  rw [h] at he h1 h2 h3 h4 h5
  exact ⟨p2, he, h1, h2, h3, h4, h5⟩
/-- what one Add has laid: a box J with the replica that it told -/
structure Put5 (wr : World) (pq : Pl) (rq : Rp) (p2 : Pl) (r2 : Rp) (J : Nat) (W : World) : Prop where
 ij : Is W J 55 [.slice p2.A1 r2.B.length p2.c1, .int .i64 r2.fc, .int .i64 r2.fr, .slice p2.A2 r2.L.length p2.c2, .slice p2.A3 r2.V.length p2.c3]
 at_ : RpAt p2 r2 W
 pl : RpPl p2 r2
 b : p2.A1 = pq.A1 ∧ r2.B = rq.B
 v : (p2.A3 = pq.A3 ∧ r2.V = rq.V) ∨ ∀ a, p2.A3 = some a → wr.heap.size ≤ a.block
 l : (p2.A2 = pq.A2 ∧ r2.L = rq.L) ∨ ∀ a, p2.A2 = some a → wr.heap.size ≤ a.block
 bel : Below wr.heap.size wr W
theorem put5_late {wr wq w5 : World} {pq p2 : Pl} {rq r2 : Rp} (hq : Below wr.heap.size wr wq) (ha : RpAt p2 r2 w5) (pl : RpPl p2 r2) (hb : p2.A1 = pq.A1 ∧ r2.B = rq.B) (hv : (p2.A3 = pq.A3 ∧ r2.V = rq.V) ∨ Fresh wq.heap.size p2.A3) (h5 : Below wq.heap.size wq w5) (hl : (p2.A2 = pq.A2 ∧ r2.L = rq.L) ∨ Fresh wq.heap.size p2.A2) :
  Put5 wr pq rq p2 r2 w5.heap.size (w5.alloc (.cells #[.slice p2.A1 r2.B.length p2.c1, .int .i64 r2.fc, .int .i64 r2.fr, .slice p2.A2 r2.L.length p2.c2, .slice p2.A3 r2.V.length p2.c3] 55)) := by
 have hb6 : Below w5.heap.size w5 (w5.alloc (.cells #[.slice p2.A1 r2.B.length p2.c1, .int .i64 r2.fc, .int .i64 r2.fr, .slice p2.A2 r2.L.length p2.c2, .slice p2.A3 r2.V.length p2.c3] 55)) := (Below.refl _ _).alloc (Nat.le_refl _) _
 refine ⟨is_new w5 55 _, ha.keep hb6, pl, hb, ?_, ?_, (hq.trans (h5.mono hq.size)).trans (hb6.mono (Nat.le_trans hq.size h5.size))⟩
 ·rcases hv with h | h
  ·exact .inl h
  ·exact .inr fun a hA => by have := h a hA; have := hq.size; omega
 ·rcases hl with h | h
  ·exact .inl h
  ·exact .inr fun a hA => by have := h a hA; have := hq.size; omega
theorem put5_early {wr w5 : World} {pq p2 : Pl} {rq r2 : Rp} (ho : RpAt pq rq wr) (ha : RpAt p2 r2 w5) (pl : RpPl p2 r2) (hb : p2.A1 = pq.A1 ∧ r2.B = rq.B) {wq : World} (hs : wr.heap.size + 1 ≤ wq.heap.size) (hv : (p2.A3 = pq.A3 ∧ r2.V = rq.V) ∨ Fresh wq.heap.size p2.A3) (hq : Below wr.heap.size wr wq) (hz : Is wq wr.heap.size 55 [.slice none 0 0, .int .i64 0, .int .i64 0, .slice none 0 0, .slice none 0 0]) (h5 : Below wq.heap.size wq w5) (hl : (p2.A2 = pq.A2 ∧ r2.L = rq.L) ∨ Fresh wq.heap.size p2.A2) :
  Put5 wr pq rq p2 r2 wr.heap.size (set5 w5 wr.heap.size (.slice p2.A1 r2.B.length p2.c1) (.int .i64 r2.fc) (.int .i64 r2.fr) (.slice p2.A2 r2.L.length p2.c2) (.slice p2.A3 r2.V.length p2.c3)) := by
 have hz5 : Is w5 wr.heap.size 55 [.slice none 0 0, .int .i64 0, .int .i64 0, .slice none 0 0, .slice none 0 0] := is_below hz h5 (by omega)
 have hij := set5_is (a0 := .slice p2.A1 r2.B.length p2.c1) (a1 := .int .i64 r2.fc) (a2 := .int .i64 r2.fr) (a3 := .slice p2.A2 r2.L.length p2.c2) (a4 := .slice p2.A3 r2.V.length p2.c3) hz5
 have hoff : ∀ j, j ≠ wr.heap.size → (set5 w5 wr.heap.size (.slice p2.A1 r2.B.length p2.c1) (.int .i64 r2.fc) (.int .i64 r2.fr) (.slice p2.A2 r2.L.length p2.c2) (.slice p2.A3 r2.V.length p2.c3)).heap[j]? = w5.heap[j]? := fun j hj => set5_off j hj
 have hsz : (set5 w5 wr.heap.size (.slice p2.A1 r2.B.length p2.c1) (.int .i64 r2.fc) (.int .i64 r2.fr) (.slice p2.A2 r2.L.length p2.c2) (.slice p2.A3 r2.V.length p2.c3)).heap.size = w5.heap.size := set5_size
 have hb5 : Below wr.heap.size wr (set5 w5 wr.heap.size (.slice p2.A1 r2.B.length p2.c1) (.int .i64 r2.fc) (.int .i64 r2.fr) (.slice p2.A2 r2.L.length p2.c2) (.slice p2.A3 r2.V.length p2.c3)) := set5_below (hq.trans (h5.mono hq.size)) (Nat.le_refl _)
 have hvo : kvs r2.V = [] ∨ ∀ a, p2.A3 = some a → a.block ≠ wr.heap.size := marks_off (N := wq.heap.size) ho.v hv (Nat.le_refl _) (by omega)
 generalize set5 w5 wr.heap.size (.slice p2.A1 r2.B.length p2.c1) (.int .i64 r2.fc) (.int .i64 r2.fr) (.slice p2.A2 r2.L.length p2.c2) (.slice p2.A3 r2.V.length p2.c3) = W9 at hij hoff hsz hb5 ⊢
 have hrow : At W9 W9.heap.size p2.A1 (tvs r2.B) := by rw [hb.1, hb.2]; exact ho.b.keep hb5
 refine ⟨hij, ⟨hrow, at_offG ha.l (moves_off hz5 rfl ha.l) hoff hsz, at_offG ha.v hvo hoff hsz⟩, pl, hb, ?_, ?_, hb5⟩
 ·rcases hv with h | h
  ·exact .inl h
  ·exact .inr fun a hA => by have := h a hA; omega
 ·rcases hl with h | h
  ·exact .inl h
  ·exact .inr fun a hA => by have := h a hA; omega
set_option maxHeartbeats 16000000 in
theorem rmergeD_c {p : Pl} {r : Rp} (ok : RpOk r) (pl : RpPl p r) (A : Option Addr) (cap : Nat) (l : List Mv) (hll : l.length ≤ 200) (hbl : r.L.length ≤ 150) (hbv : r.V.length ≤ 150) (hM : Moves_ l) {w : World} (ha : RpAt p r w) (hc : At w w.heap.size A (mvs l)) :
  Calls Tryz.prog 56 #[.agg #[.slice p.A1 r.B.length p.c1, .int .i64 r.fc, .int .i64 r.fr, .slice p.A2 r.L.length p.c2, .slice p.A3 r.V.length p.c3], .slice A l.length cap] w (MrTold (mergeD r r l).1 (mergeD r r l).2 w) := by
 obtain ⟨w2, hw2⟩ : ∃ w2, w2 = (w.alloc (.cells #[.slice p.A1 r.B.length p.c1, .int .i64 r.fc, .int .i64 r.fr, .slice p.A2 r.L.length p.c2, .slice p.A3 r.V.length p.c3] 55)).alloc (.cells #[.slice none 0 0, .int .i64 0, .int .i64 0, .slice none 0 0, .slice none 0 0] 55) := ⟨_, rfl⟩
 have hI : Is w2 w.heap.size 55 [.slice p.A1 r.B.length p.c1, .int .i64 r.fc, .int .i64 r.fr, .slice p.A2 r.L.length p.c2, .slice p.A3 r.V.length p.c3] := by rw [hw2]; exact is_below (is_new w 55 _) ((Below.refl _ _).alloc (Nat.le_refl _) _) (by simp)
 have hZ : Is w2 (w.heap.size + 1) 55 [.slice none 0 0, .int .i64 0, .int .i64 0, .slice none 0 0, .slice none 0 0] := by rw [hw2]; exact is_newA w 55 _ _
 have hb2 : Below w.heap.size w w2 := by rw [hw2]; exact ((Below.refl w.heap.size w).alloc (Nat.le_refl _) _).alloc (by simp) _
 have hs2 : w2.heap.size = w.heap.size + 2 := by rw [hw2]; simp
 obtain ⟨wk, hwk⟩ : ∃ wk, wk = w2.alloc (.cells #[.slice p.A1 r.B.length p.c1, .int .i64 r.fc, .int .i64 r.fr, .slice p.A2 r.L.length p.c2, .slice p.A3 r.V.length p.c3] 55) := ⟨_, rfl⟩
 have hbk : Below w2.heap.size w2 wk := by rw [hwk]; exact (Below.refl _ _).alloc (Nat.le_refl _) _
 have hlb := ok.lb
 have HST := Lib.hid (show MrgD w p r l 0 p r wk from ⟨by rw [hwk, show w.heap.size + 1 + 1 = w2.heap.size from hs2.symm]; exact is_new _ 55 _, is_below hI hbk (is_lt hI), is_below hZ hbk (is_lt hZ), ⟨rfl, rfl⟩, ((ha.keep hb2).keep hbk).l, ((ha.keep hb2).keep hbk).v, pl, ok.rl, by omega, by omega, marks_off (N := w.heap.size + 3) ha.v (.inl ⟨rfl, rfl⟩) (by omega) (by omega), marks_off (N := w.heap.size + 3) ha.v (.inl ⟨rfl, rfl⟩) (by omega) (by omega), by rw [List.drop_zero], hb2.trans (hbk.mono hb2.size)⟩)
 have HA := Lib.hid ha
 have HC := Lib.hid hc
 have OK := Lib.hid ok
 have PL := Lib.hid pl
 have HW := Lib.hid hw2
 have HWK := Lib.hid hwk
 have HM := Lib.hid hM
 have hi2 := hI
 rw [hw2] at hi2
 obtain ⟨⟨q0, q1, q2, q3, q4⟩, -⟩ := cells5 hi2
 clear hi2 ha hc ok pl hw2 hwk hI hZ hb2 hs2 hbk hM
 go_enter Tryz.func56, Tryz.ntmps56
 go_wp2_with fail
 rw [← HW.out, ← HWK.out]
 clear q0 q1 q2 q3 q4
 go_loopg [7] l.length (fun g i wr => ∃ (k : Nat) (pq : Pl) (rq : Rp), i = .int .i64 (k : Int) ∧ k + g = l.length ∧ MrgD w p r l k pq rq wr)
 case atStart => exact ⟨0, p, r, rfl, by omega, HST.out⟩
 case round =>
  clear HST
  obtain ⟨k, pq, rq, rfl, hk, hst⟩ := hrel
  have HR := Lib.hid hst
  have hll2 := hst.ll
  have hlv2 := hst.lv
  have HEB := Lib.hid hst.eb.2
  clear hst
  by_cases hlt : k < l.length
  ·obtain ⟨m, hm⟩ := some_at hlt
   obtain ⟨b0, o0, rfl, hb0, x0, x1, x2, x3, x4, x5⟩ := move_cells (HC.out.keep HR.out.bel) hm
   have hk0 : (0 : Int) ≤ (k : Int) := by omega
   have hkl : (k : Int) < (l.length : Int) := by omega
   obtain ⟨o, ho⟩ : ∃ o, addF rq m = o := ⟨_, rfl⟩
   obtain ⟨r2, b, x⟩ := o
   have HO := Lib.hid ho
   have HMM := Lib.hid (show MvOk m from HM.out m (mem_at hm))
   have HFA := Lib.hid (addF_facts ho (HM.out m (mem_at hm)) HR.out.ml)
   have HSTEP := Lib.hid (HR.out.mg.symm.trans (mergeD_step (r := r) hm ho))
   have HOK := Lib.hid (show RpOk rq from ⟨by rw [HEB.out]; exact hlb, by omega, by omega, by rw [HEB.out]; exact OK.out.rb, HR.out.ml⟩)
   have hf2 := HFA.out.2.1
   have hf3 := HFA.out.2.2.1
   obtain ⟨⟨q0, q1, q2, q3, q4⟩, -⟩ := cells5 HR.out.ik
   have hKl := is_lt HR.out.ik
   have HAT := Lib.hid (show RpAt pq rq wr from ⟨by rw [HR.out.eb.1, HR.out.eb.2]; exact HA.out.b.keep HR.out.bel, HR.out.al, HR.out.av⟩)
   clear ho hm
   go_upto_region 5 with fail
   go_cut [8, 9, 10] (fun s8 s9 s10 wx => ∃ (J : Nat) (p2 : Pl), s8 = .pointer (some ⟨J, 0, none⟩) ∧ s9 = .bool b ∧ s10 = .int .i64 x ∧ Put5 wr pq rq p2 r2 J wx)
   case first =>
    go_region_with (go_at_call 45; refine (rfadd_w HO.out HOK.out HR.out.pl HMM.out (HAT.out.keep (by first | exact (Below.refl _ _).drew | exact ((Below.refl _ _).alloc (Nat.le_refl _) _).drew))).mono ?_; rintro e w5 ⟨p2, rfl, ha5, pl5, h15, h35, hb5, h25⟩; have H25 := Lib.hid h25; clear h25; have H15 := Lib.hid h15; clear h15; first | (have hz5 : Is w5 wr.heap.size 55 [.slice none 0 0, .int .i64 0, .int .i64 0, .slice none 0 0, .slice none 0 0] := is_below (w := (wr.alloc (.cells #[.slice none 0 0, .int .i64 0, .int .i64 0, .slice none 0 0, .slice none 0 0] 55)).drew) (is_new wr 55 [.slice none 0 0, .int .i64 0, .int .i64 0, .slice none 0 0, .slice none 0 0]) hb5 (Nat.lt_of_lt_of_eq (Nat.lt_succ_self _) (World.size_alloc _ _).symm); obtain ⟨⟨z0, z1, z2, z3, z4⟩, f0, f1, f2, f3, f4⟩ := cells5 hz5) | skip)
    all_goals (go_wp2_with fail; go_meet; first | exact ⟨_, p2, rfl, rfl, rfl, put5_late (Below.refl _ _).drew ha5 pl5 H15.out h35 hb5 H25.out⟩ | exact ⟨_, p2, rfl, rfl, rfl, put5_early (wq := (wr.alloc (.cells #[.slice none 0 0, .int .i64 0, .int .i64 0, .slice none 0 0, .slice none 0 0] 55)).drew) HAT.out ha5 pl5 H15.out (Nat.le_of_eq (World.size_alloc _ _).symm) h35 (((Below.refl _ _).alloc (Nat.le_refl _) _).drew) (is_new wr 55 [.slice none 0 0, .int .i64 0, .int .i64 0, .slice none 0 0, .slice none 0 0]) hb5 H25.out⟩)
   case rest =>
    obtain ⟨J, p2, rfl, rfl, rfl, hld⟩ := hcut
    have HLD := Lib.hid hld
    have HR6 := Lib.hid (HR.out.keep hld.bel)
    have HOFK : Hid (kvs r2.V = [] ∨ ∀ a, p2.A3 = some a → a.block ≠ w.heap.size + 1 + 1) := Lib.hid (by
     rcases hld.v with ⟨e1, e2⟩ | h
     ·rw [e1, e2]; exact HR.out.offK
     ·exact .inr fun a ha => by have := h a ha; omega)
    have HOFR : Hid (kvs r2.V = [] ∨ ∀ a, p2.A3 = some a → a.block ≠ w.heap.size + 1) := Lib.hid (by
     rcases hld.v with ⟨e1, e2⟩ | h
     ·rw [e1, e2]; exact HR.out.offR
     ·exact .inr fun a ha => by have := h a ha; omega)
    clear hld q0 q1 q2 q3 q4 x0 x1 x2 x3 x4 x5 hKl
    by_cases hx : x = 0
    ·subst hx
     have hstep := HSTEP.out
     rw [if_pos rfl] at hstep
     have HS2 := Lib.hid hstep
     clear hstep
     obtain ⟨⟨q0, q1, q2, q3, q4⟩, -⟩ := cells5 HLD.out.ij
     obtain ⟨⟨z0, z1, z2, z3, z4⟩, f0, f1, f2, f3, f4⟩ := cells5 HR6.out.ik
     go_wp2_with fail
     clear q0 q1 q2 q3 q4 z0 z1 z2 z3 z4 f0 f1 f2 f3 f4
     obtain ⟨w7, hw7⟩ : ∃ w7, w7 = set5 wc (w.heap.size + 1 + 1) (.slice p2.A1 r2.B.length p2.c1) (.int .i64 r2.fc) (.int .i64 r2.fr) (.slice p2.A2 r2.L.length p2.c2) (.slice p2.A3 r2.V.length p2.c3) := ⟨_, rfl⟩
     have hik7 : Is w7 (w.heap.size + 1 + 1) 55 [.slice p2.A1 r2.B.length p2.c1, .int .i64 r2.fc, .int .i64 r2.fr, .slice p2.A2 r2.L.length p2.c2, .slice p2.A3 r2.V.length p2.c3] := by rw [hw7]; exact set5_is HR6.out.ik
     have hk7 : ∀ j, j ≠ w.heap.size + 1 + 1 → w7.heap[j]? = wc.heap[j]? := fun j hj => by rw [hw7, set5_off j hj]
     have hs7 : w7.heap.size = wc.heap.size := by rw [hw7, set5_size]
     have hb7 : Below w.heap.size w w7 := by rw [hw7]; exact set5_below HR6.out.bel (by omega)
     unfold set5 at hw7
     rw [← hw7]
     have HNEW := Lib.hid (show MrgD w p r l (k + 1) p2 r2 w7 from ⟨hik7, (hk7 _ (by omega)).trans HR6.out.ig, (hk7 _ (by omega)).trans HR6.out.ir, ⟨HLD.out.b.1.trans HR6.out.eb.1, HLD.out.b.2.trans HR6.out.eb.2⟩, at_offG HLD.out.at_.l (moves_off HR6.out.ik rfl HLD.out.at_.l) hk7 hs7, at_offG HLD.out.at_.v HOFK.out hk7 hs7, HLD.out.pl, HFA.out.2.2.2, by omega, by omega, HOFK.out, HOFR.out, HS2.out.symm, hb7⟩)
     clear hik7 hk7 hs7 hb7
     go_roundg (gk - 1)
     case rel => exact ⟨k + 1, p2, r2, by go_num, by omega, HNEW.out⟩
     case measure => omega
    ·have hstep := HSTEP.out
     rw [if_neg hx] at hstep
     have HMF := Lib.hid hstep
     clear hstep
     obtain ⟨⟨q0, q1, q2, q3, q4⟩, -⟩ := cells5 HR6.out.ig
     obtain ⟨⟨z0, z1, z2, z3, z4⟩, f0, f1, f2, f3, f4⟩ := cells5 HR6.out.ir
     have HI9 := Lib.hid (set5_is (a0 := .slice p.A1 r.B.length p.c1) (a1 := .int .i64 r.fc) (a2 := .int .i64 r.fr) (a3 := .slice p.A2 r.L.length p.c2) (a4 := .slice p.A3 r.V.length p.c3) HR6.out.ir)
     have HB9 := Lib.hid (set5_below (a0 := .slice p.A1 r.B.length p.c1) (a1 := .int .i64 r.fc) (a2 := .int .i64 r.fr) (a3 := .slice p.A2 r.L.length p.c2) (a4 := .slice p.A3 r.V.length p.c3) (G := w.heap.size + 1) HR6.out.bel (by omega))
     go_wp2_with fail
     clear q0 q1 q2 q3 q4 z0 z1 z2 z3 z4 f0 f1 f2 f3 f4
     obtain ⟨w9, hw9⟩ : ∃ w9, w9 = set5 wc (w.heap.size + 1) (.slice p.A1 r.B.length p.c1) (.int .i64 r.fc) (.int .i64 r.fr) (.slice p.A2 r.L.length p.c2) (.slice p.A3 r.V.length p.c3) := ⟨_, rfl⟩
     have hi9 := HI9.out
     have hb9 := HB9.out
     rw [← hw9] at hi9 hb9
     unfold set5 at hw9
     rw [← hw9]
     obtain ⟨⟨j0, j1, j2, j3, j4⟩, -⟩ := cells5 hi9
     refine bodyPost_ret (v := .tuple #[.agg #[.slice p.A1 r.B.length p.c1, .int .i64 r.fc, .int .i64 r.fr, .slice p.A2 r.L.length p.c2, .slice p.A3 r.V.length p.c3], .int .i64 x]) (by simp [results, Tryz.f56, go_sem, j0, j1, j2, j3, j4]) rfl ?_
     exact ⟨p, by rw [HMF.out], by rw [HMF.out]; exact HA.out.keep hb9, by rw [HMF.out]; exact PL.out, hb9⟩
  ·obtain rfl : k = l.length := by omega
   have hmg := HR.out.mg
   rw [List.drop_length] at hmg
   have HMF : Hid (mergeD r r l = (rq, 0)) := Lib.hid hmg.symm
   have HAT := Lib.hid (show RpAt pq rq wr from ⟨by rw [HR.out.eb.1, HR.out.eb.2]; exact HA.out.b.keep HR.out.bel, HR.out.al, HR.out.av⟩)
   have HIk := Lib.hid HR.out.ik
   have HIr := Lib.hid HR.out.ir
   have HBr := Lib.hid HR.out.bel
   clear hmg
   obtain ⟨⟨q0, q1, q2, q3, q4⟩, -⟩ := cells5 HIk.out
   obtain ⟨⟨z0, z1, z2, z3, z4⟩, f0, f1, f2, f3, f4⟩ := cells5 HIr.out
   have HI9 := Lib.hid (set5_is (a0 := .slice pq.A1 rq.B.length pq.c1) (a1 := .int .i64 rq.fc) (a2 := .int .i64 rq.fr) (a3 := .slice pq.A2 rq.L.length pq.c2) (a4 := .slice pq.A3 rq.V.length pq.c3) HIr.out)
   have HB9 := Lib.hid (set5_below (a0 := .slice pq.A1 rq.B.length pq.c1) (a1 := .int .i64 rq.fc) (a2 := .int .i64 rq.fr) (a3 := .slice pq.A2 rq.L.length pq.c2) (a4 := .slice pq.A3 rq.V.length pq.c3) (G := w.heap.size + 1) HBr.out (by omega))
   go_wp2_with fail
   clear q0 q1 q2 q3 q4 z0 z1 z2 z3 z4 f0 f1 f2 f3 f4
   obtain ⟨w9, hw9⟩ : ∃ w9, w9 = set5 wr (w.heap.size + 1) (.slice pq.A1 rq.B.length pq.c1) (.int .i64 rq.fc) (.int .i64 rq.fr) (.slice pq.A2 rq.L.length pq.c2) (.slice pq.A3 rq.V.length pq.c3) := ⟨_, rfl⟩
   have hi9 := HI9.out
   have hb9 := HB9.out
   have hk9 : ∀ k, k ≠ w.heap.size + 1 → w9.heap[k]? = wr.heap[k]? := fun k hk => by rw [hw9, set5_off k hk]
   have hs9 : w9.heap.size = wr.heap.size := by rw [hw9, set5_size]
   rw [← hw9] at hi9 hb9
   unfold set5 at hw9
   rw [← hw9]
   obtain ⟨⟨j0, j1, j2, j3, j4⟩, -⟩ := cells5 hi9
   refine bodyPost_ret (v := .tuple #[.agg #[.slice pq.A1 rq.B.length pq.c1, .int .i64 rq.fc, .int .i64 rq.fr, .slice pq.A2 rq.L.length pq.c2, .slice pq.A3 rq.V.length pq.c3], .int .i64 0]) (by simp [results, Tryz.f56, go_sem, j0, j1, j2, j3, j4]) rfl ?_
   exact ⟨pq, by rw [HMF.out], by rw [HMF.out]; exact ⟨by rw [HR.out.eb.1, HR.out.eb.2]; exact HA.out.b.keep hb9, at_offG HAT.out.l (moves_off HIr.out rfl HAT.out.l) hk9 hs9, at_offG HAT.out.v HR.out.offR hk9 hs9⟩, by rw [HMF.out]; exact HR.out.pl, hb9⟩
theorem rfMerge_c {p : Pl} {r : Rp} (ok : RpOk r) (pl : RpPl p r) (A : Option Addr) (cap : Nat) (l : List Mv) (hll : l.length ≤ 200) (hbl : r.L.length ≤ 150) (hbv : r.V.length ≤ 150) (hM : Moves_ l) {w : World} (ha : RpAt p r w) (hc : At w w.heap.size A (mvs l)) :
  Calls Tryz.prog 56 #[.agg #[.slice p.A1 r.B.length p.c1, .int .i64 r.fc, .int .i64 r.fr, .slice p.A2 r.L.length p.c2, .slice p.A3 r.V.length p.c3], .slice A l.length cap] w (MrTold (mergeF r l).1 (mergeF r l).2 w) := by
 rw [← mergeD_F r l (by omega)]
 exact rmergeD_c ok pl A cap l hll hbl hbv hM ha hc
end Go.Proofs.YthhckdjagnlgpaaGreat
end
