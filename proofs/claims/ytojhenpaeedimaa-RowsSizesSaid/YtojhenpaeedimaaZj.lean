/-
 A list of moves that is read: the row that is made, and the loop's plain facts.
 A list of moves that is read: the program's.
-/
import Derived.Test.YtojhenpaeedimaaZg
import Derived.Laws.MakeOwn
section
namespace Go.Proofs.Ytojhenpaeedimaa
open Go.RowKit Go.IntWalk
open Pk Rf Fl Wd
set_option maxRecDepth 100000
attribute [local go_sem] Oper.semAt_some
theorem mvs_cons (m : Mv) (l : List Mv) : mvs (m :: l) = mcs m ++ mvs l := rfl
theorem mvs_zeros (n i : Nat) (h : i < n * 6) : (mvs (List.replicate n zM))[i]? = zeros6[i % 6]? := by
 induction n generalizing i with
 | zero => omega
 | succ n ih =>
  rw [List.replicate_succ, mvs_cons]
  by_cases h6 : i < 6
  ·rw [List.getElem?_append_left (by exact h6), Nat.mod_eq_of_lt h6]; rfl
  ·rw [List.getElem?_append_right (by show 6 ≤ i; omega), show (mcs zM).length = 6 from rfl, ih (i - 6) (by omega)]
   rw [show i % 6 = (i - 6) % 6 by omega]
theorem mvs_zeros_len (n : Nat) : (mvs (List.replicate n zM)).length = n * 6 := by
 induction n with
 | zero => rfl
 | succ n ih => rw [List.replicate_succ, mvs_cons, List.length_append, ih]; show 6 + n * 6 = _; omega
theorem made_zeros (n : Nat) : madeCells zeros6.toArray (n * 6) = (mvs (List.replicate n zM)).toArray := by
 apply Array.ext_getElem?
 intro i
 have h0 : (mvs (List.replicate n zM)).toArray[i]? = (mvs (List.replicate n zM))[i]? := by simp
 rw [h0]
 by_cases h : i < n * 6
 ·rw [mvs_zeros n i h]
  have h6 : i % 6 < 6 := Nat.mod_lt _ (by omega)
  have hz : zeros6.toArray.size = 6 := rfl
  simp only [madeCells, hz, Array.getElem?_map, Array.getElem?_range, h, if_true, Option.map_some]
  obtain ⟨v, hv⟩ : ∃ v, zeros6[i % 6]? = some v := ⟨_, List.getElem?_eq_getElem (by exact h6)⟩
  rw [hv]
  simp [hv]
 ·rw [List.getElem?_eq_none (by rw [mvs_zeros_len]; omega)]
  exact Array.getElem?_eq_none (by rw [size_madeCells]; omega)
theorem make_moves (n : Nat) (hn : n ≤ 2000) (W : World) :
  (Instr.makeSlice 22 (.int .u64 (n : Int)) (.int .u64 (n : Int))).run Try.prog W = .ok (.slice (some ⟨W.heap.size, 0, none⟩) n n) (W.alloc (.cells (mvs (List.replicate n zM)).toArray 30)) := by
 obtain ⟨i, hi, hzz⟩ : ∃ i, Try.prog.info? 30 = some i ∧ (i.zero, i.size, i.bytes) = (some (Value.agg zeros6.toArray), 6, 56) := by
  have hinfo : (Try.prog.info? 30).map (fun i => (i.zero, i.size, i.bytes)) = some (some (Value.agg zeros6.toArray), 6, 56) := by kernel_rfl
  exact Option.map_eq_some_iff.1 hinfo
 simp only [Prod.mk.injEq] at hzz
 obtain ⟨hz, hs, hb⟩ := hzz
 have hr := run_make (P := Try.prog) W 22 30 i _ Try.underlying22 hi hz .u64 .u64 n n (by omega) (Int.le_refl _) (by rw [hb]; omega) (by omega)
 simp only [Int.toNat_natCast, hs] at hr
 rw [hr, show (Value.agg zeros6.toArray).cells = zeros6.toArray from rfl, made_zeros]
/-- the loop of list: behind k moves -/
def Lst (f : List UInt8) (n : Nat) (s0 : St) (k : Nat) (c r : Int) (s : St) (done : List Mv) : Prop :=
 (rdL f n 0 0 s0).2.1 = (rdL f (n - k) c r s).2.1 ∧
  ((rdL f (n - k) c r s).2.1 = 0 → (rdL f n 0 0 s0).1 = done ++ (rdL f (n - k) c r s).1 ∧ (rdL f n 0 0 s0).2.2 = (rdL f (n - k) c r s).2.2)
theorem Lst.start (f : List UInt8) (n : Nat) (s0 : St) : Lst f n s0 0 0 0 s0 [] := ⟨rfl, fun _ => ⟨rfl, rfl⟩⟩
theorem rdL_err {f : List UInt8} {j : Nat} {c r e : Int} {s s' : St} {m : Mv} (hm : rdM f s = (m, e, s')) (he : e ≠ 0) : (rdL f (j + 1) c r s).2.1 = e := by
 simp only [rdL, hm]
 rw [if_pos he]
theorem rdL_order {f : List UInt8} {j : Nat} {c r : Int} {s s' : St} {m : Mv} (hm : rdM f s = (m, 0, s')) (hb : ¬ (c < mc m ∨ c = mc m ∧ r < mr m)) : (rdL f (j + 1) c r s).2.1 = 12 := by
 simp only [rdL, hm]
 rw [if_neg (by simp), if_neg hb]
theorem Lst.err {f : List UInt8} {n k : Nat} {s0 s s' : St} {c r e : Int} {done : List Mv} {m : Mv} (h : Lst f n s0 k c r s done) (hk : k < n) (hm : rdM f s = (m, e, s')) (he : e ≠ 0) :
  (rdL f n 0 0 s0).2.1 = e := by
 obtain ⟨j, hj⟩ : ∃ j, n - k = j + 1 := ⟨n - k - 1, by omega⟩
 rw [h.1, hj, rdL_err hm he]
theorem Lst.order {f : List UInt8} {n k : Nat} {s0 s s' : St} {c r : Int} {done : List Mv} {m : Mv} (h : Lst f n s0 k c r s done) (hk : k < n) (hm : rdM f s = (m, 0, s')) (hb : ¬ (c < mc m ∨ c = mc m ∧ r < mr m)) :
  (rdL f n 0 0 s0).2.1 = 12 := by
 obtain ⟨j, hj⟩ : ∃ j, n - k = j + 1 := ⟨n - k - 1, by omega⟩
 rw [h.1, hj, rdL_order hm hb]
theorem Lst.step {f : List UInt8} {n k : Nat} {s0 s s' : St} {c r : Int} {done : List Mv} {m : Mv} (h : Lst f n s0 k c r s done) (hk : k < n) (hm : rdM f s = (m, 0, s')) (hb : c < mc m ∨ c = mc m ∧ r < mr m) :
  Lst f n s0 (k + 1) (mc m) (mr m) s' (done ++ [m]) := by
 obtain ⟨j, hj⟩ : ∃ j, n - k = j + 1 := ⟨n - k - 1, by omega⟩
 unfold Lst at h ⊢
 rw [hj] at h
 rw [show n - (k + 1) = j by omega]
 by_cases he : (rdL f j (mc m) (mr m) s').2.1 = 0
 ·have hs : rdL f (j + 1) c r s = (m :: (rdL f j (mc m) (mr m) s').1, 0, (rdL f j (mc m) (mr m) s').2.2) := by
   simp only [rdL, hm]
   rw [if_neg (by simp), if_pos hb, if_neg (by simp [he])]
  rw [hs] at h
  refine ⟨by rw [h.1, he], fun _ => ?_⟩
  have h2 := h.2 rfl
  simp only at h2
  rw [h2.1, h2.2, List.append_assoc]
  exact ⟨rfl, rfl⟩
 ·have hs : (rdL f (j + 1) c r s).2.1 = (rdL f j (mc m) (mr m) s').2.1 := by
   simp only [rdL, hm]
   rw [if_neg (by simp), if_pos hb, if_pos he]
  exact ⟨by rw [h.1, hs], fun h0 => absurd h0 he⟩
theorem Lst.last {f : List UInt8} {n : Nat} {s0 s : St} {c r : Int} {done : List Mv} (h : Lst f n s0 n c r s done) : rdL f n 0 0 s0 = (done, 0, s) := by
 unfold Lst at h
 rw [Nat.sub_self] at h
 have h2 := h.2 rfl
 have h1 := h.1
 simp only [rdL, List.append_nil] at h1 h2
 exact Prod.ext h2.1 (Prod.ext h1 h2.2)
end Go.Proofs.Ytojhenpaeedimaa
end
section
namespace Go.Proofs.Ytojhenpaeedimaa
open Go.RowKit Go.IntWalk
open Pk Rf Fl Wd
set_option maxRecDepth 100000
attribute [local go_sem] Oper.semAt_some
theorem mvs_len6 (l : List Mv) : (mvs l).length = l.length * 6 := by
 induction l with
 | nil => rfl
 | cons m t ih => rw [mvs_cons, List.length_append, ih, List.length_cons]; show 6 + t.length * 6 = _; omega
theorem mvs_app (a b : List Mv) : mvs (a ++ b) = mvs a ++ mvs b := by unfold mvs; rw [List.flatMap_append]
theorem set_past {α : Type} (a b : List α) (n j : Nat) (v : α) (h : a.length = n) : (a ++ b).set (n + j) v = a ++ b.set j v := by
 rw [List.set_append_right _ _ (by omega), show n + j - a.length = j by omega]
theorem mvs_put (done : List Mv) (j : Nat) (m : Mv) (k : Nat) (hk : done.length = k) :
  ((((((mvs (done ++ List.replicate (j + 1) zM)).set (k * 6) (.int .i64 (mc m))).set (k * 6 + 1) (.int .i64 (mr m))).set (k * 6 + 2) (.int .i64 (pa (mw m)))).set (k * 6 + 3) (.int .i64 (ch (mw m)))).set (k * 6 + 4) (.string (ba (nm (mw m))))).set (k * 6 + 5) (.float .f64 (rk (mw m))) = mvs ((done ++ [m]) ++ List.replicate j zM) := by
 have hl : (mvs done).length = k * 6 := by rw [mvs_len6, hk]
 rw [mvs_app, List.replicate_succ, mvs_cons, show k * 6 = k * 6 + 0 from rfl]
 rw [set_past _ _ _ _ _ hl, show k * 6 + 0 + 1 = k * 6 + 1 from rfl, set_past _ _ _ _ _ hl, show k * 6 + 0 + 2 = k * 6 + 2 from rfl, set_past _ _ _ _ _ hl, show k * 6 + 0 + 3 = k * 6 + 3 from rfl, set_past _ _ _ _ _ hl, show k * 6 + 0 + 4 = k * 6 + 4 from rfl, set_past _ _ _ _ _ hl, show k * 6 + 0 + 5 = k * 6 + 5 from rfl, set_past _ _ _ _ _ hl]
 rw [mvs_app, mvs_app, List.append_assoc]
 rfl
/-- the loop of list under way -/
structure LiAt (w : World) (f : List UInt8) (g L T n : Nat) (W : World) (k : Nat) (c r : Int) (s : St) (done : List Mv) : Prop where
 box : Is W w.heap.size 59 [.pointer (some ⟨g, 0, none⟩), .string (ba f)]
 list : Is W L 30 (mvs (done ++ List.replicate (n - k) zM))
 ahead : Is W T 27 [.int .i64 c, .int .i64 r]
 rdr : Rdr W g s
 own : w.grownBy W (some g)
 gl : g < w.heap.size
 wL : w.heap.size < L
 LT : L < T
 len : done.length = k
theorem LiAt.grow {w W W' : World} {f : List UInt8} {g L T n k : Nat} {c r : Int} {s s' : St} {done : List Mv} (h : LiAt w f g L T n W k c r s done) (q : W.grownBy W' (some g)) (hr : Rdr W' g s') : LiAt w f g L T n W' k c r s' done :=
 ⟨is_grown h.box q (by have := h.gl; intro e; injection e; omega), is_grown h.list q (by have := h.gl; have := h.wL; intro e; injection e; omega), is_grown h.ahead q (by have := h.gl; have := h.wL; have := h.LT; intro e; injection e; omega), hr, grown_thenG h.own q, h.gl, h.wL, h.LT, h.len⟩
theorem LiAt.below {w W W' : World} {f : List UInt8} {g L T n k : Nat} {c r : Int} {s : St} {done : List Mv} (h : LiAt w f g L T n W k c r s done) (q : Below W.heap.size W W') : LiAt w f g L T n W' k c r s done :=
 h.grow (only_below q g) (rdr_keep h.rdr q)
theorem LiAt.put {w W : World} {f : List UInt8} {g L T n k : Nat} {c r : Int} {s : St} {done : List Mv} (h : LiAt w f g L T n W k c r s done) (hk : k < n) (m : Mv) :
  LiAt w f g L T n ((((((((W.setCell ⟨L, k * 6, none⟩ (.int .i64 (mc m))).setCell ⟨L, k * 6 + 1, none⟩ (.int .i64 (mr m))).setCell ⟨L, k * 6 + 2, none⟩ (.int .i64 (pa (mw m)))).setCell ⟨L, k * 6 + 3, none⟩ (.int .i64 (ch (mw m)))).setCell ⟨L, k * 6 + 4, none⟩ (.string (ba (nm (mw m))))).setCell ⟨L, k * 6 + 5, none⟩ (.float .f64 (rk (mw m)))).setCell ⟨T, 0, none⟩ (.int .i64 (mc m))).setCell ⟨T, 1, none⟩ (.int .i64 (mr m)))
   (k + 1) (mc m) (mr m) s (done ++ [m]) := by
 have hg := h.gl
 have hL := h.wL
 have hT := h.LT
 obtain ⟨j, hj⟩ : ∃ j, n - k = j + 1 := ⟨n - k - 1, by omega⟩
 have e1 : w.heap.size ≠ L := by omega
 have e2 : w.heap.size ≠ T := by omega
 have e3 : g ≠ L := by omega
 have e4 : g ≠ T := by omega
 have e5 : L ≠ T := by omega
 have e6 : T ≠ L := by omega
 have z1 : w.heap.size ≤ L := by omega
 have z2 : w.heap.size ≤ T := by omega
 refine ⟨?_, ?_, ?_, ?_, ?_, hg, hL, hT, by rw [List.length_append, h.len]; rfl⟩
 ·exact is_far (is_far (is_far (is_far (is_far (is_far (is_far (is_far h.box _ e1 _) _ e1 _) _ e1 _) _ e1 _) _ e1 _) _ e1 _) _ e2 _) _ e2 _
 ·have hl := h.list
  rw [hj] at hl
  rw [show n - (k + 1) = j by omega, ← mvs_put done j m k h.len]
  exact is_far (is_far (is_set (is_set (is_set (is_set (is_set (is_set hl _ _) _ _) _ _) _ _) _ _) _ _) _ e5 _) _ e5 _
 ·exact is_set (is_set (is_far (is_far (is_far (is_far (is_far (is_far h.ahead _ e6 _) _ e6 _) _ e6 _) _ e6 _) _ e6 _) _ e6 _) 0 (.int .i64 (mc m))) 1 (.int .i64 (mr m))
 ·exact is_far (is_far (is_far (is_far (is_far (is_far (is_far (is_far h.rdr _ e3 _) _ e3 _) _ e3 _) _ e3 _) _ e3 _) _ e3 _) _ e4 _) _ e4 _
 ·exact set1_grown (set1_grown (set1_grown (set1_grown (set1_grown (set1_grown (set1_grown (set1_grown h.own z1) z1) z1) z1) z1) z1) z2) z2
end Go.Proofs.Ytojhenpaeedimaa
end
