/-
 A list of moves that is read: the row that is made, and the loop's plain facts.
 A list of moves that is read: the program's.
 A list of moves that is read: the program's.
 Decode: the program's.
 Decode: the document's.
-/
import Derived.Test.YtojhenpaeedimaaGreatZg
import Derived.Laws.MakeOwn
import Derived.Test.YtojhenpaeedimaaGreatZe
import Derived.Test.YtojhenpaeedimaaGreatMg
import Derived.Test.YtojhenpaeedimaaGreatBl
import Derived.Test.YtojhenpaeedimaaGreatOa
import Derived.Test.YtojhenpaeedimaaGreatEe
import Derived.Deep.QuietTactic
import Derived.BigQuiet
import Derived.Test.YtojhenpaeedimaaGreatUg
import Derived.Test.YtojhenpaeedimaaGreatTl
section
namespace Go.Proofs.YtojhenpaeedimaaGreat
open Go.RowKit Go.IntWalk
open Pk Rf Fl Wd
set_option maxRecDepth 100000
attribute [local go_sem] Oper.semAt_some
theorem mvs_cons (m : Mv) (l : List Mv) : mvs (m :: l) = mcs m ++ mvs l := rfl
theorem mvs_zeros (n i : Nat) (h : i < n * 6) : (mvs (List.replicate n zM))[i]? = zeros6[i % 6]? := by
 induction n generalizing i with
 | zero => omega
 | succ n ih =>
  rw [List.replicate_succ, mvs_cons]
  by_cases h6 : i < 6
  ·rw [List.getElem?_append_left (by exact h6), Nat.mod_eq_of_lt h6]; rfl
  ·rw [List.getElem?_append_right (by show 6 ≤ i; omega), show (mcs zM).length = 6 from rfl, ih (i - 6) (by omega)]
   rw [show i % 6 = (i - 6) % 6 by omega]
theorem mvs_zeros_len (n : Nat) : (mvs (List.replicate n zM)).length = n * 6 := by
 induction n with
 | zero => rfl
 | succ n ih => rw [List.replicate_succ, mvs_cons, List.length_append, ih]; show 6 + n * 6 = _; omega
theorem made_zeros (n : Nat) : madeCells zeros6.toArray (n * 6) = (mvs (List.replicate n zM)).toArray := by
 apply Array.ext_getElem?
 intro i
 have h0 : (mvs (List.replicate n zM)).toArray[i]? = (mvs (List.replicate n zM))[i]? := by simp
 rw [h0]
 by_cases h : i < n * 6
 ·rw [mvs_zeros n i h]
  have h6 : i % 6 < 6 := Nat.mod_lt _ (by omega)
  have hz : zeros6.toArray.size = 6 := rfl
  simp only [madeCells, hz, Array.getElem?_map, Array.getElem?_range, h, if_true, Option.map_some]
  obtain ⟨v, hv⟩ : ∃ v, zeros6[i % 6]? = some v := ⟨_, List.getElem?_eq_getElem (by exact h6)⟩
  rw [hv]
  simp [hv]
 ·rw [List.getElem?_eq_none (by rw [mvs_zeros_len]; omega)]
  exact Array.getElem?_eq_none (by rw [size_madeCells]; omega)
theorem make_moves (n : Nat) (hn : n ≤ 2000) (W : World) :
  (Instr.makeSlice 22 (.int .u64 (n : Int)) (.int .u64 (n : Int))).run Tryz.prog W = .ok (.slice (some ⟨W.heap.size, 0, none⟩) n n) (W.alloc (.cells (mvs (List.replicate n zM)).toArray 51)) := by
 obtain ⟨i, hi, hzz⟩ : ∃ i, Tryz.prog.info? 51 = some i ∧ (i.zero, i.size, i.bytes) = (some (Value.agg zeros6.toArray), 6, 56) := by
  have hinfo : (Tryz.prog.info? 51).map (fun i => (i.zero, i.size, i.bytes)) = some (some (Value.agg zeros6.toArray), 6, 56) := by kernel_rfl
  exact Option.map_eq_some_iff.1 hinfo
 simp only [Prod.mk.injEq] at hzz
 obtain ⟨hz, hs, hb⟩ := hzz
 have hr := run_make (P := Tryz.prog) W 22 51 i _ Tryz.underlying22 hi hz .u64 .u64 n n (by omega) (Int.le_refl _) (by rw [hb]; omega) (by omega)
 simp only [Int.toNat_natCast, hs] at hr
 rw [hr, show (Value.agg zeros6.toArray).cells = zeros6.toArray from rfl, made_zeros]
/-- the loop of list: behind k moves -/
def Lst (f : List UInt8) (n : Nat) (s0 : St) (k : Nat) (c r : Int) (s : St) (done : List Mv) : Prop :=
 (rdL f n 0 0 s0).2.1 = (rdL f (n - k) c r s).2.1 ∧
  ((rdL f (n - k) c r s).2.1 = 0 → (rdL f n 0 0 s0).1 = done ++ (rdL f (n - k) c r s).1 ∧ (rdL f n 0 0 s0).2.2 = (rdL f (n - k) c r s).2.2)
theorem Lst.start (f : List UInt8) (n : Nat) (s0 : St) : Lst f n s0 0 0 0 s0 [] := ⟨rfl, fun _ => ⟨rfl, rfl⟩⟩
theorem rdL_err {f : List UInt8} {j : Nat} {c r e : Int} {s s' : St} {m : Mv} (hm : rdM f s = (m, e, s')) (he : e ≠ 0) : (rdL f (j + 1) c r s).2.1 = e := by
 simp only [rdL, hm]
 rw [if_pos he]
theorem rdL_order {f : List UInt8} {j : Nat} {c r : Int} {s s' : St} {m : Mv} (hm : rdM f s = (m, 0, s')) (hb : ¬ (c < mc m ∨ c = mc m ∧ r < mr m)) : (rdL f (j + 1) c r s).2.1 = 12 := by
 simp only [rdL, hm]
 rw [if_neg (by simp), if_neg hb]
theorem Lst.err {f : List UInt8} {n k : Nat} {s0 s s' : St} {c r e : Int} {done : List Mv} {m : Mv} (h : Lst f n s0 k c r s done) (hk : k < n) (hm : rdM f s = (m, e, s')) (he : e ≠ 0) :
  (rdL f n 0 0 s0).2.1 = e := by
 obtain ⟨j, hj⟩ : ∃ j, n - k = j + 1 := ⟨n - k - 1, by omega⟩
 rw [h.1, hj, rdL_err hm he]
theorem Lst.order {f : List UInt8} {n k : Nat} {s0 s s' : St} {c r : Int} {done : List Mv} {m : Mv} (h : Lst f n s0 k c r s done) (hk : k < n) (hm : rdM f s = (m, 0, s')) (hb : ¬ (c < mc m ∨ c = mc m ∧ r < mr m)) :
  (rdL f n 0 0 s0).2.1 = 12 := by
 obtain ⟨j, hj⟩ : ∃ j, n - k = j + 1 := ⟨n - k - 1, by omega⟩
 rw [h.1, hj, rdL_order hm hb]
theorem Lst.step {f : List UInt8} {n k : Nat} {s0 s s' : St} {c r : Int} {done : List Mv} {m : Mv} (h : Lst f n s0 k c r s done) (hk : k < n) (hm : rdM f s = (m, 0, s')) (hb : c < mc m ∨ c = mc m ∧ r < mr m) :
  Lst f n s0 (k + 1) (mc m) (mr m) s' (done ++ [m]) := by
 obtain ⟨j, hj⟩ : ∃ j, n - k = j + 1 := ⟨n - k - 1, by omega⟩
 unfold Lst at h ⊢
 rw [hj] at h
 rw [show n - (k + 1) = j by omega]
 by_cases he : (rdL f j (mc m) (mr m) s').2.1 = 0
 ·have hs : rdL f (j + 1) c r s = (m :: (rdL f j (mc m) (mr m) s').1, 0, (rdL f j (mc m) (mr m) s').2.2) := by
   simp only [rdL, hm]
   rw [if_neg (by simp), if_pos hb, if_neg (by simp [he])]
  rw [hs] at h
  refine ⟨by rw [h.1, he], fun _ => ?_⟩
  have h2 := h.2 rfl
  simp only at h2
  rw [h2.1, h2.2, List.append_assoc]
  exact ⟨rfl, rfl⟩
 ·have hs : (rdL f (j + 1) c r s).2.1 = (rdL f j (mc m) (mr m) s').2.1 := by
   simp only [rdL, hm]
   rw [if_neg (by simp), if_pos hb, if_pos he]
  exact ⟨by rw [h.1, hs], fun h0 => absurd h0 he⟩
theorem Lst.last {f : List UInt8} {n : Nat} {s0 s : St} {c r : Int} {done : List Mv} (h : Lst f n s0 n c r s done) : rdL f n 0 0 s0 = (done, 0, s) := by
 unfold Lst at h
 rw [Nat.sub_self] at h
 have h2 := h.2 rfl
 have h1 := h.1
 simp only [rdL, List.append_nil] at h1 h2
 exact Prod.ext h2.1 (Prod.ext h1 h2.2)
end Go.Proofs.YtojhenpaeedimaaGreat
end
section
namespace Go.Proofs.YtojhenpaeedimaaGreat
open Go.RowKit Go.IntWalk
open Pk Rf Fl Wd
set_option maxRecDepth 100000
attribute [local go_sem] Oper.semAt_some
theorem mvs_len6 (l : List Mv) : (mvs l).length = l.length * 6 := by
 induction l with
 | nil => rfl
 | cons m t ih => rw [mvs_cons, List.length_append, ih, List.length_cons]; show 6 + t.length * 6 = _; omega
theorem mvs_app (a b : List Mv) : mvs (a ++ b) = mvs a ++ mvs b := by unfold mvs; rw [List.flatMap_append]
theorem set_past {α : Type} (a b : List α) (n j : Nat) (v : α) (h : a.length = n) : (a ++ b).set (n + j) v = a ++ b.set j v := by
 rw [List.set_append_right _ _ (by omega), show n + j - a.length = j by omega]
theorem mvs_put (done : List Mv) (j : Nat) (m : Mv) (k : Nat) (hk : done.length = k) :
  ((((((mvs (done ++ List.replicate (j + 1) zM)).set (k * 6) (.int .i64 (mc m))).set (k * 6 + 1) (.int .i64 (mr m))).set (k * 6 + 2) (.int .i64 (pa (mw m)))).set (k * 6 + 3) (.int .i64 (ch (mw m)))).set (k * 6 + 4) (.string (ba (nm (mw m))))).set (k * 6 + 5) (.float .f64 (rk (mw m))) = mvs ((done ++ [m]) ++ List.replicate j zM) := by
 have hl : (mvs done).length = k * 6 := by rw [mvs_len6, hk]
 rw [mvs_app, List.replicate_succ, mvs_cons, show k * 6 = k * 6 + 0 from rfl]
 rw [set_past _ _ _ _ _ hl, show k * 6 + 0 + 1 = k * 6 + 1 from rfl, set_past _ _ _ _ _ hl, show k * 6 + 0 + 2 = k * 6 + 2 from rfl, set_past _ _ _ _ _ hl, show k * 6 + 0 + 3 = k * 6 + 3 from rfl, set_past _ _ _ _ _ hl, show k * 6 + 0 + 4 = k * 6 + 4 from rfl, set_past _ _ _ _ _ hl, show k * 6 + 0 + 5 = k * 6 + 5 from rfl, set_past _ _ _ _ _ hl]
 rw [mvs_app, mvs_app, List.append_assoc]
 rfl
/-- the loop of list under way -/
structure LiAt (w : World) (f : List UInt8) (g L T n : Nat) (W : World) (k : Nat) (c r : Int) (s : St) (done : List Mv) : Prop where
 box : Is W w.heap.size 120 [.pointer (some ⟨g, 0, none⟩), .string (ba f)]
 list : Is W L 51 (mvs (done ++ List.replicate (n - k) zM))
 ahead : Is W T 48 [.int .i64 c, .int .i64 r]
 rdr : Rdr W g s
 own : w.grownBy W (some g)
 gl : g < w.heap.size
 wL : w.heap.size < L
 LT : L < T
 len : done.length = k
theorem LiAt.grow {w W W' : World} {f : List UInt8} {g L T n k : Nat} {c r : Int} {s s' : St} {done : List Mv} (h : LiAt w f g L T n W k c r s done) (q : W.grownBy W' (some g)) (hr : Rdr W' g s') : LiAt w f g L T n W' k c r s' done :=
 ⟨is_grown h.box q (by have := h.gl; intro e; injection e; omega), is_grown h.list q (by have := h.gl; have := h.wL; intro e; injection e; omega), is_grown h.ahead q (by have := h.gl; have := h.wL; have := h.LT; intro e; injection e; omega), hr, grown_thenG h.own q, h.gl, h.wL, h.LT, h.len⟩
theorem LiAt.below {w W W' : World} {f : List UInt8} {g L T n k : Nat} {c r : Int} {s : St} {done : List Mv} (h : LiAt w f g L T n W k c r s done) (q : Below W.heap.size W W') : LiAt w f g L T n W' k c r s done :=
 h.grow (only_below q g) (rdr_keep h.rdr q)
theorem LiAt.put {w W : World} {f : List UInt8} {g L T n k : Nat} {c r : Int} {s : St} {done : List Mv} (h : LiAt w f g L T n W k c r s done) (hk : k < n) (m : Mv) :
  LiAt w f g L T n ((((((((W.setCell ⟨L, k * 6, none⟩ (.int .i64 (mc m))).setCell ⟨L, k * 6 + 1, none⟩ (.int .i64 (mr m))).setCell ⟨L, k * 6 + 2, none⟩ (.int .i64 (pa (mw m)))).setCell ⟨L, k * 6 + 3, none⟩ (.int .i64 (ch (mw m)))).setCell ⟨L, k * 6 + 4, none⟩ (.string (ba (nm (mw m))))).setCell ⟨L, k * 6 + 5, none⟩ (.float .f64 (rk (mw m)))).setCell ⟨T, 0, none⟩ (.int .i64 (mc m))).setCell ⟨T, 1, none⟩ (.int .i64 (mr m)))
   (k + 1) (mc m) (mr m) s (done ++ [m]) := by
 have hg := h.gl
 have hL := h.wL
 have hT := h.LT
 obtain ⟨j, hj⟩ : ∃ j, n - k = j + 1 := ⟨n - k - 1, by omega⟩
 have e1 : w.heap.size ≠ L := by omega
 have e2 : w.heap.size ≠ T := by omega
 have e3 : g ≠ L := by omega
 have e4 : g ≠ T := by omega
 have e5 : L ≠ T := by omega
 have e6 : T ≠ L := by omega
 have z1 : w.heap.size ≤ L := by omega
 have z2 : w.heap.size ≤ T := by omega
 refine ⟨?_, ?_, ?_, ?_, ?_, hg, hL, hT, by rw [List.length_append, h.len]; rfl⟩
 ·exact is_far (is_far (is_far (is_far (is_far (is_far (is_far (is_far h.box _ e1 _) _ e1 _) _ e1 _) _ e1 _) _ e1 _) _ e1 _) _ e2 _) _ e2 _
 ·have hl := h.list
  rw [hj] at hl
  rw [show n - (k + 1) = j by omega, ← mvs_put done j m k h.len]
  exact is_far (is_far (is_set (is_set (is_set (is_set (is_set (is_set hl _ _) _ _) _ _) _ _) _ _) _ _) _ e5 _) _ e5 _
 ·exact is_set (is_set (is_far (is_far (is_far (is_far (is_far (is_far h.ahead _ e6 _) _ e6 _) _ e6 _) _ e6 _) _ e6 _) _ e6 _) 0 (.int .i64 (mc m))) 1 (.int .i64 (mr m))
 ·exact is_far (is_far (is_far (is_far (is_far (is_far (is_far (is_far h.rdr _ e3 _) _ e3 _) _ e3 _) _ e3 _) _ e3 _) _ e3 _) _ e4 _) _ e4 _
 ·exact set1_grown (set1_grown (set1_grown (set1_grown (set1_grown (set1_grown (set1_grown (set1_grown h.own z1) z1) z1) z1) z1) z1) z2) z2
end Go.Proofs.YtojhenpaeedimaaGreat
end
section
namespace Go.Proofs.YtojhenpaeedimaaGreat
open Go.RowKit Go.IntWalk
open Pk Rf Fl Wd
set_option maxRecDepth 100000
attribute [local go_sem] Oper.semAt_some
theorem rdM_le {f : List UInt8} {s s' : St} {m : Mv} {e : Int} (h : rdM f s = (m, e, s')) : s'.l.length ≤ s.l.length := by
 have a1 := numS_le s
 have a2 := numS_le (numS s)
 have a3 := numS_le (numS (numS s))
 have a4 := numS_le (numS (numS (numS s)))
 have a5 := fun n => takeS_le n (numS (numS (numS (numS s))))
 unfold rdM at h
 simp only at h
 split at h
 ·cases h; omega
 ·split at h
  ·cases h; omega
  ·have a6 := a5 ((tk f (↑f.length - ↑(numS (numS (numS (numS s)))).l.length) 64).2.1 - (↑f.length - ↑(numS (numS (numS (numS s)))).l.length))
   have a7 := fixS_le (takeS ((tk f (↑f.length - ↑(numS (numS (numS (numS s)))).l.length) 64).2.1 - (↑f.length - ↑(numS (numS (numS (numS s)))).l.length)) (numS (numS (numS (numS s)))))
   split at h
   ·cases h; omega
   ·split at h <;> (cases h; omega)
theorem LiAt.cells {w W : World} {f : List UInt8} {g L T n k : Nat} {c r : Int} {s : St} {done : List Mv} (h : LiAt w f g L T n W k c r s done) (hk : k < n) (j : Nat) (hj : j < 6) :
  ∃ u, W.cell? ⟨L, k * 6 + j, none⟩ = some u := is_at h.list (by rw [mvs_len6, List.length_append, List.length_replicate, h.len]; omega)
def ListEnd (f : List UInt8) (g : Nat) (s : St) (w : World) (e : Ending) (w' : World) : Prop :=
 w.grownBy w' (some g) ∧
 (if (numS s).e ≠ 0 then e = .returned (.tuple #[.slice none 0 0, .int .i64 (numS s).e])
  else if 2000 < numV s then e = .returned (.tuple #[.slice none 0 0, .int .i64 10])
  else if (rdL f (numV s) 0 0 (numS s)).2.1 ≠ 0 then e = .returned (.tuple #[.slice none 0 0, .int .i64 (rdL f (numV s) 0 0 (numS s)).2.1])
  else ∃ L, e = .returned (.tuple #[.slice (some ⟨L, 0, none⟩) (rdL f (numV s) 0 0 (numS s)).1.length (rdL f (numV s) 0 0 (numS s)).1.length, .int .i64 0]) ∧ w.heap.size ≤ L ∧ L ≠ g ∧
   Is w' L 51 (mvs (rdL f (numV s) 0 0 (numS s)).1) ∧ Rdr w' g (rdL f (numV s) 0 0 (numS s)).2.2)
set_option maxHeartbeats 4000000 in
theorem list_c (g : Nat) (f : List UInt8) (s : St) (hf : f.length ≤ 100000000) (hs : s.l.length ≤ f.length) (w : World) (h : Rdr w g s) :
  Calls Tryz.prog 90 #[.agg #[.pointer (some ⟨g, 0, none⟩), .string (ba f)]] w (ListEnd f g s w) := by
 have hg := is_lt h
 obtain ⟨W1, hW1⟩ : ∃ W1, W1 = w.alloc (.cells #[.pointer (some ⟨g, 0, none⟩), .string (ba f)] 120) := ⟨_, rfl⟩
 have b1 : Below w.heap.size w W1 := by rw [hW1]; exact (Below.refl _ _).alloc (Nat.le_refl _) _
 have hi : Is W1 w.heap.size 120 [.pointer (some ⟨g, 0, none⟩), .string (ba f)] := by rw [hW1]; exact is_new w 120 _
 have HI := Lib.hid hi
 have HB1 := Lib.hid b1
 have HR1 := Lib.hid (rdr_keep h b1)
 have HW := Lib.hid hW1
 obtain ⟨s1, hs1⟩ : ∃ s1, numS s = s1 := ⟨_, rfl⟩
 obtain ⟨n, hn⟩ : ∃ n, numV s = n := ⟨_, rfl⟩
 have hl1 := numS_le s
 rw [hs1] at hl1
 have HS1 := Lib.hid hs1
 have HN := Lib.hid hn
 have y0 : W1.cell? ⟨w.heap.size, 0, none⟩ = some (.pointer (some ⟨g, 0, none⟩)) := is_cell hi 0
 clear hi b1 h hW1 hs1 hn
 go_enter Tryz.func90, Tryz.ntmps90
 go_wp2_with fail
 rw [← HW.out]
 refine (num_m g s _ HR1.out).mono ?_
 rintro e W2 ⟨rfl, hr2, hk2⟩
 rw [HS1.out] at hr2
 rw [HN.out]
 have hne : w.heap.size ≠ g := by omega
 have hi2 : Is W2 w.heap.size 120 [.pointer (some ⟨g, 0, none⟩), .string (ba f)] := is_grown HI.out hk2 (by intro e; injection e; omega)
 have z0 : W2.cell? ⟨w.heap.size, 0, none⟩ = some (.pointer (some ⟨g, 0, none⟩)) := is_cell hi2 0
 have HG2 := Lib.hid (below_thenG HB1.out hk2)
 have HI2 := Lib.hid hi2
 have HR2 := Lib.hid hr2
 clear hr2 hk2 hi2 y0
 go_wp2_with fail
 refine (err_c g s1 _ HR2.out).mono ?_
 rintro e W3 ⟨rfl, rfl⟩
 by_cases he : s1.e = 0
 ·have hq1 : (s1.e != 0) = false := by rw [he]; rfl
  have hq2 : (s1.e == 0) = true := by rw [he]; rfl
  by_cases hb : 2000 < n
  ·have hbi : (2000 : Int) < (n : Int) := by omega
   go_wp2_with fail
   go_ret2
   refine ⟨HG2.out, ?_⟩
   rw [HS1.out, HN.out, if_neg (by rw [he]; simp), if_pos hb]
   rfl
  ·have hbi : ¬ ((2000 : Int) < (n : Int)) := by omega
   have hmk := make_moves n (by omega)
   have hend : ∀ e w', ListEnd f g s w e w' = (w.grownBy w' (some g) ∧ (if (rdL f n 0 0 s1).2.1 ≠ 0 then e = .returned (.tuple #[.slice none 0 0, .int .i64 (rdL f n 0 0 s1).2.1])
     else ∃ L, e = .returned (.tuple #[.slice (some ⟨L, 0, none⟩) (rdL f n 0 0 s1).1.length (rdL f n 0 0 s1).1.length, .int .i64 0]) ∧ w.heap.size ≤ L ∧ L ≠ g ∧ Is w' L 51 (mvs (rdL f n 0 0 s1).1) ∧ Rdr w' g (rdL f n 0 0 s1).2.2)) := by
    intro e w'
    unfold ListEnd
    rw [HS1.out, HN.out, if_neg (show ¬ s1.e ≠ 0 by rw [he]; simp), if_neg hb]
   have HEND := Lib.hid hend
   clear hend
   go_wp2_with fail
   obtain ⟨L, hL⟩ : ∃ L, W2.heap.size = L := ⟨_, rfl⟩
   obtain ⟨W4, hW4⟩ : ∃ W4, W4 = (W2.alloc (.cells (mvs (List.replicate n zM)).toArray 51)).alloc (.cells #[.int .i64 0, .int .i64 0] 48) := ⟨_, rfl⟩
   have b4 : Below W2.heap.size W2 W4 := by rw [hW4]; exact ((Below.refl _ _).alloc (Nat.le_refl _) _).alloc (by rw [size_alloc]; omega) _
   have m4 : LiAt w f g L (L + 1) n W4 0 0 0 s1 [] := by
    refine ⟨is_below HI2.out b4 (is_lt HI2.out), ?_, ?_, rdr_keep HR2.out b4, grown_thenB HG2.out b4, hg, by rw [← hL]; exact is_lt HI2.out, by omega, rfl⟩
    ·rw [hW4, ← hL, List.nil_append, Nat.sub_zero]; exact is_alloc (is_new W2 51 _) _
    ·rw [hW4, ← hL]
     have := is_new (W2.alloc (.cells (mvs (List.replicate n zM)).toArray 51)) 48 [.int .i64 0, .int .i64 0]
     rw [size_alloc] at this
     exact this
   rw [hL, ← hW4]
   have HM4 := Lib.hid m4
   have hs1f : s1.l.length ≤ f.length := by omega
   clear m4 b4 hW4 hL hmk hbi hq1 hq2 z0
   go_loopw [26] (fun i wr => ∃ (k : Nat) (c r : Int) (sk : St) (done : List Mv), i = .int .i64 (k : Int) ∧ k ≤ n ∧ Lst f n s1 k c r sk done ∧ sk.l.length ≤ f.length ∧ LiAt w f g L (L + 1) n wr k c r sk done) (fun i _ => n - (Go.RowKit.intOf i).toNat)
   case atStart => exact ⟨0, 0, 0, s1, [], rfl, Nat.zero_le _, Lst.start f n s1, hs1f, HM4.out⟩
   case round =>
    obtain ⟨k, c, r, sk, done, rfl, hk, hlst, hsk, hli⟩ := hrel
    have HL := Lib.hid hlst
    have HLI := Lib.hid hli
    clear hlst hli
    by_cases hlt : k < n
    ·have hki : (0 : Int) ≤ (k : Int) := by omega
     have hkn : (k : Int) < (n : Int) := by omega
     have y0 := is_cell HLI.out.box 0
     have y1 := is_cell HLI.out.box 1
     simp only [List.getElem?_cons_zero, List.getElem?_cons_succ] at y0 y1
     obtain ⟨⟨m, e, s'⟩, hm⟩ : ∃ x, rdM f sk = x := ⟨_, rfl⟩
     have hmv := move_c g f sk hf hsk _ HLI.out.rdr
     rw [hm] at hmv
     simp only at hmv
     unfold mv at hmv
     have HMV := Lib.hid hmv
     have HMM := Lib.hid hm
     have hsl : s'.l.length ≤ f.length := Nat.le_trans (rdM_le hm) hsk
     clear hmv hm
     go_wp2_with fail
     refine HMV.out.mono ?_
     rintro e9 W5 ⟨rfl, hr5, hk5⟩
     have M5 := Lib.hid (HLI.out.grow hk5 hr5)
     clear hr5 hk5 y0 y1
     by_cases hee : e = 0
     ·subst hee
      obtain ⟨W6, hW6⟩ : ∃ W6, W6 = W5.alloc (.cells #[.int .i64 (mc m), .int .i64 (mr m), .int .i64 (pa (mw m)), .int .i64 (ch (mw m)), .string (ba (nm (mw m))), .float .f64 (rk (mw m))] 51) := ⟨_, rfl⟩
      have m6 : LiAt w f g L (L + 1) n W6 k c r s' done := by rw [hW6]; exact M5.out.below ((Below.refl _ _).alloc (Nat.le_refl _) _)
      have hi6 : Is W6 W5.heap.size 51 (mcs m) := by rw [hW6]; exact is_new W5 51 (mcs m)
      have t0 := is_cell m6.ahead 0
      have t1 := is_cell m6.ahead 1
      simp only [List.getElem?_cons_zero, List.getElem?_cons_succ] at t0 t1
      rw [hW6] at t0 t1
      have M6 := Lib.hid m6
      have I6 := Lib.hid hi6
      have H6 := Lib.hid hW6
      clear m6 hi6 hW6
      go_wp2_with fail
      rw [← H6.out]
      obtain ⟨G, hG⟩ : ∃ G, W5.heap.size = G := ⟨_, rfl⟩
      have hLG : L + 1 < G := by rw [← hG]; exact is_lt M5.out.ahead
      have hi6 := I6.out
      rw [hG] at hi6
      rw [hG]
      refine (bef_c c r (mc m) (mr m) _).mono ?_
      rintro e9 W7 ⟨rfl, hb7⟩
      have m7 := M6.out.below hb7
      have hi7 := is_below hi6 hb7 (is_lt hi6)
      have M7 := Lib.hid m7
      have I7 := Lib.hid hi7
      clear m7 hi7 hi6 hb7 t0 t1 hG
      by_cases hbf : c < mc m ∨ c = mc m ∧ r < mr m
      ·have hq : befT c r (mc m) (mr m) = true := by unfold befT; simpa using hbf
       rw [hq]
       have HL2 := Lib.hid (HL.out.step hlt HMM.out hbf)
       have c0 := is_cell I7.out 0
       have c1 := is_cell I7.out 1
       have c2 := is_cell I7.out 2
       have c3 := is_cell I7.out 3
       have c4 := is_cell I7.out 4
       have c5 := is_cell I7.out 5
       unfold mcs at c0 c1 c2 c3 c4 c5
       simp only [List.getElem?_cons_zero, List.getElem?_cons_succ] at c0 c1 c2 c3 c4 c5
       have t0 := is_cell M7.out.ahead 0
       have t1 := is_cell M7.out.ahead 1
       simp only [List.getElem?_cons_zero, List.getElem?_cons_succ] at t0 t1
       have f0 := is_free M7.out.ahead 0
       have f1 := is_free M7.out.ahead 1
       obtain ⟨u0, l0⟩ := M7.out.cells hlt 0 (by omega)
       obtain ⟨u1, l1⟩ := M7.out.cells hlt 1 (by omega)
       obtain ⟨u2, l2⟩ := M7.out.cells hlt 2 (by omega)
       obtain ⟨u3, l3⟩ := M7.out.cells hlt 3 (by omega)
       obtain ⟨u4, l4⟩ := M7.out.cells hlt 4 (by omega)
       obtain ⟨u5, l5⟩ := M7.out.cells hlt 5 (by omega)
       have r0 := is_free M7.out.list (k * 6)
       have r1 := is_free M7.out.list (k * 6 + 1)
       have r2 := is_free M7.out.list (k * 6 + 2)
       have r3 := is_free M7.out.list (k * 6 + 3)
       have r4 := is_free M7.out.list (k * 6 + 4)
       have r5 := is_free M7.out.list (k * 6 + 5)
       rw [Nat.add_zero] at l0
       clear hbf hq
       go_wp2_with fail
       go_region_with fail
       all_goals (
        go_wp2_with fail
        go_roundw
        case rel => exact ⟨k + 1, mc m, mr m, s', done ++ [m], by go_num, by omega, HL2.out, hsl, (M7.out.put hlt m).below (Below.refl _ _).drew⟩
        case measure => simp only [Go.RowKit.intOf]; omega)
      ·have hq : befT c r (mc m) (mr m) = false := by
        cases hx : befT c r (mc m) (mr m) with
        | false => rfl
        | true => exact absurd (by unfold befT at hx; simpa using hx) hbf
       rw [hq]
       go_wp2_with fail
       go_ret2
       rw [HEND.out, HL.out.order hlt HMM.out hbf, if_pos (show (12 : Int) ≠ 0 by simp)]
       exact ⟨M7.out.own, rfl⟩
     ·have hq1 : (e != 0) = true := by simpa using hee
      have hq2 : (e == 0) = false := by simpa using hee
      go_wp2_with fail
      go_ret2
      rw [HEND.out, HL.out.err hlt HMM.out hee, if_pos hee]
      exact ⟨(M5.out.below ((Below.refl _ _).alloc (Nat.le_refl _) _)).own, rfl⟩
    ·obtain rfl : k = n := by omega
     have hlast := HL.out.last
     go_wp2_with fail
     go_ret2
     have hown := HLI.out.own
     have hgl := HLI.out.gl
     have hwl := HLI.out.wL
     have hdl := HLI.out.len
     have hli := HLI.out.list
     have hrd := HLI.out.rdr
     rw [Nat.sub_self, List.replicate_zero, List.append_nil] at hli
     rw [HEND.out, hlast]
     simp only
     rw [if_neg (show ¬ ((0 : Int) ≠ 0) by simp), hdl]
     exact ⟨hown, L, rfl, by omega, by omega, hli, hrd⟩
 ·have hq1 : (s1.e != 0) = true := by simpa using he
  have hq2 : (s1.e == 0) = false := by simpa using he
  go_wp2_with fail
  go_ret2
  refine ⟨HG2.out, ?_⟩
  rw [HS1.out, if_pos he]
  rfl
end Go.Proofs.YtojhenpaeedimaaGreat
end
section
namespace Go.Proofs.YtojhenpaeedimaaGreat
open Go.RowKit Go.IntWalk
open Pk Ck Rf Fl Wd
set_option maxRecDepth 100000
attribute [local go_sem] Oper.semAt_some
def DecEnd (f : List UInt8) (w : World) (e : Ending) (w' : World) : Prop :=
 Below w.heap.size w w' ∧
 (if (decR f).2 ≠ 0 then e = .returned (.tuple #[.slice none 0 0, .int .i64 (decR f).2])
  else ∃ L, e = .returned (.tuple #[.slice (some ⟨L, 0, none⟩) (decR f).1.length (decR f).1.length, .int .i64 0]) ∧ w.heap.size ≤ L ∧ Is w' L 51 (mvs (decR f).1))
theorem list_ends {f : List UInt8} {g : Nat} {w w' : World} {e : Ending} (h0 : verE f = 0) (h1 : verV f = 1) (h : ListEnd f g ⟨f.drop 5, 0⟩ w e w') :
  w.grownBy w' (some g) ∧
  ((∃ x, x ≠ 0 ∧ e = .returned (.tuple #[.slice none 0 0, .int .i64 x]) ∧ decR f = ([], x)) ∨
   (∃ L l s, e = .returned (.tuple #[.slice (some ⟨L, 0, none⟩) (List.length l) (List.length l), .int .i64 0]) ∧ w.heap.size ≤ L ∧ L ≠ g ∧ Is w' L 51 (mvs l) ∧ Rdr w' g s ∧
    decR f = if doneV s ≠ 0 then ([], doneV s) else (l, 0))) := by
 obtain ⟨hg, h⟩ := h
 refine ⟨hg, ?_⟩
 unfold decR
 rw [if_neg (by rw [h0]; simp), if_neg (by rw [h1]; simp)]
 simp only
 by_cases a1 : (numS ⟨f.drop 5, 0⟩).e ≠ 0
 ·rw [if_pos a1] at h ⊢
  exact Or.inl ⟨_, a1, h, rfl⟩
 ·rw [if_neg a1] at h ⊢
  by_cases a2 : 2000 < numV ⟨f.drop 5, 0⟩
  ·rw [if_pos a2] at h ⊢
   exact Or.inl ⟨10, by simp, h, rfl⟩
  ·rw [if_neg a2] at h ⊢
   by_cases a3 : (rdL f (numV ⟨f.drop 5, 0⟩) 0 0 (numS ⟨f.drop 5, 0⟩)).2.1 ≠ 0
   ·rw [if_pos a3] at h ⊢
    exact Or.inl ⟨_, a3, h, rfl⟩
   ·rw [if_neg a3] at h ⊢
    obtain ⟨L, q1, q2, q3, q4, q5⟩ := h
    exact Or.inr ⟨L, _, _, q1, q2, q3, q4, q5, rfl⟩
set_option maxHeartbeats 4000000 in
theorem pdecode_c (f : List UInt8) (hf : f.length ≤ 100000000) (w : World) :
  Calls Tryz.prog 30 #[.string (ba f)] w (DecEnd f w) := by
 have hbs := ba_size f
 obtain ⟨ve, hve⟩ : ∃ ve, verE f = ve := ⟨_, rfl⟩
 obtain ⟨vv, hvv⟩ : ∃ vv, verV f = vv := ⟨_, rfl⟩
 have hver := version_c f (by omega) w
 unfold VerEnd at hver
 rw [hve, hvv] at hver
 have HV := Lib.hid hver
 have HVE := Lib.hid hve
 have HVV := Lib.hid hvv
 clear hver hve hvv
 go_enter Tryz.func30, Tryz.ntmps30
 go_wp2_with fail
 refine HV.out.mono ?_
 rintro e W1 ⟨rfl, hb1⟩
 have HB1 : Hid (Below w.heap.size w W1) := Lib.hid (by rw [← hb1]; exact Below.refl _ _)
 clear hb1
 by_cases he : ve = 0
 ·subst he
  by_cases h1 : vv = 1
  ·subst h1
   have hlen : 5 ≤ f.length := by
    have h := HVE.out
    unfold verE at h
    split at h
    ·cases h
    ·split at h
     ·cases h
     ·omega
   have hz0 : (ba startB).size = 5 := rfl
   have hex := extract_drop f 5
   have hl5 : (5 : Int) ≤ (f.length : Int) := by omega
   go_wp2_with fail
   refine (start_c _).mono ?_
   rintro e W2 ⟨rfl, hb2⟩
   have HB2 := Lib.hid (HB1.out.trans (hb2.mono HB1.out.size))
   clear hb2
   go_wp2_with fail
   refine (new_c (f.drop 5) _).mono ?_
   rintro e W3 ⟨rfl, hr3, hw3⟩
   obtain ⟨g, hg⟩ : ∃ g, W2.heap.size = g := ⟨_, rfl⟩
   rw [hg] at hr3
   rw [hg]
   have b3 : Below w.heap.size w W3 := by rw [hw3]; exact HB2.out.alloc HB2.out.size _
   have hwg : w.heap.size ≤ g := by rw [← hg]; exact HB2.out.size
   obtain ⟨W4, hW4⟩ : ∃ W4, W4 = W3.alloc (.cells #[.pointer (some ⟨g, 0, none⟩), .string (ba f)] 120) := ⟨_, rfl⟩
   have b34 : Below W3.heap.size W3 W4 := by rw [hW4]; exact (Below.refl _ _).alloc (Nat.le_refl _) _
   have hi4 : Is W4 W3.heap.size 120 [.pointer (some ⟨g, 0, none⟩), .string (ba f)] := by rw [hW4]; exact is_new W3 120 _
   have hr4 := rdr_keep hr3 b34
   have hg3 : g < W3.heap.size := is_lt hr3
   have HB4 := Lib.hid (b3.trans (b34.mono b3.size))
   have H4 := Lib.hid hW4
   have I4 := Lib.hid hi4
   have HLS := Lib.hid (list_c g f ⟨f.drop 5, 0⟩ hf (by simp) W4 hr4)
   clear b3 b34 hi4 hr4 hr3 hw3 hW4 hg hex hl5 hz0
   go_wp2_with fail
   rw [← H4.out]
   refine HLS.out.mono ?_
   rintro e W5 hle
   obtain ⟨hk5, hcase⟩ := list_ends HVE.out HVV.out hle
   have hi5 := is_grown I4.out hk5 (by intro e; injection e; omega)
   have y0 := is_cell hi5 0
   have y1 := is_cell hi5 1
   simp only [List.getElem?_cons_zero, List.getElem?_cons_succ] at y0 y1
   have b5 : Below w.heap.size w W5 := below_only HB4.out hk5 HB4.out.size hwg
   have HB5 := Lib.hid b5
   clear hle hi5 b5
   rcases hcase with ⟨x, hx, rfl, hd⟩ | ⟨L, l, s, rfl, hL, hLg, hlist, hrd, hd⟩
   ·have hq1 : (x != 0) = true := by simpa using hx
    have hq2 : (x == 0) = false := by simpa using hx
    have HD := Lib.hid hd
    clear hd
    go_wp2_with fail
    go_ret2
    unfold DecEnd
    rw [HD.out]
    simp only
    rw [if_pos hx]
    exact ⟨HB5.out, rfl⟩
   ·have HD := Lib.hid hd
    have HL := Lib.hid hlist
    have HR := Lib.hid hrd
    have h4L : w.heap.size ≤ L := Nat.le_trans HB4.out.size hL
    clear hd hlist hrd
    go_wp2_with fail
    refine (done_c g s _ HR.out).mono ?_
    rintro e W6 ⟨rfl, rfl⟩
    by_cases hdn : doneV s = 0
    ·have hq1 : (doneV s != 0) = false := by rw [hdn]; rfl
     have hq2 : (doneV s == 0) = true := by rw [hdn]; rfl
     have hd := HD.out
     rw [if_neg (by rw [hdn]; simp)] at hd
     go_wp2_with fail
     go_ret2
     unfold DecEnd
     rw [hd]
     exact ⟨HB5.out, L, rfl, h4L, HL.out⟩
    ·have hq1 : (doneV s != 0) = true := by simpa using hdn
     have hq2 : (doneV s == 0) = false := by simpa using hdn
     have hd := HD.out
     rw [if_pos hdn] at hd
     go_wp2_with fail
     go_ret2
     unfold DecEnd
     rw [hd]
     simp only
     rw [if_pos hdn]
     exact ⟨HB5.out, rfl⟩
  ·have hq1 : (vv != 1) = true := by simpa using h1
   have hq2 : (vv == 1) = false := by simpa using h1
   have hd : decR f = ([], 8) := by unfold decR; rw [if_neg (by rw [HVE.out]; simp), if_pos (by rw [HVV.out]; exact h1)]
   go_wp2_with fail
   go_ret2
   unfold DecEnd
   rw [hd]
   exact ⟨HB1.out, rfl⟩
 ·have hq1 : (ve != 0) = true := by simpa using he
  have hq2 : (ve == 0) = false := by simpa using he
  have hd : decR f = ([], ve) := by unfold decR; rw [HVE.out, if_pos he]
  go_wp2_with fail
  go_ret2
  unfold DecEnd
  rw [hd]
  simp only
  rw [if_pos he]
  exact ⟨HB1.out, rfl⟩
end Go.Proofs.YtojhenpaeedimaaGreat
end
section
namespace Go.Proofs.YtojhenpaeedimaaGreat
open Go.RowKit Go.IntWalk
open Pk Ck Rf Fl Wd
set_option maxRecDepth 100000
attribute [local go_sem] Oper.semAt_some
theorem at_boxD (w : World) (m : Mv) : At (w.alloc (.cells #[.int .i64 (mc m), .int .i64 (mr m), .int .i64 (pa (mw m)), .int .i64 (ch (mw m)), .string (ba (nm (mw m))), .float .f64 (rk (mw m))] 51)) (w.heap.size + 1) (some ⟨w.heap.size, 0, none⟩) (mvs [m]) := fun i v hv =>
 ⟨w.heap.size, 0, rfl, Nat.lt_succ_self _, by rw [Nat.zero_add]; exact (is_cell (is_new w 51 (mvs [m])) i).trans hv⟩
end Go.Proofs.YtojhenpaeedimaaGreat
end
