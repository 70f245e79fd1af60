/-
  The moves of steps, and the rows that stood ahead of them: the program's, and the document's.
-/
import Derived.Test.YtfeopchghpihoaaHa
import Derived.Test.YtfeopchghpihoaaUk
import Derived.Test.YtfeopchghpihoaaUj
namespace Go.Proofs.Ytfeopchghpihoaa
open Go.RowKit Go.IntWalk
open Gr
set_option maxRecDepth 100000
attribute [local go_sem] Oper.semAt_some

theorem mvs_set (m : Mv) : ∀ (l : List Mv) (k : Nat), k < l.length → ((((((mvs l).set (k * 6) (.int .i64 (mc m))).set (k * 6 + 1) (.int .i64 (mr m))).set (k * 6 + 2) (.int .i64 (pa (mw m)))).set (k * 6 + 3) (.int .i64 (ch (mw m)))).set (k * 6 + 4) (.string (ba (nm (mw m))))).set (k * 6 + 5) (.float .f64 (rk (mw m))) = mvs (l.set k m)
  | [], k, h => by simp at h
  | x :: l, 0, _ => by
    have h : mvs (x :: l) = mcs x ++ mvs l := rfl
    have h2 : mvs ((x :: l).set 0 m) = mcs m ++ mvs l := rfl
    rw [h, h2]
    rfl
  | x :: l, k + 1, h => by
    have h1 : mvs (x :: l) = .int .i64 (mc x) :: .int .i64 (mr x) :: .int .i64 (pa (mw x)) :: .int .i64 (ch (mw x)) :: .string (ba (nm (mw x))) :: .float .f64 (rk (mw x)) :: mvs l := rfl
    have h2 : mvs ((x :: l).set (k + 1) m) = .int .i64 (mc x) :: .int .i64 (mr x) :: .int .i64 (pa (mw x)) :: .int .i64 (ch (mw x)) :: .string (ba (nm (mw x))) :: .float .f64 (rk (mw x)) :: mvs (l.set k m) := rfl
    rw [h1, h2, ← mvs_set m l k (by simpa using h)]
    rw [show (k + 1) * 6 = k * 6 + 1 + 1 + 1 + 1 + 1 + 1 by omega]
    rfl
theorem own_set6n {w : World} {B g cap k n : Nat} {l : List Mv} (m : Mv) (h : w.ownsRow B 38 6 (.slice (some ⟨g, 0, none⟩) n cap) n (mvs l)) (hn : n = l.length) (hk : k < n) :
    ((((((w.setCell ⟨g, k * 6, none⟩ (.int .i64 (mc m))).setCell ⟨g, k * 6 + 1, none⟩ (.int .i64 (mr m))).setCell ⟨g, k * 6 + 2, none⟩ (.int .i64 (pa (mw m)))).setCell ⟨g, k * 6 + 3, none⟩ (.int .i64 (ch (mw m)))).setCell ⟨g, k * 6 + 4, none⟩ (.string (ba (nm (mw m))))).setCell ⟨g, k * 6 + 5, none⟩ (.float .f64 (rk (mw m)))).ownsRow B 38 6 (.slice (some ⟨g, 0, none⟩) n cap) n (mvs (l.set k m)) := by
  subst hn
  have h0 := own_setc h (.int .i64 (mc m)) (i := k * 6)
  have h1 := own_setc h0 (.int .i64 (mr m)) (i := k * 6 + 1)
  have h2 := own_setc h1 (.int .i64 (pa (mw m))) (i := k * 6 + 2)
  have h3 := own_setc h2 (.int .i64 (ch (mw m))) (i := k * 6 + 3)
  have h4 := own_setc h3 (.string (ba (nm (mw m)))) (i := k * 6 + 4)
  have h5 := own_setc h4 (.float .f64 (rk (mw m))) (i := k * 6 + 5)
  rw [mvs_set m l k hk] at h5
  exact h5
/-- cells that are made, of a zero value with n cells -/
theorem made_flat {α : Type} (zc : Array Value) (c : Nat) (hz : zc.size = c) (hc : 0 < c) (f : α → List Value) (z : α) (hf : f z = zc.toList) (n : Nat) : (madeCells zc (n * c)).toList = (List.replicate n z).flatMap f := by
  have hlen : ∀ n, ((List.replicate n z).flatMap f).length = n * c := fun n => by
    induction n with
    | zero => simp
    | succ n ih => rw [List.replicate_succ, List.flatMap_cons, List.length_append, ih, hf, Array.length_toList, hz, Nat.add_mul]; omega
  have hget : ∀ n k i, k < n → i < c → ((List.replicate n z).flatMap f)[k * c + i]? = zc[i]? := fun n => by
    induction n with
    | zero => intro k i h; omega
    | succ n ih =>
      intro k i hk hi
      rw [List.replicate_succ, List.flatMap_cons, hf]
      cases k with
      | zero => rw [Nat.zero_mul, Nat.zero_add, List.getElem?_append_left (by rw [Array.length_toList]; omega), Array.getElem?_toList]
      | succ k =>
        rw [List.getElem?_append_right (by rw [Array.length_toList, hz, Nat.add_mul]; omega), Array.length_toList, hz, show (k + 1) * c + i - c = k * c + i by rw [Nat.add_mul]; omega]
        exact ih k i (by omega) hi
  refine List.ext_getElem? fun j => ?_
  by_cases hj : j < n * c
  · obtain ⟨k, i, hi, rfl⟩ : ∃ k i, i < c ∧ j = k * c + i := ⟨j / c, j % c, Nat.mod_lt _ hc, by rw [Nat.mul_comm]; exact (Nat.div_add_mod j c).symm⟩
    have hk : k < n := by
      refine Nat.lt_of_not_le fun h => ?_
      have := Nat.mul_le_mul_right c h
      omega
    rw [hget n k i hk hi]
    unfold madeCells
    rw [Array.getElem?_toList, Array.getElem?_map, Array.getElem?_eq_getElem (by simpa using hj)]
    have hm : (k * c + i) % zc.size = i := by rw [hz, Nat.mul_comm, Nat.mul_add_mod]; exact Nat.mod_eq_of_lt hi
    simp only [Option.map_some, Array.getElem_range, hm]
    rw [Array.getElem?_eq_getElem (by omega), getElem!_pos zc i (by omega)]
  · rw [List.getElem?_eq_none (by rw [Array.length_toList, size_madeCells]; omega), List.getElem?_eq_none (by rw [hlen]; omega)]
theorem made_moves (n : Nat) : (madeCells (Value.agg #[.int .i64 0, .int .i64 0, .int .i64 0, .int .i64 0, .string ByteArray.empty, .float .f64 0]).cells (n * 6)).toList = mvs (List.replicate n zm) := made_flat _ 6 rfl (by omega) mcs zm rfl n
theorem made_steps (n : Nat) : (madeCells (Value.agg #[.int .i64 0, .int .i64 0, .int .i64 0, .int .i64 0, .string ByteArray.empty, .float .f64 0, .bool false, .bool false, .int .i64 0, .int .i64 0, .string ByteArray.empty, .float .f64 0]).cells (n * 12)).toList = pvs (List.replicate n zs) := made_flat _ 12 rfl (by omega) pcs zs rfl n
theorem fill_of {α β : Type} {f : α → β} {z : β} {l : List α} {k : Nat} {x : α} (h : l[k]? = some x) : ((l.take k).map f ++ List.replicate (l.length - k) z).set k (f x) = (l.take (k + 1)).map f ++ List.replicate (l.length - (k + 1)) z := by
  have hk := (List.getElem?_eq_some_iff.1 h).1
  have e : l.length - k = (l.length - (k + 1)) + 1 := by omega
  rw [e, List.replicate_succ, List.take_add_one, h, List.set_append_right _ _ (by simp; omega)]
  simp [show k - min k l.length = 0 by omega]

set_option maxHeartbeats 8000000 in
theorem umoves_c (A : Option Addr) (cap : Nat) (l : List Sp) (hl : l.length ≤ 100000) (w : World) (hc : At w w.heap.size A (pvs l)) :
    Calls Try.prog 40 #[.slice A l.length cap] w (FreshM (l.map sm) w) := by
  obtain ⟨i0, hi, hz0, hz1, hz2⟩ := info_parts Try.info38
  have HC := Lib.hid hc
  have hbx : i0.bytes * l.length ≤ 281474976710656 := by rw [hz2]; omega
  have hmx : l.length ≤ maxLen := by unfold maxLen; omega
  clear hc
  go_enter Try.func40, Try.ntmps40
  go_wp2_with (at_make; refine wpList_make_full _ rfl _ _ 23 rfl w.heap.size 38 i0 _ 6 Try.underlying23 hi hz0 hz1 .i64 .i64 _ _ l.length rfl rfl rfl rfl hbx hmx (Nat.le_refl _) ?_; intro w1 hown1 hgrow1)
  rw [made_moves] at hown1
  have HO1 := Lib.hid hown1
  have HG1 := Lib.hid ((Below.refl w.heap.size w).grown hgrow1 (Nat.le_refl _) (fun k hk => by cases hk))
  clear hown1 hgrow1
  go_wp2_with fail
  go_loopw [11] (fun i wr => ∃ k : Nat, i = .int .i64 (k : Int) ∧ k ≤ l.length ∧ wr.ownsRow w.heap.size 38 6 (.slice (some ⟨w.heap.size, 0, none⟩) l.length l.length) l.length (mvs ((l.take k).map sm ++ List.replicate (l.length - k) zm)) ∧ Below w.heap.size w wr) (fun i _ => l.length - (intOf i).toNat)
  case atStart => exact ⟨0, rfl, Nat.zero_le _, by simpa using HO1.out, HG1.out⟩
  case round =>
    obtain ⟨k, rfl, hk, hown, hbw⟩ := hrel
    by_cases hlt : k < l.length
    · obtain ⟨s, hm⟩ := some_at hlt
      obtain ⟨b0, o0, rfl, hb0, c0, c1, c2, c3, c4, c5, c6, c7, c8, c9, c10, c11⟩ := step_cells (HC.out.below hbw) hm
      have hki : (0 : Int) ≤ (k : Int) := by omega
      have hkl : (k : Int) < (l.length : Int) := by omega
      have HX := Lib.hid hm
      have hbr : Below wr.heap.size wr (wr.alloc (.cells #[.int .i64 (mc (sm s)), .int .i64 (mr (sm s)), .int .i64 (pa (mw (sm s))), .int .i64 (ch (mw (sm s))), .string (ba (nm (mw (sm s)))), .float .f64 (rk (mw (sm s))), .bool (sd s), .bool (sh s), .int .i64 (ch (so s)), .int .i64 (pa (so s)), .string (ba (nm (so s))), .float .f64 (rk (so s))] 64)) := (Below.refl _ _).alloc (Nat.le_refl _) _
      have hbw2 := hbw.trans (hbr.mono hbw.size)
      have hown2 := below_ownI hown hbr
      obtain ⟨g, c2', hv, hg, -, -, hfz, hcl⟩ := own_some hown2 (show 0 < l.length by omega)
      cases hv
      have hlen : ((l.take k).map sm ++ List.replicate (l.length - k) zm).length = l.length := by simp; omega
      obtain ⟨x, hx⟩ := some_at (show k < ((l.take k).map sm ++ List.replicate (l.length - k) zm).length by rw [hlen]; exact hlt)
      obtain ⟨q0, q1, q2, q3, q4, q5⟩ := mvs_at hx
      have d0 := hcl _ _ q0
      have d1 := hcl _ _ q1
      have d2 := hcl _ _ q2
      have d3 := hcl _ _ q3
      have d4 := hcl _ _ q4
      have d5 := hcl _ _ q5
      have f0 := hfz (k * 6)
      have f1 := hfz (k * 6 + 1)
      have f2 := hfz (k * 6 + 2)
      have f3 := hfz (k * 6 + 3)
      have f4 := hfz (k * 6 + 4)
      have f5 := hfz (k * 6 + 5)
      have HO2 := Lib.hid (own_set6n (sm s) hown2 hlen.symm hlt)
      have hgg : w.heap.size ≤ w.heap.size := Nat.le_refl _
      have HB4 := Lib.hid (((((((hbw2.setCell (p := ⟨w.heap.size, k * 6, none⟩) hgg (.int .i64 (mc (sm s)))).setCell (p := ⟨w.heap.size, k * 6 + 1, none⟩) hgg (.int .i64 (mr (sm s)))).setCell (p := ⟨w.heap.size, k * 6 + 2, none⟩) hgg (.int .i64 (pa (mw (sm s))))).setCell (p := ⟨w.heap.size, k * 6 + 3, none⟩) hgg (.int .i64 (ch (mw (sm s))))).setCell (p := ⟨w.heap.size, k * 6 + 4, none⟩) hgg (.string (ba (nm (mw (sm s)))))).setCell (p := ⟨w.heap.size, k * 6 + 5, none⟩) hgg (.float .f64 (rk (mw (sm s))))))
      clear hown hown2 hcl hfz q0 q1 q2 q3 q4 q5 hx hlen hm hbr hbw2
      go_wp2_with fail
      go_roundw
      case rel => exact ⟨k + 1, by go_num, by omega, by rw [← fill_of HX.out]; exact HO2.out, HB4.out⟩
      case measure => simp only [intOf]; omega
    · obtain rfl : k = l.length := by omega
      have HOWN := Lib.hid hown
      clear hown
      go_wp2_with fail
      go_ret
      have h := HOWN.out
      rw [List.take_length, Nat.sub_self, List.replicate_zero, List.append_nil] at h
      refine ⟨some ⟨w.heap.size, 0, none⟩, l.length, by rw [List.length_map]; rfl, ?_, hbw⟩
      rw [List.length_map]
      exact h

end Go.Proofs.Ytfeopchghpihoaa
