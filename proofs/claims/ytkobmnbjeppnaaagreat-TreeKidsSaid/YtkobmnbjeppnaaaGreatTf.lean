/-
 slices.Grow, slices.Clone, slices.Concat at rows.
 A row that is dropped, and one that is set: the program's.
-/
import Derived.Test.YtkobmnbjeppnaaaGreatTd
import Derived.Lib.AppendZeros
import Derived.Lib.SliceRun
import Derived.Laws.AppendOwnNone
section
namespace Go.Proofs.YtkobmnbjeppnaaaGreat
open Go.RowKit Go.IntWalk
set_option maxRecDepth 100000
attribute [local go_sem] Oper.semAt_some
theorem zero_size (k : Nat) : (Builtin.zeroCells (Value.agg #[.int .i64 0, .int .i64 0, .string ByteArray.empty, .float .f64 0]).cells k).size = k * 4 := by
 rw [size_zeroCells]; rfl
def Made (w : World) (e : Ending) (w' : World) : Prop := ∃ A cap, e = .returned (.slice A 0 cap) ∧ w'.ownsRow w.heap.size 28 4 (.slice A 0 cap) 0 [] ∧ Below w.heap.size w w'
set_option maxHeartbeats 2000000 in
theorem grow_c (n : Nat) (hn : n ≤ 200000) (w : World) :
  Calls Tryz.prog 63 #[.slice none 0 0, .int .i64 (n : Int)] w (Made w) := by
 obtain ⟨i0, hi, hz0, hz1, hz2⟩ := info_parts Tryz.info28
 by_cases h0 : n = 0
 ·subst h0
  go_enter Tryz.func63, Tryz.ntmps63
  go_wp2
  go_ret
  exact ⟨none, 0, rfl, World.ownsRow_nil _ _ _ _, Below.refl _ _⟩
 ·have hrz : ∀ ty, (Builtin.append_ #[22, 3] ty #[.slice none 0 0, .int .i64 (n : Int)]).run Tryz.prog w = _ := fun ty =>
   Lib.run_append_nil_zeros w 22 3 ty 28 i0 _ .i64 .i64 Tryz.underlying22 Tryz.underlying3 hi hz0 n (by omega) (by omega) (by omega) (by rw [hz2]; omega)
  have hGn := grownCap_ge w n 0 28
  have hG63 := grownCap_le_maxLen w n 0 28 (by unfold maxLen; omega)
  have hown : (w.drew.alloc (.cells (Builtin.zeroCells (Value.agg #[.int .i64 0, .int .i64 0, .string ByteArray.empty, .float .f64 0]).cells n ++ Builtin.zeroCells (Value.agg #[.int .i64 0, .int .i64 0, .string ByteArray.empty, .float .f64 0]).cells (grownCap w n 0 28 - n)) 28)).ownsRow w.heap.size 28 4 (.slice (some ⟨w.heap.size, 0, none⟩) 0 (grownCap w n 0 28)) 0 [] :=
   World.ownsRow_made (base := w.heap.size) (e := 28) (size := 4) w.drew _ _ (Nat.le_refl _) hG63 (by rw [Array.size_append, zero_size, zero_size]; omega)
  obtain ⟨G, hG⟩ : ∃ G, G = grownCap w n 0 28 := ⟨_, rfl⟩
  rw [← hG] at hrz hGn hown hG63
  unfold maxLen at hG63
  have h1 : ¬ ((n : Int) < 0) := by omega
  have h4 : (n : Int) > 0 := by omega
  have HOWN := Lib.hid hown
  clear hG hown
  go_enter Tryz.func63, Tryz.ntmps63
  go_wp2_with (at_builtin; refine Lib.wpList_append_run _ rfl _ _ _ _ rfl _ _ rfl rfl _ _ (hrz _) ?_)
  go_ret
  exact ⟨_, _, rfl, HOWN.out, ((Below.refl _ _).drew.alloc (Nat.le_refl _) _)⟩
theorem made4 (B : Nat) (W : World) (h : B ≤ W.heap.size) : (W.alloc (.cells #[] 28)).ownsRow B 28 4 (.slice (some ⟨W.heap.size, 0, none⟩) 0 0) 0 [] :=
 World.ownsRow_made (base := B) (e := 28) (size := 4) W #[] 0 h (by unfold maxLen; omega) rfl
theorem at_news {w : World} {B b o : Nat} {xs : List Value} (h : At w B (some ⟨b, o, none⟩) xs) : ∀ j u, xs[j]? = some u → w.cell? ((⟨b, o, none⟩ : Addr).add j) = some u := by
 intro j u hu
 obtain ⟨b', o', e, _, hc⟩ := h j u hu
 cases e
 rw [Go.WideShapes.add_plain]
 exact hc
theorem below_own {B : Nat} {w w1 w2 : World} {v : Value} {e : TypeId} {size n : Nat} {xs : List Value} (hb : Below B w w1) (hB : B ≤ w1.heap.size) (hown : w1.ownsRow B e size v n xs) (hg : w1.grownBy w2 v.ownBlock) : Below B w w2 :=
 hb.grown hg hB (fun k hk => (hown.lt k hk).1)
/-- a new row of the call's own that holds l -/
def Fresh_ (l : List Rw) (w : World) (e : Ending) (w' : World) : Prop :=
 ∃ A cap, e = .returned (.slice A l.length cap) ∧ w'.ownsRow w.heap.size 28 4 (.slice A l.length cap) l.length (tvs l) ∧ Below w.heap.size w w'
set_option maxHeartbeats 2000000 in
theorem clone_c (A : Option Addr) (cap : Nat) (l : List Rw) (hl : l.length ≤ 100000) (hA : A = none → cap = 0) (w : World) (hc : At w w.heap.size A (tvs l)) :
  Calls Tryz.prog 46 #[.slice A l.length cap] w (Fresh_ l w) := by
 obtain ⟨i0, hi, hz0, hz1, hz2⟩ := info_parts Tryz.info28
 have q22 : ∀ (w : World) (a : Option Addr) (n c n' c' : Nat), (binOp .eql 22 (.slice a n c) (.slice none n' c')).run Tryz.prog w = .ok (.bool a.isNone) w := fun w a n c n' c' => Lib.run_eql_slice_nil w _ _ a n c n' c' Tryz.underlying22
 cases A with
 | none =>
  obtain rfl := hA rfl
  have hl0 : l = [] := by
   cases l with
   | nil => rfl
   | cons r l =>
    obtain ⟨b, o, e, _⟩ := hc 0 _ rfl
    cases e
  subst hl0
  go_enter Tryz.func46, Tryz.ntmps46
  go_wp2
  go_ret
  exact ⟨none, 0, rfl, World.ownsRow_nil _ _ _ _, Below.refl _ _⟩
 | some a =>
  by_cases hn : l = []
  ·subst hn
   obtain ⟨b0, o0, sp⟩ := a
   have hm := made4 w.heap.size w (Nat.le_refl _)
   go_enter Tryz.func46, Tryz.ntmps46
   go_wp2_with (at_builtin; refine wpList_append_own _ rfl _ _ 22 rfl w.heap.size 28 i0 _ 4 40 Tryz.underlying22 hi hz0 hz1 hz2 rfl (by decide) _ _ _ rfl hm ⟨b0, o0, sp⟩ 0 cap [] rfl rfl (fun j u hj => by simp at hj) (fun u hu => by simp at hu) (by unfold maxLen; omega) (by omega) (by simp) ?_)
   intro v' w1 hown hgrow _
   have hb := below_own ((Below.refl _ _).alloc (Nat.le_refl _) _) (by simp) hm hgrow
   obtain ⟨A', cap', rfl, -, -, -⟩ := own_at hown
   go_wp2
   go_ret
   exact ⟨A', cap', rfl, hown, hb⟩
  ·obtain ⟨r, hr⟩ : ∃ r, l[0]? = some r := by
    cases l with
    | nil => exact absurd rfl hn
    | cons r l => exact ⟨r, rfl⟩
   obtain ⟨b0, o0, e, _⟩ := row_cells hc hr
   cases e
   have hm := made4 w.heap.size w (Nat.le_refl _)
   have hb0 := (Below.refl w.heap.size w).alloc (Nat.le_refl _) (.cells #[] 28)
   have hc2 := hc.below hb0
   have HC2 := Lib.hid hc2
   have htl := tvs_len l
   clear hc hc2 hr
   go_enter Tryz.func46, Tryz.ntmps46
   go_wp2_with (at_builtin; refine wpList_append_own _ rfl _ _ 22 rfl w.heap.size 28 i0 _ 4 40 Tryz.underlying22 hi hz0 hz1 hz2 rfl (by decide) _ _ _ rfl hm ⟨b0, o0, none⟩ l.length cap (tvs l) rfl htl (at_news HC2.out) (tvs_one l) (by unfold maxLen; omega) (by omega) (by simp) ?_)
   intro v' w1 hown hgrow _
   have hb := below_own hb0 (by simp) hm hgrow
   obtain ⟨A', cap', rfl, -, -, -⟩ := own_at hown
   go_wp2
   go_ret
   exact ⟨A', cap', rfl, hown, hb⟩
/-- slices of rows as cells -/
def lvs (L : List (Option Addr × Nat × List Rw)) : List Value := L.map fun x => .slice x.1 x.2.2.length x.2.1
theorem lvs_at {L : List (Option Addr × Nat × List Rw)} {k : Nat} {x : Option Addr × Nat × List Rw} (h : L[k]? = some x) : (lvs L)[k]? = some (.slice x.1 x.2.2.length x.2.1) := by simp [lvs, h]
def flatR (L : List (Option Addr × Nat × List Rw)) : List Rw := L.flatMap fun x => x.2.2
theorem flatR_take {L : List (Option Addr × Nat × List Rw)} {k : Nat} {x : Option Addr × Nat × List Rw} (h : L[k]? = some x) : flatR (L.take (k + 1)) = flatR (L.take k) ++ x.2.2 := by
 unfold flatR
 rw [List.take_add_one, h, List.flatMap_append]
 simp
theorem flatR_pre (L : List (Option Addr × Nat × List Rw)) (k : Nat) : (flatR (L.take k)).length ≤ (flatR L).length := by
 have h : flatR L = flatR (L.take k) ++ flatR (L.drop k) := by unfold flatR; rw [← List.flatMap_append, List.take_append_drop]
 rw [h, List.length_append]
 omega
/-- append of rows that came in, or of none -/
theorem append_optR (w : World) {ops : Array Oper} {rest : List Oper} {o : Oper} {a : Act} {Q : Exit → Act → World → Prop}
  (hg : o.guard = none) (s x : Operand) (hop : o.op = Op.call { callee := Callee.builtin Builtin.append, args := #[s, x], argTypes := #[22, 22] })
  (base : Nat) (v : Value) (k : Nat) (us : List Rw) (hs : a.eval s = v) (hown : w.ownsRow base 28 4 v k (tvs us)) (A : Option Addr) (c : Nat) (vs : List Rw) (hx : a.eval x = .slice A vs.length c) (hn : A = none → c = 0) (hvl : vs.length ≤ c)
  (B : Nat) (hc : At w B A (tvs vs)) (hlen : k + vs.length ≤ 200000) (b3 : base ≤ w.heap.size)
  (hK : ∀ v' w', w'.ownsRow base 28 4 v' (k + vs.length) (tvs (us ++ vs)) → w.grownBy w' v.ownBlock → wpList Tryz.prog ops Q rest (a.put o.dst v') w') :
  wpList Tryz.prog ops Q (o :: rest) a w := by
 obtain ⟨i0, hi, hz0, hz1, hz2⟩ := info_parts Tryz.info28
 rcases A with _ | ⟨b, off, spot⟩
 ·obtain rfl : c = 0 := hn rfl
  obtain rfl : vs = [] := List.eq_nil_of_length_eq_zero (by omega)
  exact wpList_append_own_none hg s x _ hop base _ i0 4 Tryz.underlying22 hi v k (tvs us) hs hown hx (hK v w (by simpa using hown) (World.grownBy.refl w _))
 ·by_cases hv : vs = []
  ·subst hv
   refine wpList_append_own w hg s x _ hop base _ i0 _ 4 40 Tryz.underlying22 hi hz0 hz1 hz2 rfl (by decide) v k (tvs us) hs hown ⟨b, off, spot⟩ 0 c [] hx rfl (fun j u hu => by simp at hu) (fun u hu => by simp at hu) (by unfold maxLen; simp at hlen; omega) (by simp at hlen; omega) b3 ?_
   intro v' w' h1 h2 _
   exact hK v' w' (by simpa using h1) h2
  ·obtain ⟨y, ys, rfl⟩ : ∃ y ys, vs = y :: ys := by cases vs with | nil => exact absurd rfl hv | cons y ys => exact ⟨y, ys, rfl⟩
   obtain ⟨b', off', e, _, _⟩ := hc 0 _ rfl
   cases e
   refine wpList_append_own w hg s x _ hop base _ i0 _ 4 40 Tryz.underlying22 hi hz0 hz1 hz2 rfl (by decide) v k (tvs us) hs hown ⟨b, off, none⟩ (y :: ys).length c (tvs (y :: ys)) hx (tvs_len _) (at_news hc) (tvs_one _) (by unfold maxLen; omega) (by omega) b3 ?_
   intro v' w' h1 h2 _
   exact hK v' w' (by rw [tvs_append]; exact h1) h2
set_option maxHeartbeats 4000000 in
theorem concat_c (L : List (Option Addr × Nat × List Rw)) (G o cap : Nat) (hL : L.length ≤ 1000) (hF : (flatR L).length ≤ 200000) (w : World) (hc : At w w.heap.size (some ⟨G, o, none⟩) (lvs L)) (hcs : ∀ x ∈ L, At w w.heap.size x.1 (tvs x.2.2) ∧ (x.1 = none → x.2.1 = 0) ∧ x.2.2.length ≤ x.2.1) :
  Calls Tryz.prog 47 #[.slice (some ⟨G, o, none⟩) L.length cap] w (Fresh_ (flatR L) w) := by
 obtain ⟨i0, hi, hz0, hz1, hz2⟩ := info_parts Tryz.info28
 obtain ⟨N, hN⟩ : ∃ N, N = flatR L := ⟨_, rfl⟩
 rw [← hN] at hF ⊢
 have HN := Lib.hid hN
 have HC := Lib.hid hc
 have HCS := Lib.hid hcs
 have HPRE := Lib.hid (flatR_pre L)
 clear hN hc hcs
 go_enter Tryz.func47, Tryz.ntmps47
 go_wp2_with fail
 go_loopw [3, 11] (fun s i wr => ∃ k : Nat, i = .int .i64 (k : Int) ∧ k ≤ L.length ∧ s = .int .i64 ((flatR (L.take k)).length : Int) ∧ wr = w) (fun _ i _ => L.length - (intOf i).toNat)
 case atStart => exact ⟨0, rfl, Nat.zero_le _, rfl, rfl⟩
 case round =>
  obtain ⟨k, rfl, hk, rfl, hwr⟩ := hrel
  have hwr2 := hwr.symm
  subst hwr2
  by_cases hlt : k < L.length
  ·obtain ⟨x, hx⟩ := some_at hlt
   obtain ⟨A1, c1, l1⟩ := x
   obtain ⟨b0, o0, e0, hb0, c0⟩ := HC.out k _ (lvs_at hx)
   cases e0
   have hft := flatR_take hx
   have hp := HPRE.out (k + 1)
   rw [hft, ← HN.out, List.length_append] at hp
   simp only at hp c0
   have HFT := Lib.hid hft
   clear hx hft
   go_wp2_with fail
   go_roundw
   case rel => exact ⟨k + 1, by go_num, by omega, by rw [HFT.out, List.length_append]; go_num, by first | rfl | trivial⟩
   case measure => simp only [intOf]; omega
  ·obtain rfl : k = L.length := by omega
   rw [List.take_length, ← HN.out]
   go_wp2_with fail
   refine (grow_c N.length (by omega) _).mono ?_
   rintro e w1 ⟨A0, k0, rfl, hown0, hb0⟩
   go_wp2_with fail
   go_loopw [6, 27] (fun s i w2 => ∃ (k : Nat) (A : Option Addr) (cp : Nat), i = .int .i64 (k : Int) ∧ k ≤ L.length ∧ s = .slice A (flatR (L.take k)).length cp ∧ w2.ownsRow w.heap.size 28 4 (.slice A (flatR (L.take k)).length cp) (flatR (L.take k)).length (tvs (flatR (L.take k))) ∧ Below w.heap.size w w2) (fun _ i _ => L.length - (intOf i).toNat)
   case atStart => exact ⟨0, A0, k0, rfl, Nat.zero_le _, rfl, hown0, hb0⟩
   case round =>
    clear hown0 hb0
    obtain ⟨k, A, cp, rfl, hk, rfl, hown, hb⟩ := hrel
    by_cases hlt : k < L.length
    ·obtain ⟨x, hx⟩ := some_at hlt
     obtain ⟨h1, h2, h3⟩ := HCS.out x (mem_at hx)
     obtain ⟨A1, c1, l1⟩ := x
     obtain ⟨b0, o0, e0, hb0, c0⟩ := (HC.out.below hb) k _ (lvs_at hx)
     cases e0
     have hft := flatR_take hx
     have hp := HPRE.out (k + 1)
     rw [hft, ← HN.out, List.length_append] at hp
     simp only at hp c0 h1 h2 h3
     have HFT := Lib.hid hft
     have H1 := Lib.hid h1
     have H2 := Lib.hid h2
     clear hx hft h1 h2
     go_wp2_with (at_builtin; refine append_optR _ rfl _ _ rfl w.heap.size _ _ _ rfl hown A1 c1 l1 rfl H2.out h3 w.heap.size (H1.out.below hb) (by omega) hb.size ?_)
     intro v' w3 hown' hgrow
     have hb3 := below_own hb hb.size hown hgrow
     obtain ⟨A', cap', rfl, -, -, -⟩ := own_at hown'
     have H3 := Lib.hid hown'
     clear hown hown' hgrow hb
     go_wp2_with fail
     go_roundw
     case rel =>
      refine ⟨k + 1, A', cap', by go_num, by omega, ?_, ?_, hb3⟩
      ·rw [HFT.out, List.length_append]
      ·rw [HFT.out, List.length_append]; exact H3.out
     case measure => simp only [intOf]; omega
    ·obtain rfl : k = L.length := by omega
     have HO := Lib.hid hown
     clear hown
     go_wp2_with fail
     go_ret
     have h := HO.out
     rw [List.take_length, ← HN.out] at h ⊢
     exact ⟨A, cp, rfl, h, hb⟩
end Go.Proofs.YtkobmnbjeppnaaaGreat
end
section
namespace Go.Proofs.YtkobmnbjeppnaaaGreat
open Go.RowKit Go.IntWalk
set_option maxRecDepth 100000
attribute [local go_sem] Oper.semAt_some
def dropP (l : List Rw) (c : Int) : List Rw := match l.findIdx? (fun r => ch r == c) with
 | some k => l.take k ++ l.drop (k + 1)
 | none => l
theorem plc_drop (l : List Rw) (c : Int) : (plc l c = -1 ∧ dropP l c = l) ∨ ∃ (k : Nat) (r : Rw), plc l c = (k : Int) ∧ l[k]? = some r ∧ dropP l c = l.take k ++ l.drop (k + 1) ∧ k < l.length := by
 unfold plc idx dropP
 cases h : l.findIdx? (fun r => ch r == c) with
 | none => exact .inl ⟨rfl, rfl⟩
 | some k =>
  obtain ⟨h1, _, _⟩ := List.findIdx?_eq_some_iff_getElem.1 h
  exact .inr ⟨k, l[k], rfl, by simp [h1], rfl, h1⟩
theorem ownsRow_low {w : World} {B B2 : Nat} {e : TypeId} {size : Nat} {v : Value} {n : Nat} {xs : List Value} (h : w.ownsRow B e size v n xs) (hB : B2 ≤ B) : w.ownsRow B2 e size v n xs := by
 refine ⟨h.1, ?_⟩
 rcases h.2 with h | ⟨g, cap, cur, hv, hg, r⟩
 ·exact .inl h
 ·exact .inr ⟨g, cap, cur, hv, Nat.le_trans hB hg, r⟩
theorem first_k {A : Option Addr} {cap : Nat} {l : List Rw} {c : Int} (x : Int) (hx : plc l c = x) (hl : l.length ≤ maxLen) {w : World} (hc : At w w.heap.size A (tvs l)) :
  Calls Tryz.prog 37 #[.slice A l.length cap, .int .i64 c] w fun e w' => e = .returned (.int .i64 x) ∧ Below w.heap.size w w' := by
 subst hx
 exact tfirst_c A cap l c hl w hc
theorem at_newR (w : World) (t : TypeId) (xs : List Value) : At (w.alloc (.cells xs.toArray t)).drew (w.alloc (.cells xs.toArray t)).drew.heap.size (some ⟨w.heap.size, 0, none⟩) xs := fun i v hv =>
 ⟨w.heap.size, 0, rfl, by show w.heap.size < (w.alloc _).heap.size; simp, by rw [Nat.zero_add]; exact (is_cell (is_new w t xs) i).trans hv⟩
/-- slices.Concat of parts that are written out -/
theorem concat_k {vals : List Value} {G cap n : Nat} {N : List Rw} (L : List (Option Addr × Nat × List Rw)) (hn : n = L.length) (hv : vals = lvs L) (hN : flatR L = N) (hL : L.length ≤ 1000) (hF : N.length ≤ 200000) {w : World} (hc : At w w.heap.size (some ⟨G, 0, none⟩) vals) (hcs : ∀ x ∈ L, At w w.heap.size x.1 (tvs x.2.2) ∧ (x.1 = none → x.2.1 = 0) ∧ x.2.2.length ≤ x.2.1) :
  Calls Tryz.prog 47 #[.slice (some ⟨G, 0, none⟩) n cap] w (Fresh_ N w) := by
 subst hn hv hN
 exact concat_c L G 0 cap hL hF w hc hcs
theorem at_takeR {w : World} {B b o : Nat} {l : List Rw} (h : At w B (some ⟨b, o, none⟩) (tvs l)) (j : Nat) : At w B (some ⟨b, o, none⟩) (tvs (l.take j)) := by rw [tvs_take]; exact h.take _
theorem at_dropR {w : World} {B b o : Nat} {l : List Rw} (h : At w B (some ⟨b, o, none⟩) (tvs l)) (j : Nat) : At w B (some ⟨b, o + j * 4, none⟩) (tvs (l.drop j)) := by rw [tvs_drop]; exact h.drop _
end Go.Proofs.YtkobmnbjeppnaaaGreat
end
