/-
 Rows of whole numbers; a node's way up: the document's.
 Three appends in one region that draws: what its arms ask.
 Marks that are raised by a time: the document's.
-/
import Derived.Test.YthhckdjagnlgpaaGreatTk
import Derived.Deep.RegionHeldLaw
import Derived.Test.YthhckdjagnlgpaaGreatAg
import Derived.Deep.RegionLaw
section
namespace Go.Proofs.YthhckdjagnlgpaaGreat
open Go.RowKit Go.IntWalk
set_option maxRecDepth 100000
attribute [local go_sem] Oper.semAt_some
theorem Tryz.info3 : (Tryz.prog.info? 3).map (fun i => (i.zero, i.size, i.bytes)) = some (some (.int .i64 0), 1, 8) := by kernel_rfl
theorem below_ownI {w1 w2 : World} {B size n : Nat} {e : TypeId} {v : Value} {xs : List Value} (h : w1.ownsRow B e size v n xs) (hb : Below w1.heap.size w1 w2) : w2.ownsRow B e size v n xs := by
 refine ⟨h.1, ?_⟩
 rcases h.2 with h2 | ⟨g, cap, cur, hv, hg, hh, r⟩
 ·exact .inl h2
 ·exact .inr ⟨g, cap, cur, hv, hg, by rw [hb.block g (Array.getElem?_eq_some_iff.1 hh).1]; exact hh, r⟩
end Go.Proofs.YthhckdjagnlgpaaGreat
end
section
namespace Go.Proofs.YthhckdjagnlgpaaGreat
open Go.RowKit Go.IntWalk
set_option maxRecDepth 100000
/-- append to a row of the call's own, as one step of a region that draws -/
theorem step_append_own {P : Program} {ops : Array Oper} {o : Oper} {a : Act} {w : World} {K : Act → World → Prop} {Q : Exit → Act → World → Prop} {E : Prop} (hgd : o.guard = none) (s x : Operand) (t : TypeId)
  (ho : o.op = .call { callee := .builtin .append, args := #[s, x], argTypes := #[t, t] })
  (base : Nat) (e : TypeId) (i : TypeInfo) (z : Value) (size bytes : Nat) (ht : P.underlying t = some (.slice e)) (hi : P.info? e = some i) (hz : i.zero = some z)
  (hsize : i.size = size) (hby : i.bytes = bytes) (hzs : z.cells.size = size) (hsz : 0 < size)
  (v : Value) (n : Nat) (xs : List Value) (hs : a.eval s = v) (hown : w.ownsRow base e size v n xs)
  (ad : Addr) (m c : Nat) (news : List Value) (hx : a.eval x = .slice (some ad) m c) (hl : news.length = m * size) (hnews : ∀ j u, news[j]? = some u → w.cell? (ad.add j) = some u) (h1 : ∀ u ∈ news, u.oneCell' = true)
  (h63 : n + m ≤ maxLen) (hbytes : (n + m) * bytes ≤ 140737488355328) (hbase : base ≤ w.heap.size)
  (h : ∀ v' w', w'.ownsRow base e size v' (n + m) (xs ++ news) → w.grownBy w' v.ownBlock → K (a.put o.dst v') w') :
  if Region.wanted o (yielded ops a.tmps) = true then Oper.wp P o a w K Q else E := by
 have hw : Region.wanted o (yielded ops a.tmps) = true := by simp [Region.wanted, hgd]
 rw [if_pos hw]
 exact wp_append_own w s x t ho base e i z size bytes ht hi hz hsize hby hzs hsz v n xs hs hown ad m c news hx hl hnews h1 h63 hbytes hbase fun v' w' h2 h3 _ => h v' w' h2 h3
theorem made (B : Nat) (W : World) (h : B ≤ W.heap.size) : (W.alloc (.cells #[] 3)).ownsRow B 3 1 (.slice (some ⟨W.heap.size, 0, none⟩) 0 0) 0 [] :=
 World.ownsRow_made (base := B) (e := 3) (size := 1) W #[] 0 h (by unfold maxLen; omega) rfl
end Go.Proofs.YthhckdjagnlgpaaGreat
end
section
namespace Go.Proofs.YthhckdjagnlgpaaGreat
open Go.RowKit Go.IntWalk
set_option maxRecDepth 100000
attribute [local go_sem] Oper.semAt_some
theorem isK_all {l : List Mk} {r : Int} (h : idxK (isK r) l = -1) : ∀ x ∈ l, isK r x = false := fun x hx => by
 rcases idxK_cases (isK r) l with ⟨_, h2⟩ | ⟨k, y, h1, _⟩
 ·exact List.findIdx?_eq_none_iff.1 h2 x hx
 ·omega
theorem isK_upto {l : List Mk} {r : Int} {k : Nat} (h : idxK (isK r) l = (k : Int)) : ∀ x ∈ l.take k, isK r x = false := fun x hx => by
 rcases idxK_cases (isK r) l with ⟨h1, _⟩ | ⟨j, y, h1, h2, _⟩
 ·omega
 ·obtain rfl : j = k := by omega
  obtain ⟨g1, g2, g3⟩ := List.findIdx?_eq_some_iff_getElem.1 h2
  obtain ⟨i, hi, rfl⟩ := List.mem_take_iff_getElem.1 hx
  simpa using g3 i (by omega)
/-- where a mark goes in that has no fellow -/
theorem raiseK_stop {l : List Mk} {c r : Int} {j : Nat} (hp : idxK (isK r) l = -1) (hc : 0 < c) (hj : j ≤ l.length) (hlo : ∀ x ∈ l.take j, kr x < r) (hs : j = l.length ∨ ∃ x, l[j]? = some x ∧ ¬ kr x < r) : raiseK l c r = l.take j ++ (r, c) :: l.drop j := by
 have hno : ∀ x ∈ l, kr x ≠ r := fun x hx => by simpa [isK] using isK_all hp x hx
 rcases raiseK_cases l c r with ⟨k, x, h1, _⟩ | ⟨_, ⟨h2, _⟩ | ⟨_, ⟨k, g1, g2, g3⟩ | ⟨g1, g3⟩⟩⟩
 ·omega
 ·omega
 ·rcases idxK_cases (gtK r) l with ⟨q1, _⟩ | ⟨m, y, q1, q2, q3, q4, q5⟩
  ·omega
  ·obtain rfl : m = k := by omega
   obtain ⟨z1, z2, z3⟩ := List.findIdx?_eq_some_iff_getElem.1 q2
   have hjm : j = m := by
    rcases Nat.lt_trichotomy j m with hlt | heq | hgt
    ·exfalso
     rcases hs with hs | ⟨y, hy, hyn⟩
     ·omega
     ·have h5 := z3 j (by omega)
      have h6 : l[j] = y := (List.getElem?_eq_some_iff.1 hy).2
      rw [h6] at h5
      have h7 : ¬ r < kr y := by simpa [gtK] using h5
      exact hno y (List.mem_of_getElem? hy) (by omega)
    ·exact heq
    ·exfalso
     have h5 := hlo l[m] (by rw [List.mem_take_iff_getElem]; exact ⟨m, by omega, rfl⟩)
     have h6 : r < kr l[m] := by simpa [gtK] using z2
     omega
   rw [hjm]; exact g3
 ·rcases hs with rfl | ⟨y, hy, hyn⟩
  ·rw [g3, List.take_length, List.drop_length]
  ·exfalso
   rcases idxK_cases (gtK r) l with ⟨_, q2⟩ | ⟨m, z, q1, _⟩
   ·have h5 := List.findIdx?_eq_none_iff.1 q2 y (List.mem_of_getElem? hy)
    have h7 : ¬ r < kr y := by simpa [gtK] using h5
    exact hno y (List.mem_of_getElem? hy) (by omega)
   ·omega
/-- append of marks that came in, or of none, to a row that is not nil -/
theorem append_optN (w : World) {ops : Array Oper} {rest : List Oper} {o : Oper} {a : Act} {Q : Exit → Act → World → Prop}
  (hg : o.guard = none) (s x : Operand) (hop : o.op = Op.call { callee := Callee.builtin Builtin.append, args := #[s, x], argTypes := #[53, 53] })
  (base : Nat) (v : Value) (k : Nat) (us : List Mk) (hs : a.eval s = v) (hown : w.ownsRow base 105 2 v k (kvs us)) (A : Option Addr) (c : Nat) (vs : List Mk) (hx : a.eval x = .slice A vs.length c) (hn : A = none → c = 0) (hvl : vs.length ≤ c)
  (B : Nat) (hc : At w B A (kvs vs)) (hlen : k + vs.length ≤ 200000) (b3 : base ≤ w.heap.size)
  (hv0 : v ≠ .slice none 0 0) (hK : ∀ v' w', v' ≠ .slice none 0 0 → w'.ownsRow base 105 2 v' (k + vs.length) (kvs (us ++ vs)) → w.grownBy w' v.ownBlock → wpList Tryz.prog ops Q rest (a.put o.dst v') w') :
  wpList Tryz.prog ops Q (o :: rest) a w := by
 obtain ⟨i0, hi, hz0, hz1, hz2⟩ := info_parts Tryz.info105
 rcases A with _ | ⟨b, off, spot⟩
 ·obtain rfl : c = 0 := hn rfl
  obtain rfl : vs = [] := List.eq_nil_of_length_eq_zero (by omega)
  exact wpList_append_own_none hg s x _ hop base _ i0 2 Tryz.underlying53 hi v k (kvs us) hs hown hx (hK v w hv0 (by simpa using hown) (World.grownBy.refl w _))
 ·by_cases hv : vs = []
  ·subst hv
   refine wpList_append_own w hg s x _ hop base _ i0 _ 2 16 Tryz.underlying53 hi hz0 hz1 hz2 rfl (by decide) v k (kvs us) hs hown ⟨b, off, spot⟩ 0 c [] hx rfl (fun j u hu => by simp at hu) (fun u hu => by simp at hu) (by unfold maxLen; simp at hlen; omega) (by simp at hlen; omega) b3 ?_
   intro v' w' h1 h2 h3
   exact hK v' w' (fun e => hv0 (h3.1 e).1) (by simpa using h1) h2
  ·obtain ⟨y, ys, rfl⟩ : ∃ y ys, vs = y :: ys := by cases vs with | nil => exact absurd rfl hv | cons y ys => exact ⟨y, ys, rfl⟩
   obtain ⟨b', off', e, _, _⟩ := hc 0 _ rfl
   cases e
   refine wpList_append_own w hg s x _ hop base _ i0 _ 2 16 Tryz.underlying53 hi hz0 hz1 hz2 rfl (by decide) v k (kvs us) hs hown ⟨b, off, none⟩ (y :: ys).length c (kvs (y :: ys)) hx (kvs_len _) (at_news hc) (kvs_one _) (by unfold maxLen; omega) (by omega) b3 ?_
   intro v' w' h1 h2 h3
   exact hK v' w' (fun e => hv0 (h3.1 e).1) (by rw [kvs_append]; exact h1) h2
theorem own_some2 {w : World} {B n cap : Nat} {A : Option Addr} {xs : List Value} (h : w.ownsRow B 105 2 (.slice A n cap) n xs) (hv : (Value.slice A n cap) ≠ .slice none 0 0) : ∃ g, A = some ⟨g, 0, none⟩ ∧ B ≤ g ∧ g < w.heap.size ∧ cap ≤ maxLen ∧ ∀ j, w.frozen? ⟨g, j, none⟩ = false := by
 obtain ⟨hl, ⟨hz, h0⟩ | ⟨g2, c2, cur, hv2, hb, hg, hn, hm, hs, ht⟩⟩ := h
 ·exact absurd hz hv
 cases hv2
 exact ⟨g2, rfl, hb, (Array.getElem?_eq_some_iff.1 hg).1, hm, fun j => by simp [World.frozen?, hg]⟩
theorem own_takeK {w : World} {B g n cap : Nat} {xs : List Value} (h : w.ownsRow B 105 2 (.slice (some ⟨g, 0, none⟩) n cap) n xs) (j : Nat) (hj : j ≤ n) : w.ownsRow B 105 2 (.slice (some ⟨g, 0, none⟩) j cap) j (xs.take (j * 2)) := by
 obtain ⟨hl, ⟨hz, h0⟩ | ⟨g2, c2, cur, hv, hb, hg, hn, hm, hs, ht⟩⟩ := h
 ·cases hz
 cases hv
 refine ⟨by rw [List.length_take]; omega, .inr ⟨g, cap, cur, rfl, hb, hg, by omega, hm, hs, ?_⟩⟩
 rw [← ht, List.take_take, Nat.min_eq_left (by omega)]
theorem at_dropK {w : World} {B b o : Nat} {l : List Mk} (h : At w B (some ⟨b, o, none⟩) (kvs l)) (j : Nat) : At w B (some ⟨b, o + j * 2, none⟩) (kvs (l.drop j)) := by rw [kvs_drop]; exact h.drop _
set_option maxHeartbeats 8000000 in
theorem rkraise_c (A : Option Addr) (cap : Nat) (l : List Mk) (c r : Int) (hl : l.length ≤ 50000) (hA : A = none → cap = 0) (hcap : l.length ≤ cap) (w : World) (hc : At w w.heap.size A (kvs l)) :
  Calls Tryz.prog 92 #[.slice A l.length cap, .agg #[.int .i64 c, .int .i64 r]] w (FreshK (raiseK l c r) w) := by
 obtain ⟨i0, hi, hz0, hz1, hz2⟩ := info_parts Tryz.info105
 obtain ⟨w0, hw0⟩ : ∃ w0, w0 = w.alloc (.cells #[.int .i64 c, .int .i64 r] 51) := ⟨_, rfl⟩
 have hb0 : Below w.heap.size w w0 := by rw [hw0]; exact (Below.refl _ _).alloc (Nat.le_refl _) _
 have hI0 : Is w0 w.heap.size 51 [.int .i64 c, .int .i64 r] := by rw [hw0]; exact is_new w 51 _
 obtain ⟨G, hG⟩ : ∃ G, G = w.heap.size := ⟨_, rfl⟩
 rw [← hG] at hI0
 have hbm : Below w0.heap.size w0 (w0.alloc (.cells #[] 105)) := (Below.refl _ _).alloc (Nat.le_refl _) _
 have HC := Lib.hid ((hc.keep hb0).below hbm)
 have HGS := Lib.hid (show G + 1 = w0.heap.size by rw [hw0, hG, World.size_alloc])
 have HG := Lib.hid hG
 have HW := Lib.hid hw0
 have HB0 := Lib.hid hb0
 have HI0 := Lib.hid hI0
 have HA := Lib.hid hA
 have HCAP := Lib.hid hcap
 have HCS := Lib.hid (raiseK_cases l c r)
 have HSTOP := Lib.hid (fun (j : Nat) => raiseK_stop (l := l) (c := c) (r := r) (j := j))
 obtain ⟨N, hN⟩ : ∃ N, raiseK l c r = N := ⟨_, rfl⟩
 rw [hN] at HCS ⊢
 have HN := Lib.hid hN
 clear hw0 hb0 hI0 hG hc hA hbm hcap hN
 go_enter Tryz.func92, Tryz.ntmps92
 go_wp2_with (rw [← HW.out, ← HG.out, HGS.out]; at_builtin; refine append_optN _ rfl _ _ rfl w0.heap.size (.slice (some ⟨w0.heap.size, 0, none⟩) 0 0) 0 [] rfl (made2K w0.heap.size w0 (Nat.le_refl _)) A cap l rfl HA.out HCAP.out w0.heap.size HC.out (by omega) (by simp) (by simp) ?_)
 intro v1 w1 hnn hown hgrow
 have hb1 : Below w0.heap.size w0 w1 := below_own ((Below.refl _ _).alloc (Nat.le_refl _) _) (by simp) (made2K w0.heap.size w0 (Nat.le_refl _)) hgrow
 have HI1 := Lib.hid (is_below HI0.out hb1 (is_lt HI0.out))
 have HB1 := Lib.hid (HB0.out.trans (hb1.mono HB0.out.size))
 obtain ⟨Av, cv, rfl, -, -, hcv⟩ := own_at hown
 obtain ⟨g, rfl, hBg, hgw1, hcm, hfz⟩ := own_some2 hown hnn
 have HO := Lib.hid hown
 have HFZ := Lib.hid hfz
 have HGG := Lib.hid hgw1
 have HS0 := Lib.hid hb1.size
 clear hown hgrow hb1 hnn hfz hgw1
 go_wp2_with fail
 obtain ⟨t0, t1⟩ := box2K HI1.out
 go_loopw [6] (fun i wr => ∃ j : Nat, i = .int .i64 (j : Int) ∧ j ≤ l.length ∧ (∀ x ∈ l.take j, isK r x = false) ∧ (∃ q, wr = w1.drewN q)) (fun i _ => l.length - (intOf i).toNat)
 case atStart => exact ⟨0, rfl, Nat.zero_le _, fun x hx => by simp at hx, 0, rfl⟩
 case round =>
  obtain ⟨j, rfl, hj, hno, q, rfl⟩ := hrel
  have HNO := Lib.hid hno
  clear hno
  by_cases hlt : j < l.length
  ·obtain ⟨x, hx⟩ := some_at hlt
   have hfz := HFZ.out
   obtain ⟨_, _, e0, -, c0, c1⟩ := mark_cells (own_atK HO.out) hx
   cases e0
   rw [Nat.zero_add] at c0 c1
   have c0q : (w1.drewN q).cell? ⟨g, j * 2, none⟩ = some (.int .i64 (kr x)) := c0
   have c1q : (w1.drewN q).cell? ⟨g, j * 2 + 1, none⟩ = some (.int .i64 (kc x)) := c1
   have t0q : (w1.drewN q).cell? ⟨G, 0, none⟩ = some (.int .i64 c) := t0
   have t1q : (w1.drewN q).cell? ⟨G, 1, none⟩ = some (.int .i64 r) := t1
   have f1 := hfz (j * 2 + 1)
   have f1q : (w1.drewN q).frozen? ⟨g, j * 2 + 1, none⟩ = false := f1
   have hji : (j : Int) < (l.length : Int) := by omega
   have hj0 : (0 : Int) ≤ (j : Int) := by omega
   have HX := Lib.hid hx
   clear hx hfz
   by_cases hq : kr x = r
   ·have hres : N = l.set j (kr x, max (kc x) c) := by
     rcases HCS.out with ⟨k, y, h1, h2, h3, h4, h5⟩ | ⟨h1, _⟩
     ·have hkj : k = j := by
       rcases Nat.lt_trichotomy k j with h | h | h
       ·exfalso
        have := HNO.out y (by rw [List.mem_take_iff_getElem]; exact ⟨k, by omega, (List.getElem?_eq_some_iff.1 h2).2⟩)
        simp [isK, h4] at this
       ·exact h
       ·exfalso
        have := isK_upto h1 x (by rw [List.mem_take_iff_getElem]; exact ⟨j, by omega, (List.getElem?_eq_some_iff.1 HX.out).2⟩)
        simp [isK, hq] at this
      subst hkj
      have := HX.out
      rw [h2] at this; cases this
      exact h5
     ·exfalso
      have := isK_all h1 x (mem_at HX.out)
      simp [isK, hq] at this
    have HRES := Lib.hid hres
    have hqb : (kr x == r) = true := by simpa using hq
    clear hres hq
    go_wp2_with fail
    go_region
    go_wp2_with fail
    go_region
    have hmx : (if kc x < c then c else kc x) = max (kc x) c := by split <;> omega
    have hset := own_setK HO.out (.int .i64 (if kc x < c then c else kc x)) (i := j * 2 + 1)
    rw [kvs_setc _ HX.out, hmx] at hset
    rw [hmx]
    have HS := Lib.hid hset
    have HBS := Lib.hid (HB1.out.setCell (p := ⟨g, j * 2 + 1, none⟩) (Nat.le_trans HB0.out.size hBg) (.int .i64 (max (kc x) c)))
    clear c0 c1 c0q c1q t0 t1 t0q t1q f1 f1q hset hmx
    go_wp2_with fail
    go_ret
    refine ⟨some ⟨g, 0, none⟩, cv, by rw [HRES.out, List.length_set]; rfl, ?_, ⟨HBS.out.os, HBS.out.tape, HBS.out.output, HBS.out.size, HBS.out.block⟩⟩
    rw [HRES.out, List.length_set]
    exact own_lowK HS.out HB0.out.size
   ·have hqb : (kr x == r) = false := by simpa using hq
    have HQ := Lib.hid hq
    clear hq
    go_wp2_with fail
    go_region
    go_wp2_with fail
    go_roundw
    case rel => exact ⟨j + 1, by go_num, by omega, isK_take HX.out HQ.out HNO.out, ⟨_, rfl⟩⟩
    case measure => simp only [intOf]; omega
  ·obtain rfl : j = l.length := by omega
   have hall := HNO.out
   rw [List.take_length] at hall
   have hno2 : idxK (isK r) l = -1 := idxK_none hall
   have t0q : (w1.drewN q).cell? ⟨G, 0, none⟩ = some (.int .i64 c) := t0
   have t1q : (w1.drewN q).cell? ⟨G, 1, none⟩ = some (.int .i64 r) := t1
   have HN2 := Lib.hid hno2
   clear hall hno2 hlt
   by_cases hc0 : c ≤ 0
   ·have hres : N = l := by
     rcases HCS.out with ⟨k, y, h1, _⟩ | ⟨_, ⟨_, h3⟩ | ⟨h2, _⟩⟩
     ·have := HN2.out; omega
     ·exact h3
     ·omega
    have HRES := Lib.hid hres
    clear hres
    go_wp2_with fail
    go_ret
    rw [HRES.out]
    exact ⟨some ⟨g, 0, none⟩, cv, rfl, own_lowK HO.out HB0.out.size, below_drewN HB1.out _⟩
   ·have hc1 : 0 < c := by omega
    have HPUT := Lib.hid (fun (j : Nat) (hj : j ≤ l.length) h3 h4 => HN.out.symm.trans (HSTOP.out j HN2.out hc1 hj h3 h4))
    go_wp2_with fail
    go_loopw [7] (fun i wr => ∃ j : Nat, i = .int .i64 (j : Int) ∧ j ≤ l.length ∧ (∀ x ∈ l.take j, kr x < r) ∧ (∃ q, wr = w1.drewN q)) (fun i _ => l.length - (intOf i).toNat)
    case atStart => exact ⟨0, rfl, Nat.zero_le _, fun x hx => by simp at hx, _, rfl⟩
    case round =>
     clear t0q t1q
     obtain ⟨j, rfl, hj, hlo, q, rfl⟩ := hrel
     have HLO := Lib.hid hlo
     clear hlo
     have t0q : (w1.drewN q).cell? ⟨G, 0, none⟩ = some (.int .i64 c) := t0
     have t1q : (w1.drewN q).cell? ⟨G, 1, none⟩ = some (.int .i64 r) := t1
     by_cases hlt : j < l.length
     ·obtain ⟨x, hx⟩ := some_at hlt
      obtain ⟨_, _, e0, -, c0, c1⟩ := mark_cells (own_atK HO.out) hx
      cases e0
      rw [Nat.zero_add] at c0 c1
      have c0q : (w1.drewN q).cell? ⟨g, j * 2, none⟩ = some (.int .i64 (kr x)) := c0
      have hji : (j : Int) < (l.length : Int) := by omega
      have hj0 : (0 : Int) ≤ (j : Int) := by omega
      have HX := Lib.hid hx
      clear hx c1
      by_cases hlt2 : kr x < r
      ·have hd : decide (kr x < r) = true := decide_eq_true hlt2
       have HL2 := Lib.hid hlt2
       clear hlt2
       go_wp2_with fail
       go_region
       go_wp2_with fail
       go_roundw
       case rel =>
        refine ⟨j + 1, by go_num, by omega, ?_, ⟨_, rfl⟩⟩
        intro y hy
        rw [List.take_add_one, HX.out, List.mem_append] at hy
        rcases hy with hy | hy
        ·exact HLO.out y hy
        ·simp at hy; rw [hy]; exact HL2.out
       case measure => simp only [intOf]; omega
      ·have hd : decide (kr x < r) = false := decide_eq_false hlt2
       have HSS := Lib.hid (HPUT.out j hj HLO.out (.inr ⟨x, HX.out, by omega⟩))
       have hj2 : (j : Int) ≤ (l.length : Int) := by omega
       have hj3 : (j : Int) ≤ (cv : Int) := by omega
       have hcj : ¬ cv = j := by omega
       have hdk : (l.drop j).length = l.length - j := List.length_drop ..
       have HDK := Lib.hid hdk
       clear hdk hlt2
       go_wp2_with fail
       go_region
       have hbq : Below w1.heap.size w1 ((w1.drewN (q + 1)).alloc (.cells #[] 105)) := (below_drewN (Below.refl w1.heap.size w1) _).alloc (Nat.le_refl _) _
       have hatd : At ((w1.drewN (q + 1)).alloc (.cells #[] 105)) w1.heap.size (some ⟨g, j * 2, none⟩) (kvs (l.drop j)) := by have h9 := At.below (at_dropK (own_atK HO.out) j) hbq; rwa [Nat.zero_add] at h9
       have HATD := Lib.hid hatd
       have HBQ := Lib.hid hbq
       clear hatd hbq
       go_wp2_with (at_builtin; refine append_optN _ rfl _ _ rfl w1.heap.size (.slice (some ⟨w1.heap.size, 0, none⟩) 0 0) 0 [] rfl (made2K w1.heap.size (w1.drewN _) (Nat.le_refl _)) (some ⟨g, j * 2, none⟩) (cv - j) (l.drop j) (by rw [HDK.out]; rfl) (fun h => by cases h) (by rw [HDK.out]; omega) w1.heap.size HATD.out (by rw [HDK.out]; omega) (by simp) (by simp) ?_)
       intro v2 w2 hnn2 hown2 hgrow2
       have hb2 : Below w1.heap.size w1 w2 := below_own HBQ.out (by simp) (made2K w1.heap.size (w1.drewN _) (Nat.le_refl _)) hgrow2
       have HI2 := Lib.hid (is_below HI1.out hb2 (is_lt HI1.out))
       have HO2 := Lib.hid (below_ownK HO.out hb2)
       have HB2 := Lib.hid hb2
       have hown2' : w2.ownsRow w1.heap.size 105 2 v2 (l.length - j) (kvs (l.drop j)) := hown2
       obtain ⟨A2, c2, rfl, -, -, hc2⟩ := own_at hown2'
       obtain ⟨g2, rfl, hBg2, -, hcm2, -⟩ := own_some2 hown2' hnn2
       have HR2 := Lib.hid hown2'
       obtain ⟨y0, y1⟩ := box2K HI2.out
       have hoT := own_takeK HO2.out j hj
       rw [← kvs_take] at hoT
       have HOT := Lib.hid hoT
       have HS2 := Lib.hid (show w0.heap.size ≤ w2.heap.size from Nat.le_trans HS0.out hb2.size)
       clear hown2 hown2' hgrow2 hb2 hoT t0 t1 t0q t1q hnn2 c0 c0q
       go_wp2_with fail
       have hal : Below w2.heap.size w2 (w2.drew.alloc (.cells #[.int .i64 r, .int .i64 c] 105)) := (Below.refl _ _).drew.alloc (Nat.le_refl _) _
       have HAL := Lib.hid hal
       clear hal
       go_region_law (first
        | (refine step_append_own rfl (.tmp 66) (.tmp 72) 53 rfl w0.heap.size 105 i0 _ 2 16 Tryz.underlying53 hi hz0 hz1 hz2 rfl (by decide) (.slice (some ⟨g, 0, none⟩) j cv) j (kvs (l.take j)) rfl (below_ownK HOT.out HAL.out) ⟨w2.heap.size, 0, none⟩ 1 1 (kcs (r, c)) rfl rfl (cells_is (is_new w2.drew 105 (kcs (r, c)))) (fun v hv => kvs_one [(r, c)] v (by simpa [kvs] using hv)) (by unfold maxLen; omega) (by omega) (by have := HS2.out; simp; omega) ?_; intro v3 w3 hown3 hgrow3)
        | (refine step_append_own rfl (.tmp 73) (.tmp 74) 53 rfl w0.heap.size 105 i0 _ 2 16 Tryz.underlying53 hi hz0 hz1 hz2 rfl (by decide) v3 (j + 1) (kvs (l.take j) ++ kcs (r, c)) rfl hown3 ⟨g2, 0, none⟩ (l.length - j) c2 (kvs (l.drop j)) rfl (by rw [kvs_len, HDK.out]) (((below_ownK HR2.out HAL.out).kept hgrow3 (.inr (by simp [Value.ownBlock]; have := HGG.out; omega))).cells rfl) (kvs_one _) (by unfold maxLen; omega) (by omega) (Nat.le_trans HS2.out (Nat.le_trans HAL.out.size hgrow3.size)) ?_; intro v4 w4 hown4 hgrow4))
       all_goals
        have hbz3 : Below w0.heap.size w2 w3 := (HAL.out.mono HS2.out).grown hgrow3 (Nat.le_trans HS2.out HAL.out.size) (fun k hk => by simp [Value.ownBlock] at hk; omega)
        have hbz4 : Below w0.heap.size w2 w4 := hbz3.grown hgrow4 (Nat.le_trans HS2.out hbz3.size) (fun k hk => (hown3.lt k hk).1)
        have HBZ := Lib.hid ((HB1.out.trans (HB2.out.mono HB1.out.size)).trans (hbz4.mono HB0.out.size))
        have HO4 := Lib.hid (own_lowK hown4 HB0.out.size)
        obtain ⟨A4, c4, rfl, -, -, -⟩ := own_at hown4
        clear hown4 hgrow4 hown3 hgrow3 hbz3 hbz4
        go_wp2_with fail
        go_ret
        have hNl : N.length = j + 1 + (l.length - j) := by rw [HSS.out, List.length_append, List.length_cons, List.length_take, List.length_drop]; omega
        refine ⟨A4, c4, by rw [hNl]; rfl, ?_, HBZ.out⟩
        have h := HO4.out
        rw [show kvs (l.take j) ++ kcs (r, c) ++ kvs (l.drop j) = kvs N by rw [HSS.out, kvs_append, List.append_assoc]; rfl] at h
        rw [hNl]
        exact h
     ·obtain rfl : j = l.length := by omega
      have HSS := Lib.hid (HPUT.out l.length (Nat.le_refl _) HLO.out (.inl rfl))
      have hj3 : (l.length : Int) ≤ (cv : Int) := by omega
      have hdk : (l.drop l.length).length = 0 := by rw [List.length_drop]; omega
      have HDK := Lib.hid hdk
      clear hdk hlt
      by_cases hcj : cv = l.length
      ·subst hcj
       go_wp2_with fail
       go_quiet (fail)
       have hbq : Below w1.heap.size w1 ((w1.drewN (q + nq)).alloc (.cells #[] 105)) := (below_drewN (Below.refl w1.heap.size w1) _).alloc (Nat.le_refl _) _
       have hatd : At ((w1.drewN (q + nq)).alloc (.cells #[] 105)) w1.heap.size (some ⟨g, 0, none⟩) (kvs (l.drop l.length)) := by rw [List.drop_length]; exact At.nil _ _ _
       have HATD := Lib.hid hatd
       have HBQ := Lib.hid hbq
       clear hatd hbq
       go_wp2_with (at_builtin; refine append_optN _ rfl _ _ rfl w1.heap.size (.slice (some ⟨w1.heap.size, 0, none⟩) 0 0) 0 [] rfl (made2K w1.heap.size (w1.drewN (q + nq)) (Nat.le_refl _)) (some ⟨g, 0, none⟩) 0 (l.drop l.length) (by rw [HDK.out]; rfl) (fun h => by cases h) (by rw [HDK.out]; omega) w1.heap.size HATD.out (by rw [HDK.out]; omega) (by simp) (by simp) ?_)
       intro v2 w2 hnn2 hown2 hgrow2
       have hb2 : Below w1.heap.size w1 w2 := below_own HBQ.out (by simp) (made2K w1.heap.size (w1.drewN (q + nq)) (Nat.le_refl _)) hgrow2
       have HI2 := Lib.hid (is_below HI1.out hb2 (is_lt HI1.out))
       have HO2 := Lib.hid (below_ownK HO.out hb2)
       have HB2 := Lib.hid hb2
       have hown2' : w2.ownsRow w1.heap.size 105 2 v2 (0) (kvs (l.drop l.length)) := by have h := hown2; simpa using h
       obtain ⟨A2, c2, rfl, -, -, hc2⟩ := own_at hown2'
       obtain ⟨g2, rfl, hBg2, -, hcm2, -⟩ := own_some2 hown2' hnn2
       have HR2 := Lib.hid hown2'
       obtain ⟨y0, y1⟩ := box2K HI2.out
       have hoT := own_takeK HO2.out l.length (Nat.le_refl _)
       rw [← kvs_take] at hoT
       have HOT := Lib.hid hoT
       have HS2 := Lib.hid (show w0.heap.size ≤ w2.heap.size from Nat.le_trans HS0.out hb2.size)
       clear hown2 hown2' hgrow2 hb2 hoT t0 t1 t0q t1q hnn2
       go_wp2_with fail
       have hal : Below w2.heap.size w2 (w2.drew.alloc (.cells #[.int .i64 r, .int .i64 c] 105)) := (Below.refl _ _).drew.alloc (Nat.le_refl _) _
       have HAL := Lib.hid hal
       clear hal
       go_region_law (first
        | (refine step_append_own rfl (.tmp 66) (.tmp 72) 53 rfl w0.heap.size 105 i0 _ 2 16 Tryz.underlying53 hi hz0 hz1 hz2 rfl (by decide) (.slice (some ⟨g, 0, none⟩) l.length l.length) l.length (kvs (l.take l.length)) rfl (below_ownK HOT.out HAL.out) ⟨w2.heap.size, 0, none⟩ 1 1 (kcs (r, c)) rfl rfl (cells_is (is_new w2.drew 105 (kcs (r, c)))) (fun v hv => kvs_one [(r, c)] v (by simpa [kvs] using hv)) (by unfold maxLen; omega) (by omega) (by have := HS2.out; simp; omega) ?_; intro v3 w3 hown3 hgrow3)
        | (refine step_append_own rfl (.tmp 73) (.tmp 74) 53 rfl w0.heap.size 105 i0 _ 2 16 Tryz.underlying53 hi hz0 hz1 hz2 rfl (by decide) v3 (l.length + 1) (kvs (l.take l.length) ++ kcs (r, c)) rfl hown3 ⟨g2, 0, none⟩ (0) c2 (kvs (l.drop l.length)) rfl (by rw [kvs_len, HDK.out]) (((below_ownK HR2.out HAL.out).kept hgrow3 (.inr (by simp [Value.ownBlock]; have := HGG.out; omega))).cells rfl) (kvs_one _) (by unfold maxLen; omega) (by omega) (Nat.le_trans HS2.out (Nat.le_trans HAL.out.size hgrow3.size)) ?_; intro v4 w4 hown4 hgrow4))
       all_goals
        have hbz3 : Below w0.heap.size w2 w3 := (HAL.out.mono HS2.out).grown hgrow3 (Nat.le_trans HS2.out HAL.out.size) (fun k hk => by simp [Value.ownBlock] at hk; omega)
        have hbz4 : Below w0.heap.size w2 w4 := hbz3.grown hgrow4 (Nat.le_trans HS2.out hbz3.size) (fun k hk => (hown3.lt k hk).1)
        have HBZ := Lib.hid ((HB1.out.trans (HB2.out.mono HB1.out.size)).trans (hbz4.mono HB0.out.size))
        have HO4 := Lib.hid (own_lowK hown4 HB0.out.size)
        obtain ⟨A4, c4, rfl, -, -, -⟩ := own_at hown4
        clear hown4 hgrow4 hown3 hgrow3 hbz3 hbz4
        go_wp2_with fail
        go_ret
        have hNl : N.length = l.length + 1 + (0) := by rw [HSS.out, List.length_append, List.length_cons, List.length_take, List.length_drop]; omega
        refine ⟨A4, c4, by rw [hNl]; rfl, ?_, HBZ.out⟩
        have h := HO4.out
        rw [show kvs (l.take l.length) ++ kcs (r, c) ++ kvs (l.drop l.length) = kvs N by rw [HSS.out, kvs_append, List.append_assoc]; rfl] at h
        rw [hNl]
        exact h
      ·go_wp2_with fail
       go_quiet (fail)
       have hbq : Below w1.heap.size w1 ((w1.drewN (q + nq)).alloc (.cells #[] 105)) := (below_drewN (Below.refl w1.heap.size w1) _).alloc (Nat.le_refl _) _
       have hatd : At ((w1.drewN (q + nq)).alloc (.cells #[] 105)) w1.heap.size (some ⟨g, l.length * 2, none⟩) (kvs (l.drop l.length)) := by rw [List.drop_length]; exact At.nil _ _ _
       have HATD := Lib.hid hatd
       have HBQ := Lib.hid hbq
       clear hatd hbq
       go_wp2_with (at_builtin; refine append_optN _ rfl _ _ rfl w1.heap.size (.slice (some ⟨w1.heap.size, 0, none⟩) 0 0) 0 [] rfl (made2K w1.heap.size (w1.drewN (q + nq)) (Nat.le_refl _)) (some ⟨g, l.length * 2, none⟩) (cv - l.length) (l.drop l.length) (by rw [HDK.out]; rfl) (fun h => by cases h) (by rw [HDK.out]; omega) w1.heap.size HATD.out (by rw [HDK.out]; omega) (by simp) (by simp) ?_)
       intro v2 w2 hnn2 hown2 hgrow2
       have hb2 : Below w1.heap.size w1 w2 := below_own HBQ.out (by simp) (made2K w1.heap.size (w1.drewN (q + nq)) (Nat.le_refl _)) hgrow2
       have HI2 := Lib.hid (is_below HI1.out hb2 (is_lt HI1.out))
       have HO2 := Lib.hid (below_ownK HO.out hb2)
       have HB2 := Lib.hid hb2
       have hown2' : w2.ownsRow w1.heap.size 105 2 v2 (0) (kvs (l.drop l.length)) := by have h := hown2; simpa using h
       obtain ⟨A2, c2, rfl, -, -, hc2⟩ := own_at hown2'
       obtain ⟨g2, rfl, hBg2, -, hcm2, -⟩ := own_some2 hown2' hnn2
       have HR2 := Lib.hid hown2'
       obtain ⟨y0, y1⟩ := box2K HI2.out
       have hoT := own_takeK HO2.out l.length (Nat.le_refl _)
       rw [← kvs_take] at hoT
       have HOT := Lib.hid hoT
       have HS2 := Lib.hid (show w0.heap.size ≤ w2.heap.size from Nat.le_trans HS0.out hb2.size)
       clear hown2 hown2' hgrow2 hb2 hoT t0 t1 t0q t1q hnn2
       go_wp2_with fail
       have hal : Below w2.heap.size w2 (w2.drew.alloc (.cells #[.int .i64 r, .int .i64 c] 105)) := (Below.refl _ _).drew.alloc (Nat.le_refl _) _
       have HAL := Lib.hid hal
       clear hal
       go_region_law (first
        | (refine step_append_own rfl (.tmp 66) (.tmp 72) 53 rfl w0.heap.size 105 i0 _ 2 16 Tryz.underlying53 hi hz0 hz1 hz2 rfl (by decide) (.slice (some ⟨g, 0, none⟩) l.length cv) l.length (kvs (l.take l.length)) rfl (below_ownK HOT.out HAL.out) ⟨w2.heap.size, 0, none⟩ 1 1 (kcs (r, c)) rfl rfl (cells_is (is_new w2.drew 105 (kcs (r, c)))) (fun v hv => kvs_one [(r, c)] v (by simpa [kvs] using hv)) (by unfold maxLen; omega) (by omega) (by have := HS2.out; simp; omega) ?_; intro v3 w3 hown3 hgrow3)
        | (refine step_append_own rfl (.tmp 73) (.tmp 74) 53 rfl w0.heap.size 105 i0 _ 2 16 Tryz.underlying53 hi hz0 hz1 hz2 rfl (by decide) v3 (l.length + 1) (kvs (l.take l.length) ++ kcs (r, c)) rfl hown3 ⟨g2, 0, none⟩ (0) c2 (kvs (l.drop l.length)) rfl (by rw [kvs_len, HDK.out]) (((below_ownK HR2.out HAL.out).kept hgrow3 (.inr (by simp [Value.ownBlock]; have := HGG.out; omega))).cells rfl) (kvs_one _) (by unfold maxLen; omega) (by omega) (Nat.le_trans HS2.out (Nat.le_trans HAL.out.size hgrow3.size)) ?_; intro v4 w4 hown4 hgrow4))
       all_goals
        have hbz3 : Below w0.heap.size w2 w3 := (HAL.out.mono HS2.out).grown hgrow3 (Nat.le_trans HS2.out HAL.out.size) (fun k hk => by simp [Value.ownBlock] at hk; omega)
        have hbz4 : Below w0.heap.size w2 w4 := hbz3.grown hgrow4 (Nat.le_trans HS2.out hbz3.size) (fun k hk => (hown3.lt k hk).1)
        have HBZ := Lib.hid ((HB1.out.trans (HB2.out.mono HB1.out.size)).trans (hbz4.mono HB0.out.size))
        have HO4 := Lib.hid (own_lowK hown4 HB0.out.size)
        obtain ⟨A4, c4, rfl, -, -, -⟩ := own_at hown4
        clear hown4 hgrow4 hown3 hgrow3 hbz3 hbz4
        go_wp2_with fail
        go_ret
        have hNl : N.length = l.length + 1 + (0) := by rw [HSS.out, List.length_append, List.length_cons, List.length_take, List.length_drop]; omega
        refine ⟨A4, c4, by rw [hNl]; rfl, ?_, HBZ.out⟩
        have h := HO4.out
        rw [show kvs (l.take l.length) ++ kcs (r, c) ++ kvs (l.drop l.length) = kvs N by rw [HSS.out, kvs_append, List.append_assoc]; rfl] at h
        rw [hNl]
        exact h
end Go.Proofs.YthhckdjagnlgpaaGreat
end
