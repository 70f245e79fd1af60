/-
 Where the way up from a node ends, plain; maps that tell it.
 Maps of nodes and where their ways end.
-/
import Derived.Test.YtkobmnbjeppnaaaGreatQa
import Derived.Test.YtkobmnbjeppnaaaGreatPe
section
namespace Go.Proofs.YtkobmnbjeppnaaaGreat
open Go.RowKit Go.IntWalk Go.Maps
open Gr
set_option maxRecDepth 100000
def endN (l : List Rw) : Nat → Int → Int × Bool
 | 0, _ => (0, false)
 | n + 1, c => if parB l c then endN l n (parV l c) else (c, true)
def endE (l : List Rw) (c : Int) : Int × Bool := endN l (l.length + 1) c
theorem upF_par (l : List Rw) (c : Int) : upF l c = if parB l c then some (parV l c) else none := by
 unfold upF parB parV
 cases fnd l c <;> rfl
theorem endN_iff (l : List Rw) (x : Int) : ∀ (n : Nat) (c : Int), endN l n c = (x, true) ↔ ∃ m, m < n ∧ it (upF l) m c = some x ∧ upF l x = none
 | 0, c => by simp [endN]
 | n + 1, c => by
  unfold endN
  by_cases hp : parB l c = true
  ·rw [if_pos hp, endN_iff l x n]
   constructor
   ·rintro ⟨m, hm, h1, h2⟩
    exact ⟨m + 1, by omega, by rw [it, upF_par, if_pos hp]; exact h1, h2⟩
   ·rintro ⟨m, hm, h1, h2⟩
    cases m with
    | zero =>
     simp only [it, Option.some.injEq] at h1
     subst h1
     rw [upF_par, if_pos hp] at h2; cases h2
    | succ m =>
     rw [it, upF_par, if_pos hp] at h1
     exact ⟨m, by omega, h1, h2⟩
  ·rw [if_neg hp]
   constructor
   ·intro h
    injection h with h _
    subst h
    exact ⟨0, by omega, rfl, by rw [upF_par, if_neg hp]⟩
   ·rintro ⟨m, hm, h1, h2⟩
    cases m with
    | zero => simp only [it, Option.some.injEq] at h1; rw [h1]
    | succ m => rw [it, upF_par, if_neg hp] at h1; cases h1
theorem endN_no (l : List Rw) : ∀ (n : Nat) (c : Int), (endN l n c).2 = false → endN l n c = (0, false)
 | 0, _, _ => rfl
 | n + 1, c, h => by
  unfold endN at h ⊢
  by_cases hp : parB l c = true
  ·rw [if_pos hp] at h ⊢; exact endN_no l n _ h
  ·rw [if_neg hp] at h; cases h
theorem endE_iff (l : List Rw) (c x : Int) : endE l c = (x, true) ↔ ∃ m, it (upF l) m c = some x ∧ upF l x = none := by
 unfold endE
 rw [endN_iff]
 constructor
 ·rintro ⟨m, _, h⟩; exact ⟨m, h⟩
 ·rintro ⟨m, h1, h2⟩
  cases m with
  | zero => exact ⟨0, by omega, h1, h2⟩
  | succ m =>
   obtain ⟨k, hk, hk2⟩ := it_short (upF_dom l) h1
   rw [List.length_map] at hk
   exact ⟨k + 1, by omega, hk2, h2⟩
theorem endE_no {l : List Rw} {c : Int} (h : ∀ x, endE l c ≠ (x, true)) : endE l c = (0, false) := by
 refine endN_no l _ c ?_
 cases hb : (endN l (l.length + 1) c).2 with
 | false => rfl
 | true => exact absurd (show endE l c = ((endE l c).1, true) from Prod.ext rfl hb) (h _)
theorem endE_eq {l : List Rw} {c d : Int} (h : ∀ x, endE l c = (x, true) ↔ endE l d = (x, true)) : endE l c = endE l d := by
 by_cases hx : ∃ x, endE l c = (x, true)
 ·obtain ⟨x, hx⟩ := hx
  rw [hx, (h x).1 hx]
 ·rw [endE_no (fun x h' => hx ⟨x, h'⟩), endE_no (fun x h' => hx ⟨x, (h x).2 h'⟩)]
theorem endE_it {l : List Rw} {i : Nat} {c y : Int} (h : it (upF l) i c = some y) : endE l c = endE l y := by
 refine endE_eq fun x => ?_
 rw [endE_iff, endE_iff]
 constructor
 ·rintro ⟨m, h1, h2⟩
  by_cases hm : i ≤ m
  ·obtain ⟨z, h3, h4⟩ := it_less h1 hm
   rw [h] at h3
   cases h3
   exact ⟨_, h4, h2⟩
  ·obtain ⟨z, h3, h4⟩ := it_less h (show m ≤ i by omega)
   rw [h1] at h3
   cases h3
   rw [show i - m = (i - m - 1) + 1 by omega, it, h2] at h4
   cases h4
 ·rintro ⟨m, h1, h2⟩
  exact ⟨_, it_add' h h1, h2⟩
theorem endE_last {l : List Rw} {c : Int} (h : parB l c = false) : endE l c = (c, true) := (endE_iff l c c).2 ⟨0, rfl, by rw [upF_par, h]; rfl⟩
theorem it_loop {f : Int → Option Int} {p : Nat} {c : Int} (h : it f p c = some c) : ∀ k, it f (k * p) c = some c
 | 0 => by rw [Nat.zero_mul]; rfl
 | k + 1 => by rw [Nat.succ_mul]; exact it_add' (it_loop h k) h
theorem endE_cycle {l : List Rw} {c : Int} (h : Ab (upF l) c c) : endE l c = (0, false) := by
 obtain ⟨p, hp⟩ := h
 refine endE_no fun x hx => ?_
 obtain ⟨m, h1, h2⟩ := (endE_iff l c x).1 hx
 have h3 := it_loop hp (m + 1)
 have hle : m + 1 ≤ (m + 1) * (p + 1) := Nat.le_mul_of_pos_right _ (by omega)
 obtain ⟨z, h4, h5⟩ := it_less h3 (show m ≤ (m + 1) * (p + 1) by omega)
 rw [h1] at h4
 cases h4
 rw [show (m + 1) * (p + 1) - m = ((m + 1) * (p + 1) - m - 1) + 1 by omega, it, h2] at h5
 cases h5
theorem chn_at {l : List Rw} : ∀ {n i : Nat} {c y : Int} {b : Bool}, (chn l n c)[i]? = some (y, b) → it (upF l) i c = some y ∧ b = !parB l y
 | 0, i, c, y, b, h => by simp [chn] at h
 | n + 1, 0, c, y, b, h => by
  rw [chn] at h
  rw [List.getElem?_cons_zero] at h
  injection h with h
  injection h with h1 h2
  subst h1
  exact ⟨rfl, h2.symm⟩
 | n + 1, i + 1, c, y, b, h => by
  rw [chn, List.getElem?_cons_succ] at h
  by_cases hp : parB l c = true
  ·rw [if_pos hp] at h
   obtain ⟨h1, h2⟩ := chn_at h
   exact ⟨by rw [it, upF_par, if_pos hp]; exact h1, h2⟩
  ·rw [if_neg hp] at h; simp at h
/-- a way all of whose nodes have rows is as long as may be -/
theorem chn_full {l : List Rw} : ∀ {n : Nat} {c : Int}, (∀ x ∈ chn l n c, x.2 = false) → (chn l n c).length = n
 | 0, _, _ => rfl
 | n + 1, c, h => by
  unfold chn at h ⊢
  have h0 := h _ (List.mem_cons_self ..)
  simp at h0
  rw [if_pos h0] at h ⊢
  rw [List.length_cons, chn_full (n := n) (fun x hx => h x (List.mem_cons_of_mem _ hx))]
/-- where the way ends, as its last node tells -/
def toOf (p : List (Int × Bool)) : Int × Bool := match p.getLast? with
 | some (y, true) => (y, true)
 | _ => (0, false)
theorem toOf_snoc (p : List (Int × Bool)) (y : Int) (b : Bool) : toOf (p ++ [(y, b)]) = if b then (y, true) else (0, false) := by
 unfold toOf
 rw [List.getLast?_append]
 cases b <;> rfl
theorem chn_const {l : List Rw} {n : Nat} {c : Int} {x : Int × Bool} (h : x ∈ chn l n c) : endE l x.1 = endE l c := by
 obtain ⟨i, hi⟩ := List.mem_iff_getElem?.1 h
 exact (endE_it (chn_at (y := x.1) (b := x.2) hi).1).symm
theorem chn_again {l : List Rw} {n : Nat} {c : Int} {pre : List (Int × Bool)} {x : Int × Bool} (h : pre ++ [x] <+: chn l n c) (hx : x.1 ∈ pre.map (·.1)) : endE l x.1 = (0, false) := by
 obtain ⟨y, hy, hyx⟩ := List.mem_map.1 hx
 obtain ⟨i, hi⟩ := List.mem_iff_getElem?.1 hy
 have hil : i < pre.length := (List.getElem?_eq_some_iff.1 hi).1
 obtain ⟨t, ht⟩ := h
 have h1 : (chn l n c)[i]? = some (y.1, y.2) := by rw [← ht, List.append_assoc, List.getElem?_append_left hil]; exact hi
 have h2 : (chn l n c)[pre.length]? = some (x.1, x.2) := by rw [← ht, List.append_assoc, List.getElem?_append_right (Nat.le_refl _), Nat.sub_self]; rfl
 have g1 := (chn_at h1).1
 have g2 := (chn_at h2).1
 rw [hyx] at g1
 obtain ⟨z, h3, h4⟩ := it_less g2 (Nat.le_of_lt hil)
 rw [g1] at h3
 cases h3
 exact endE_cycle ⟨pre.length - i - 1, by rw [show pre.length - i - 1 + 1 = pre.length - i by omega]; exact h4⟩
theorem chn_done {l : List Rw} {c : Int} (hn : ((chn l (l.length + 1) c).map (·.1)).Nodup) : toOf (chn l (l.length + 1) c) = endE l c := by
 obtain ⟨p, y, b, hp⟩ : ∃ p y b, chn l (l.length + 1) c = p ++ [(y, b)] := by
  rcases List.eq_nil_or_concat (chn l (l.length + 1) c) with h | ⟨p, ⟨y, b⟩, h⟩
  ·rw [chn] at h; cases h
  ·exact ⟨p, y, b, by simpa using h⟩
 have hy : (y, b) ∈ chn l (l.length + 1) c := by rw [hp]; simp
 rw [hp, toOf_snoc]
 obtain ⟨i, hi⟩ := List.mem_iff_getElem?.1 hy
 have hb := (chn_at hi).2
 cases b with
 | true =>
  rw [if_pos rfl, ← chn_const hy]
  exact (endE_last (by simpa using hb.symm)).symm
 | false =>
  exfalso
  -- every node has a row: too many of them
  have hall : ∀ x ∈ chn l (l.length + 1) c, x.2 = false := by
   intro x hx
   rw [hp] at hx
   rcases List.mem_append.1 hx with hx | hx
   ·obtain ⟨j, hj⟩ := List.mem_iff_getElem?.1 hx
    have hjl : j < p.length := (List.getElem?_eq_some_iff.1 hj).1
    have h1 : (chn l (l.length + 1) c)[j]? = some (x.1, x.2) := by rw [hp, List.getElem?_append_left hjl]; exact hj
    have h2 : (chn l (l.length + 1) c)[p.length]? = some (y, false) := by rw [hp, List.getElem?_append_right (Nat.le_refl _), Nat.sub_self]; rfl
    obtain ⟨g1, g2⟩ := chn_at h1
    have g3 := (chn_at h2).1
    obtain ⟨z, h3, h4⟩ := it_less g3 (Nat.le_of_lt hjl)
    rw [g1] at h3
    cases h3
    rw [g2]
    cases hq : parB l x.1 with
    | true => rfl
    | false =>
     rw [show p.length - j = (p.length - j - 1) + 1 by omega, it, upF_par, hq] at h4
     cases h4
   ·rw [List.mem_singleton.1 hx]
  have hlen := chn_full hall
  have := nodup_len hn (b := l.map ch) (fun x hx => by
   obtain ⟨z, hz, rfl⟩ := List.mem_map.1 hx
   obtain ⟨j, hj⟩ := List.mem_iff_getElem?.1 hz
   have g := (chn_at (y := z.1) (b := z.2) hj).2
   rw [hall z hz] at g
   have hpz : parB l z.1 = true := by cases h : parB l z.1 with
    | true => rfl
    | false => rw [h] at g; cases g
   unfold parB at hpz
   obtain ⟨r, hr⟩ := Option.isSome_iff_exists.1 hpz
   unfold fnd at hr
   exact List.mem_map.2 ⟨r, List.mem_of_find?_eq_some hr, by have := List.find?_some hr; simpa using this⟩)
  rw [List.length_map, List.length_map, hlen] at this
  omega
end Go.Proofs.YtkobmnbjeppnaaaGreat
end
section
namespace Go.Proofs.YtkobmnbjeppnaaaGreat
open Go.RowKit Go.IntWalk Go.Maps
set_option maxRecDepth 100000
def ev (e : Int × Bool) : Value := .agg #[.int .i64 e.1, .bool e.2]
noncomputable def eD (e : Int × Bool) : DataW Unit := .agg [.lit (.int .i64 e.1), .lit (.bool e.2)]
noncomputable def RE : Value → Option (DataW Unit × List MemPlace) := fun v => match v with
 | .agg ⟨[.int .i64 n, .bool b]⟩ => some (eD (n, b), [])
 | _ => none
theorem re_mk (e : Int × Bool) : RE (ev e) = some (eD e, []) := rfl
theorem re_inv {v : Value} {e : Int × Bool} {ps : List MemPlace} (h : RE v = some (eD e, ps)) : v = ev e := by
 unfold RE at h
 split at h
 ·rename_i n b
  injection h with h
  injection h with h _
  unfold eD at h
  injection h with h
  injection h with h1 h2
  injection h2 with h2 _
  injection h1 with h1
  injection h2 with h2
  injection h1 with _ h1
  injection h2 with h2
  show ev (n, b) = ev e
  rw [show (n, b) = e from Prod.ext h1 h2]
 ·cases h
/-- the map tells what K tells -/
def Eok (D : DataW Unit) (K : Int → Option (Int × Bool)) : Prop := (∀ x, Maps.has D (.int .i64 x) = (K x).isSome) ∧ ∀ x v, K x = some v → D.atKey (.int .i64 x) (eD (0, false)) = eD v
def updK (K : Int → Option (Int × Bool)) (x : Int) (v : Int × Bool) : Int → Option (Int × Bool) := fun y => if y = x then some v else K y
theorem updK_on (K : Int → Option (Int × Bool)) (x : Int) (v : Int × Bool) : updK K x v x = some v := if_pos rfl
theorem updK_off (K : Int → Option (Int × Bool)) {x y : Int} (v : Int × Bool) (h : y ≠ x) : updK K x v y = K y := if_neg h
theorem eok_nil : Eok (.map []) (fun _ => none) := ⟨fun x => by simp [Maps.has], fun x v h => by cases h⟩
theorem eok_put {D : DataW Unit} {K : Int → Option (Int × Bool)} {x : Int} {v : Int × Bool} (hm : IsMap D) (h : Eok D K) : Eok (D.put (.int .i64 x) (eD v)) (updK K x v) := by
 refine ⟨fun y => ?_, fun y u hu => ?_⟩
 ·by_cases e : y = x
  ·subst e; rw [has_put_same hm (show WideAt.IsKeyLit (Lit.int .i64 y) from trivial), updK_on]; rfl
  ·rw [has_put_other (by simpa using e), h.1, updK_off _ _ e]
 ·by_cases e : y = x
  ·subst e
   rw [updK_on] at hu
   cases hu
   exact atKey_put_same hm (show WideAt.IsKeyLit (Lit.int .i64 y) from trivial) _ _
  ·rw [updK_off _ _ e] at hu
   rw [atKey_put_other (by simpa using e)]
   exact h.2 y u hu
theorem zero_end (w : World) : (zeroValue 56).run Tryz.prog w = .ok (ev (0, false)) w := by kernel_rfl
theorem look_e {w : World} {b n : Nat} {D : DataW Unit} {K : Int → Option (Int × Bool)} {x : Int} (hown : w.ownsMap Tryz.prog 3 RE b n D) (hK : Eok D K) (hx : In64 x) :
  (Instr.lookup 52 (.map (some b)) (.int .i64 x) true).run Tryz.prog w = .ok (.tuple #[ev ((K x).getD (0, false)), .bool (K x).isSome]) w := by
 obtain ⟨v, ps, hrun, hv⟩ := hown.look_ok keyed_int Tryz.underlying52 (zero_end w) (re_mk (0, false)) (key_int hx)
 rw [hrun, hK.1 x]
 cases hk : K x with
 | none =>
  have hn : D.atKey (.int .i64 x) (eD (0, false)) = eD (0, false) := by
   have := hK.1 x
   rw [hk] at this
   exact Maps.atKey_of_not_has this _
  rw [hn] at hv
  rw [re_inv hv]; rfl
 | some u =>
  rw [hK.2 x u hk] at hv
  rw [re_inv hv]; rfl
theorem look_e1 {w : World} {b n : Nat} {D : DataW Unit} {K : Int → Option (Int × Bool)} {x : Int} (hown : w.ownsMap Tryz.prog 3 RE b n D) (hK : Eok D K) (hx : In64 x) {v : Int × Bool} (hv : K x = some v) :
  (Instr.lookup 52 (.map (some b)) (.int .i64 x) false).run Tryz.prog w = .ok (ev v) w := by
 obtain ⟨u, ps, hrun, hu⟩ := hown.lookup keyed_int Tryz.underlying52 (zero_end w) (re_mk (0, false)) (key_int hx)
 rw [hK.2 x v hv] at hu
 rw [hrun, re_inv hu]
theorem put_e {w : World} {b n : Nat} {D : DataW Unit} {K : Int → Option (Int × Bool)} {x : Int} {v : Int × Bool} (hown : w.ownsMap Tryz.prog 3 RE b n D) (hK : Eok D K) (hn : n < 100000000) (hx : In64 x) :
  ∃ w' D', (Instr.mapUpdate 52 (.map (some b)) (.int .i64 x) (ev v)).run Tryz.prog w = .ok () w' ∧ w'.ownsMap Tryz.prog 3 RE b (n + 1) D' ∧ Eok D' (updK K x v) ∧ w.grownBy w' (some b) := by
 obtain ⟨w', hrun, hown', hg⟩ := hown.update keyed_int Tryz.underlying52 (by unfold maxLen; omega) (key_int hx) (re_mk v)
 exact ⟨w', _, hrun, hown', eok_put hown.isMap hK, hg⟩
end Go.Proofs.YtkobmnbjeppnaaaGreat
end
