/-
  Steps as cells.
  What a step does, what is undone, plain.
-/
import Derived.Test.YtfeopchghpihoaaUa
import Derived.Test.YtfeopchghpihoaaTi
import Derived.Test.YtfeopchghpihoaaPe
section
namespace Go.Proofs.Ytfeopchghpihoaa
open Go.RowKit Go.IntWalk
set_option maxRecDepth 100000
attribute [local go_sem] Oper.semAt_some

/-- a step: its move, whether it moved, whether there was a row, and that row -/
abbrev Sp := Mv × Bool × Bool × Rw
abbrev sm (s : Sp) : Mv := s.1
abbrev sd (s : Sp) : Bool := s.2.1
abbrev sh (s : Sp) : Bool := s.2.2.1
abbrev so (s : Sp) : Rw := s.2.2.2
/-- a step's cells, by its parts -/
abbrev scs (m : Mv) (d h : Bool) (o : Rw) : List Value := [.int .i64 (mc m), .int .i64 (mr m), .int .i64 (pa (mw m)), .int .i64 (ch (mw m)), .string (ba (nm (mw m))), .float .f64 (rk (mw m)), .bool d, .bool h, .int .i64 (ch o), .int .i64 (pa o), .string (ba (nm o)), .float .f64 (rk o)]
def pcs (s : Sp) : List Value := scs (sm s) (sd s) (sh s) (so s)
def pv (s : Sp) : Value := .agg (pcs s).toArray
/-- the cells of a list of steps -/
def pvs (l : List Sp) : List Value := l.flatMap pcs
/-- such steps as a program may have -/
def Steps_ (l : List Sp) : Prop := ∀ s ∈ l, rk (mw (sm s)) < 18446744073709551616 ∧ (nm (mw (sm s))).length ≤ maxLen ∧ rk (so s) < 18446744073709551616 ∧ (nm (so s)).length ≤ maxLen
theorem pvs_len (l : List Sp) : (pvs l).length = l.length * 12 := by
  induction l with
  | nil => rfl
  | cons x l ih =>
    have h : pvs (x :: l) = pcs x ++ pvs l := rfl
    rw [h, List.length_append, List.length_cons, ih, show (pcs x).length = 12 from rfl]
    omega
theorem pvs_append (a b : List Sp) : pvs (a ++ b) = pvs a ++ pvs b := by simp [pvs]
theorem pvs_one (l : List Sp) : ∀ u ∈ pvs l, u.oneCell' = true := by
  intro u hu
  simp only [pvs, List.mem_flatMap, pcs, scs] at hu
  obtain ⟨x, _, hx⟩ := hu
  simp only [List.mem_cons, List.not_mem_nil, or_false] at hx
  rcases hx with rfl | rfl | rfl | rfl | rfl | rfl | rfl | rfl | rfl | rfl | rfl | rfl <;> rfl
theorem pvs_take (l : List Sp) : ∀ j, pvs (l.take j) = (pvs l).take (j * 12) := by
  induction l with
  | nil => intro j; simp [pvs]
  | cons c l ih =>
    intro j
    cases j with
    | zero => simp [pvs]
    | succ j =>
      rw [List.take_succ_cons, show pvs (c :: l.take j) = pcs c ++ pvs (l.take j) from rfl, ih, show pvs (c :: l) = pcs c ++ pvs l from rfl, List.take_append, List.take_of_length_le (l := pcs c) (by show 12 ≤ (j + 1) * 12; omega), show (j + 1) * 12 - (pcs c).length = j * 12 from by show (j + 1) * 12 - 12 = _; omega]
theorem pvs_drop (l : List Sp) : ∀ j, pvs (l.drop j) = (pvs l).drop (j * 12) := by
  induction l with
  | nil => intro j; simp [pvs]
  | cons c l ih =>
    intro j
    cases j with
    | zero => simp [pvs]
    | succ j =>
      rw [List.drop_succ_cons, ih, show pvs (c :: l) = pcs c ++ pvs l from rfl, List.drop_append, List.drop_of_length_le (l := pcs c) (by show 12 ≤ (j + 1) * 12; omega), show (j + 1) * 12 - (pcs c).length = j * 12 from by show (j + 1) * 12 - 12 = _; omega, List.nil_append]
theorem pvs_at {l : List Sp} {k i : Nat} {x : Sp} {v : Value} (h : l[k]? = some x) (hi : (pcs x)[i]? = some v) : (pvs l)[k * 12 + i]? = some v := by
  have hd : pvs (l.drop k) = pcs x ++ pvs (l.drop (k + 1)) := by
    have hk := (List.getElem?_eq_some_iff.1 h).1
    have hc := (List.getElem?_eq_some_iff.1 h).2
    rw [List.drop_eq_getElem_cons hk, hc]; rfl
  rw [pvs_drop] at hd
  rw [← List.getElem?_drop, hd, List.getElem?_append_left (List.getElem?_eq_some_iff.1 hi).1, hi]
/-- the twelve cells of a step that lies at p -/
structure Laid (w : World) (b o : Nat) (s : Sp) : Prop where
  c0 : w.cell? ⟨b, o, none⟩ = some (.int .i64 (mc (sm s)))
  c1 : w.cell? ⟨b, o + 1, none⟩ = some (.int .i64 (mr (sm s)))
  c2 : w.cell? ⟨b, o + 2, none⟩ = some (.int .i64 (pa (mw (sm s))))
  c3 : w.cell? ⟨b, o + 3, none⟩ = some (.int .i64 (ch (mw (sm s))))
  c4 : w.cell? ⟨b, o + 4, none⟩ = some (.string (ba (nm (mw (sm s)))))
  c5 : w.cell? ⟨b, o + 5, none⟩ = some (.float .f64 (rk (mw (sm s))))
  c6 : w.cell? ⟨b, o + 6, none⟩ = some (.bool (sd s))
  c7 : w.cell? ⟨b, o + 7, none⟩ = some (.bool (sh s))
  c8 : w.cell? ⟨b, o + 8, none⟩ = some (.int .i64 (ch (so s)))
  c9 : w.cell? ⟨b, o + 9, none⟩ = some (.int .i64 (pa (so s)))
  c10 : w.cell? ⟨b, o + 10, none⟩ = some (.string (ba (nm (so s))))
  c11 : w.cell? ⟨b, o + 11, none⟩ = some (.float .f64 (rk (so s)))
theorem step_cells {w : World} {B k : Nat} {A : Option Addr} {l : List Sp} {x : Sp} (h : At w B A (pvs l)) (hk : l[k]? = some x) :
    ∃ b off, A = some ⟨b, off, none⟩ ∧ b < B ∧ Laid w b (off + k * 12) x := by
  obtain ⟨b, off, hA, hlt, hc⟩ := h _ _ (pvs_at (i := 0) hk rfl)
  subst hA
  have g : ∀ i v, (pcs x)[i]? = some v → w.cell? ⟨b, off + k * 12 + i, none⟩ = some v := fun i v hv => by
    obtain ⟨b', off', hA', _, hc'⟩ := h _ _ (pvs_at hk hv)
    cases hA'
    rw [Nat.add_assoc]; exact hc'
  exact ⟨b, off, rfl, hlt, g 0 _ rfl, g 1 _ rfl, g 2 _ rfl, g 3 _ rfl, g 4 _ rfl, g 5 _ rfl, g 6 _ rfl, g 7 _ rfl, g 8 _ rfl, g 9 _ rfl, g 10 _ rfl, g 11 _ rfl⟩
theorem Try.info64 : (Try.prog.info? 64).map (fun i => (i.zero, i.size, i.bytes)) = some (some (.agg #[.int .i64 0, .int .i64 0, .int .i64 0, .int .i64 0, .string ByteArray.empty, .float .f64 0, .bool false, .bool false, .int .i64 0, .int .i64 0, .string ByteArray.empty, .float .f64 0]), 12, 104) := by kernel_rfl
def zm : Mv := (0, 0, zr)
def zs : Sp := (zm, false, false, zr)
theorem box12 {w : World} {G : Nat} {s : Sp} (h : Is w G 64 (pcs s)) : Laid w G 0 s :=
  ⟨is_cell h 0, is_cell h 1, is_cell h 2, is_cell h 3, is_cell h 4, is_cell h 5, is_cell h 6, is_cell h 7, is_cell h 8, is_cell h 9, is_cell h 10, is_cell h 11⟩
theorem pvs_set (s : Sp) : ∀ (l : List Sp) (k : Nat), k < l.length →
    ((((((((((((pvs l).set (k * 12) (.int .i64 (mc (sm s)))).set (k * 12 + 1) (.int .i64 (mr (sm s)))).set (k * 12 + 2) (.int .i64 (pa (mw (sm s))))).set (k * 12 + 3) (.int .i64 (ch (mw (sm s))))).set (k * 12 + 4) (.string (ba (nm (mw (sm s)))))).set (k * 12 + 5) (.float .f64 (rk (mw (sm s))))).set (k * 12 + 6) (.bool (sd s))).set (k * 12 + 7) (.bool (sh s))).set (k * 12 + 8) (.int .i64 (ch (so s)))).set (k * 12 + 9) (.int .i64 (pa (so s)))).set (k * 12 + 10) (.string (ba (nm (so s))))).set (k * 12 + 11) (.float .f64 (rk (so s))) = pvs (l.set k s)
  | [], k, h => by simp at h
  | x :: l, 0, _ => by
    have h : pvs (x :: l) = pcs x ++ pvs l := rfl
    have h2 : pvs ((x :: l).set 0 s) = pcs s ++ pvs l := rfl
    rw [h, h2]
    rfl
  | x :: l, k + 1, h => by
    have h1 : pvs (x :: l) = .int .i64 (mc (sm x)) :: .int .i64 (mr (sm x)) :: .int .i64 (pa (mw (sm x))) :: .int .i64 (ch (mw (sm x))) :: .string (ba (nm (mw (sm x)))) :: .float .f64 (rk (mw (sm x))) :: .bool (sd x) :: .bool (sh x) :: .int .i64 (ch (so x)) :: .int .i64 (pa (so x)) :: .string (ba (nm (so x))) :: .float .f64 (rk (so x)) :: pvs l := rfl
    have h2 : pvs ((x :: l).set (k + 1) s) = .int .i64 (mc (sm x)) :: .int .i64 (mr (sm x)) :: .int .i64 (pa (mw (sm x))) :: .int .i64 (ch (mw (sm x))) :: .string (ba (nm (mw (sm x)))) :: .float .f64 (rk (mw (sm x))) :: .bool (sd x) :: .bool (sh x) :: .int .i64 (ch (so x)) :: .int .i64 (pa (so x)) :: .string (ba (nm (so x))) :: .float .f64 (rk (so x)) :: pvs (l.set k s) := rfl
    rw [h1, h2, ← pvs_set s l k (by simpa using h)]
    rw [show (k + 1) * 12 = k * 12 + 1 + 1 + 1 + 1 + 1 + 1 + 1 + 1 + 1 + 1 + 1 + 1 by omega]
    rfl
/-- a world in which a step was laid at a place -/
def lay12 (w : World) (g o : Nat) (s : Sp) : World :=
  (((((((((((w.setCell ⟨g, o, none⟩ (.int .i64 (mc (sm s)))).setCell ⟨g, o + 1, none⟩ (.int .i64 (mr (sm s)))).setCell ⟨g, o + 2, none⟩ (.int .i64 (pa (mw (sm s))))).setCell ⟨g, o + 3, none⟩ (.int .i64 (ch (mw (sm s))))).setCell ⟨g, o + 4, none⟩ (.string (ba (nm (mw (sm s)))))).setCell ⟨g, o + 5, none⟩ (.float .f64 (rk (mw (sm s))))).setCell ⟨g, o + 6, none⟩ (.bool (sd s))).setCell ⟨g, o + 7, none⟩ (.bool (sh s))).setCell ⟨g, o + 8, none⟩ (.int .i64 (ch (so s)))).setCell ⟨g, o + 9, none⟩ (.int .i64 (pa (so s)))).setCell ⟨g, o + 10, none⟩ (.string (ba (nm (so s))))).setCell ⟨g, o + 11, none⟩ (.float .f64 (rk (so s)))
theorem own_set12 {w : World} {B g cap k n : Nat} {l : List Sp} (s : Sp) (h : w.ownsRow B 64 12 (.slice (some ⟨g, 0, none⟩) n cap) n (pvs l)) (hn : n = l.length) (hk : k < n) :
    (lay12 w g (k * 12) s).ownsRow B 64 12 (.slice (some ⟨g, 0, none⟩) n cap) n (pvs (l.set k s)) := by
  subst hn
  have h0 := own_setc h (.int .i64 (mc (sm s))) (i := k * 12)
  have h1 := own_setc h0 (.int .i64 (mr (sm s))) (i := k * 12 + 1)
  have h2 := own_setc h1 (.int .i64 (pa (mw (sm s)))) (i := k * 12 + 2)
  have h3 := own_setc h2 (.int .i64 (ch (mw (sm s)))) (i := k * 12 + 3)
  have h4 := own_setc h3 (.string (ba (nm (mw (sm s))))) (i := k * 12 + 4)
  have h5 := own_setc h4 (.float .f64 (rk (mw (sm s)))) (i := k * 12 + 5)
  have h6 := own_setc h5 (.bool (sd s)) (i := k * 12 + 6)
  have h7 := own_setc h6 (.bool (sh s)) (i := k * 12 + 7)
  have h8 := own_setc h7 (.int .i64 (ch (so s))) (i := k * 12 + 8)
  have h9 := own_setc h8 (.int .i64 (pa (so s))) (i := k * 12 + 9)
  have h10 := own_setc h9 (.string (ba (nm (so s)))) (i := k * 12 + 10)
  have h11 := own_setc h10 (.float .f64 (rk (so s))) (i := k * 12 + 11)
  rw [pvs_set s l k hk] at h11
  exact h11
theorem below_lay12 {w W : World} {N g o : Nat} (s : Sp) (h : Below N w W) (hg : N ≤ g) : Below N w (lay12 W g o s) :=
  ((((((((((((h.setCell (p := ⟨g, o, none⟩) hg _).setCell (p := ⟨g, o + 1, none⟩) hg _).setCell (p := ⟨g, o + 2, none⟩) hg _).setCell (p := ⟨g, o + 3, none⟩) hg _).setCell (p := ⟨g, o + 4, none⟩) hg _).setCell (p := ⟨g, o + 5, none⟩) hg _).setCell (p := ⟨g, o + 6, none⟩) hg _).setCell (p := ⟨g, o + 7, none⟩) hg _).setCell (p := ⟨g, o + 8, none⟩) hg _).setCell (p := ⟨g, o + 9, none⟩) hg _).setCell (p := ⟨g, o + 10, none⟩) hg _).setCell (p := ⟨g, o + 11, none⟩) hg _)
/-- steps that are told -/
def ToldS (l : List Sp) (w : World) (v : Value) (w' : World) : Prop := ∃ A cap, v = .slice A l.length cap ∧ At w' w'.heap.size A (pvs l) ∧ (A = none → cap = 0) ∧ l.length ≤ cap ∧ Below w.heap.size w w'
theorem own_toldS {w w' : World} {B : Nat} {l : List Sp} {v : Value} (h : w'.ownsRow B 64 12 v l.length (pvs l)) (hb : Below w.heap.size w w') : ToldS l w v w' := by
  obtain ⟨A, cap, rfl, ha, hf, hc⟩ := own_at h
  refine ⟨A, cap, rfl, ha, fun hA => ?_, hc, hb⟩
  subst hA
  rcases h.2 with ⟨hz, _⟩ | ⟨g, c2, cur, hv, _⟩
  · exact (Value.slice.inj hz).2.2
  · cases hv
/-- append of steps to a row of the call's own -/
theorem append_optS (w : World) {ops : Array Oper} {rest : List Oper} {o : Oper} {a : Act} {Q : Exit → Act → World → Prop}
    (hg : o.guard = none) (s x : Operand) (hop : o.op = Op.call { callee := Callee.builtin Builtin.append, args := #[s, x], argTypes := #[44, 44] })
    (base : Nat) (v : Value) (k : Nat) (us : List Sp) (hs : a.eval s = v) (hown : w.ownsRow base 64 12 v k (pvs us)) (A : Option Addr) (c : Nat) (vs : List Sp) (hx : a.eval x = .slice A vs.length c) (hn : A = none → c = 0) (hvl : vs.length ≤ c)
    (B : Nat) (hc : At w B A (pvs vs)) (hlen : k + vs.length ≤ 200000) (b3 : base ≤ w.heap.size)
    (hK : ∀ v' w', w'.ownsRow base 64 12 v' (k + vs.length) (pvs (us ++ vs)) → w.grownBy w' v.ownBlock → wpList Try.prog ops Q rest (a.put o.dst v') w') :
    wpList Try.prog ops Q (o :: rest) a w := by
  obtain ⟨i0, hi, hz0, hz1, hz2⟩ := info_parts Try.info64
  rcases A with _ | ⟨b, off, spot⟩
  · obtain rfl : c = 0 := hn rfl
    obtain rfl : vs = [] := List.eq_nil_of_length_eq_zero (by omega)
    exact wpList_append_own_none hg s x _ hop base _ i0 12 Try.underlying44 hi v k (pvs us) hs hown hx (hK v w (by simpa using hown) (World.grownBy.refl w _))
  · by_cases hv : vs = []
    · subst hv
      refine wpList_append_own w hg s x _ hop base _ i0 _ 12 104 Try.underlying44 hi hz0 hz1 hz2 rfl (by decide) v k (pvs us) hs hown ⟨b, off, spot⟩ 0 c [] hx rfl (fun j u hu => by simp at hu) (fun u hu => by simp at hu) (by unfold maxLen; simp at hlen; omega) (by simp at hlen; omega) b3 ?_
      intro v' w' h1 h2 _
      exact hK v' w' (by simpa using h1) h2
    · obtain ⟨y, ys, rfl⟩ : ∃ y ys, vs = y :: ys := by cases vs with | nil => exact absurd rfl hv | cons y ys => exact ⟨y, ys, rfl⟩
      obtain ⟨b', off', e, _, _⟩ := hc 0 _ rfl
      cases e
      refine wpList_append_own w hg s x _ hop base _ i0 _ 12 104 Try.underlying44 hi hz0 hz1 hz2 rfl (by decide) v k (pvs us) hs hown ⟨b, off, none⟩ (y :: ys).length c (pvs (y :: ys)) hx (pvs_len _) (at_news hc) (pvs_one _) (by unfold maxLen; omega) (by omega) b3 ?_
      intro v' w' h1 h2 _
      exact hK v' w' (by rw [pvs_append]; exact h1) h2
end Go.Proofs.Ytfeopchghpihoaa
end

section
namespace Go.Proofs.Ytfeopchghpihoaa
open Gr

/-- the step of a move that is done in l -/
def stepP (l : List Rw) (m : Mv) : Sp := if barP l m then (m, false, false, zr) else (m, true, (fnd l (ch (mw m))).isSome, (fnd l (ch (mw m))).getD zr)
def undoP (l : List Rw) (s : Sp) : List Rw := if sd s then (if sh s then setP l (so s) else dropP l (ch (mw (sm s)))) else l
def stepsP : List Rw → List Mv → List Sp
  | _, [] => []
  | l, m :: t => stepP l m :: stepsP (doP l m) t
def backP (l : List Rw) (ss : List Sp) : List Rw := ss.foldr (fun s r => undoP r s) l
theorem stepP_move (l : List Rw) (m : Mv) : sm (stepP l m) = m := by unfold stepP; split <;> rfl
theorem stepP_moved (l : List Rw) (m : Mv) : sd (stepP l m) = !barP l m := by unfold stepP; cases barP l m <;> rfl
theorem stepsP_len : ∀ (l : List Rw) (ms : List Mv), (stepsP l ms).length = ms.length
  | _, [] => rfl
  | l, m :: t => by rw [stepsP, List.length_cons, List.length_cons, stepsP_len]
theorem stepsP_moves : ∀ (l : List Rw) (ms : List Mv), (stepsP l ms).map sm = ms
  | _, [] => rfl
  | l, m :: t => by rw [stepsP, List.map_cons, stepsP_moves, stepP_move]
theorem allP_cons (l : List Rw) (m : Mv) (t : List Mv) : allP l (m :: t) = allP (doP l m) t := rfl
theorem allP_app (l : List Rw) (a b : List Mv) : allP l (a ++ b) = allP (allP l a) b := by unfold allP; rw [List.foldl_append]
theorem stepsP_app : ∀ (l : List Rw) (a b : List Mv), stepsP l (a ++ b) = stepsP l a ++ stepsP (allP l a) b
  | _, [], _ => rfl
  | l, m :: t, b => by rw [List.cons_append, stepsP, stepsP, stepsP_app, allP_cons, List.cons_append]
theorem stepsP_take {l : List Rw} {ms : List Mv} {k : Nat} {m : Mv} (h : ms[k]? = some m) : stepsP l (ms.take (k + 1)) = stepsP l (ms.take k) ++ [stepP (allP l (ms.take k)) m] := by
  obtain ⟨hk, he⟩ := List.getElem?_eq_some_iff.1 h
  rw [List.take_succ_eq_append_getElem hk, stepsP_app, he]; rfl
theorem stepsP_drop (l : List Rw) (ms : List Mv) (k : Nat) : (stepsP l ms).drop k = stepsP (allP l (ms.take k)) (ms.drop k) := by
  by_cases hk : k ≤ ms.length
  · conv => lhs; rw [← List.take_append_drop k ms, stepsP_app]
    rw [List.drop_append, List.drop_of_length_le (by rw [stepsP_len, List.length_take]; omega), List.nil_append, stepsP_len, List.length_take, show k - min k ms.length = 0 by omega, List.drop_zero]
  · rw [List.drop_of_length_le (by rw [stepsP_len]; omega), List.drop_of_length_le (l := ms) (by omega)]; rfl
theorem stepsP_taken (l : List Rw) (ms : List Mv) (k : Nat) : (stepsP l ms).take k = stepsP l (ms.take k) := by
  by_cases hk : k ≤ ms.length
  · conv => lhs; rw [← List.take_append_drop k ms, stepsP_app]
    rw [List.take_append_of_le_length (by rw [stepsP_len, List.length_take]; omega), List.take_of_length_le (by rw [stepsP_len, List.length_take]; omega)]
  · rw [List.take_of_length_le (by rw [stepsP_len]; omega), List.take_of_length_le (l := ms) (by omega)]
theorem find_at {l : List Rw} {c : Int} {k : Nat} {x : Rw} (hk : l[k]? = some x) (hx : ch x = c) (hno : ∀ y ∈ l.take k, ch y ≠ c) : l.findIdx? (fun r => ch r == c) = some k := by
  obtain ⟨h1, h2⟩ := List.getElem?_eq_some_iff.1 hk
  rw [List.findIdx?_eq_some_iff_getElem]
  refine ⟨h1, by rw [h2]; simpa using hx, fun j hj => ?_⟩
  have := hno l[j] (by rw [List.mem_take_iff_getElem]; exact ⟨j, by omega, rfl⟩)
  simpa using this
theorem undo_do (l : List Rw) (m : Mv) : undoP (doP l m) (stepP l m) = l := by
  unfold doP stepP undoP
  cases hb : barP l m with
  | true => rfl
  | false =>
    simp only [Bool.false_eq_true, if_false, if_true]
    cases hf : l.findIdx? (fun r => ch r == ch (mw m)) with
    | some k =>
      obtain ⟨hk, hc, hno⟩ := List.findIdx?_eq_some_iff_getElem.1 hf
      have hx : l[k]? = some l[k] := List.getElem?_eq_getElem hk
      have hfnd : fnd l (ch (mw m)) = some l[k] := by
        unfold fnd
        rw [List.find?_eq_some_iff_getElem]
        exact ⟨hc, k, hk, rfl, fun j hj => by simpa using hno j hj⟩
      rw [hfnd]
      simp only [Option.isSome_some, if_true, Option.getD_some]
      have hc' : ch l[k] = ch (mw m) := by simpa using hc
      have hs : setP l (mw m) = l.set k (mw m) := by
        unfold setP
        rw [hf]
        exact setP_at l _ k hk
      rw [hs]
      unfold setP
      rw [hc', find_at (k := k) (x := mw m) (by rw [List.getElem?_set_self hk]) rfl (fun y hy => by
        rw [List.take_set_of_le (Nat.le_refl k)] at hy
        obtain ⟨j, hj, rfl⟩ := List.mem_take_iff_getElem.1 hy
        have := hno j (by omega)
        simpa using this)]
      show (l.set k (mw m)).take k ++ l[k] :: (l.set k (mw m)).drop (k + 1) = l
      rw [List.take_set_of_le (Nat.le_refl k), List.drop_set_of_lt (Nat.lt_succ_self k), ← List.drop_eq_getElem_cons hk, List.take_append_drop]
    | none =>
      have hno : ∀ y ∈ l, ch y ≠ ch (mw m) := fun y hy => by simpa using List.findIdx?_eq_none_iff.1 hf y hy
      have hfnd : fnd l (ch (mw m)) = none := by
        unfold fnd
        rw [List.find?_eq_none]
        exact fun y hy => by simpa using hno y hy
      rw [hfnd]
      simp only [Option.isSome_none]
      obtain ⟨j, hj, hs⟩ : ∃ j, j ≤ l.length ∧ setP l (mw m) = l.take j ++ mw m :: l.drop j := by
        rcases set_cases l (mw m) with ⟨k, x, h1, h2, _⟩ | ⟨k, x, h0, h1, h2, h3, h4⟩ | ⟨h0, h1, h2⟩
        · unfold plc at h1
          exfalso
          unfold idx at h1
          rw [hf] at h1
          simp at h1
        · exact ⟨k, by omega, h3⟩
        · exact ⟨l.length, Nat.le_refl _, by rw [h2, List.take_length, List.drop_length]⟩
      rw [hs]
      unfold dropP
      have hl : (l.take j).length = j := by rw [List.length_take]; omega
      rw [find_at (k := j) (x := mw m) (by rw [List.getElem?_append_right (by omega), hl, Nat.sub_self]; rfl) rfl (fun y hy => by
        rw [List.take_append_of_le_length (by omega), List.take_of_length_le (by omega)] at hy
        exact hno y (List.mem_of_mem_take hy))]
      show (l.take j ++ mw m :: l.drop j).take j ++ (l.take j ++ mw m :: l.drop j).drop (j + 1) = l
      rw [List.take_append_of_le_length (by omega), List.take_of_length_le (by omega), List.drop_append, List.drop_of_length_le (by omega), List.nil_append, hl, show j + 1 - j = 1 by omega, List.drop_succ_cons, List.drop_zero, List.take_append_drop]
theorem back_run : ∀ (l : List Rw) (ms : List Mv), backP (allP l ms) (stepsP l ms) = l
  | _, [] => rfl
  | l, m :: t => by
    rw [allP_cons, stepsP]
    show undoP (backP (allP (doP l m) t) (stepsP (doP l m) t)) (stepP l m) = l
    rw [back_run (doP l m) t, undo_do]
theorem back_drop (l : List Rw) (ms : List Mv) (k : Nat) : backP (allP l ms) ((stepsP l ms).drop k) = allP l (ms.take k) := by
  rw [stepsP_drop]
  conv => lhs; arg 1; rw [← List.take_append_drop k ms, allP_app]
  exact back_run _ _
theorem undoP_len (l : List Rw) (s : Sp) : (undoP l s).length ≤ l.length + 1 := by
  unfold undoP
  split
  · split
    · exact setP_len l _
    · unfold dropP; split <;> simp <;> omega
  · omega
theorem backP_len (l : List Rw) : ∀ ss : List Sp, (backP l ss).length ≤ l.length + ss.length
  | [] => by simp [backP]
  | s :: t => by
    have h := backP_len l t
    have h2 := undoP_len (backP l t) s
    show (undoP (backP l t) s).length ≤ _
    rw [List.length_cons]; omega
end Go.Proofs.Ytfeopchghpihoaa
end
