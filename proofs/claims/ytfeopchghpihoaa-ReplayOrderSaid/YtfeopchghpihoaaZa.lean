/-
  Rows, moves and steps by the bits of their ranks: what moves do does not see which of the bits that are no number a rank has.
  Moves that come: how many stand behind one, the same in whatever order, the same on a base that holds the first ones: plain.
-/
import Derived.Test.YtfeopchghpihoaaKz
import Derived.Test.YtfeopchghpihoaaGa
import Derived.Test.YtfeopchghpihoaaUm
import Derived.Test.YtfeopchghpihoaaUj
section
namespace Go.Proofs.Ytfeopchghpihoaa
open Gr Fl

def cR (r : Rw) : Rw := (ch r, pa r, nm r, cb (rk r))
def cM (m : Mv) : Mv := (mc m, mr m, cR (mw m))
def cS (s : Sp) : Sp := (cM (sm s), sd s, sh s, cR (so s))
theorem alikeP_c {a b : Rw} : alikeP a b = true ↔ cR a = cR b := by
  obtain ⟨a1, a2, a3, a4⟩ := a
  obtain ⟨b1, b2, b3, b4⟩ := b
  simp [alikeP, cR, ch, pa, nm, rk]
  intro _ _ _
  exact ⟨fun h => by exact_mod_cast h, fun h => by exact_mod_cast h⟩
theorem timeEq_c {a b : Mv} : alikeM a b = true ↔ cM a = cM b := by
  unfold alikeM
  rw [Bool.and_eq_true, timeEq_iff, alikeP_c]
  obtain ⟨a1, a2, a3⟩ := a
  obtain ⟨b1, b2, b3⟩ := b
  simp [cM, and_assoc]
theorem sameP_c : ∀ {l m : List Rw}, sameP l m = true ↔ l.map cR = m.map cR
  | [], [] => by simp [sameP]
  | [], _ :: _ => by simp [sameP]
  | _ :: _, [] => by simp [sameP]
  | a :: l, b :: m => by
    rw [sameP, Bool.and_eq_true, alikeP_c, sameP_c (l := l) (m := m), List.map_cons, List.map_cons, List.cons.injEq]
theorem sameM_c : ∀ {l m : List Mv}, sameM l m = true ↔ l.map cM = m.map cM
  | [], [] => by simp [sameM]
  | [], _ :: _ => by simp [sameM]
  | _ :: _, [] => by simp [sameM]
  | a :: l, b :: m => by
    rw [sameM, Bool.and_eq_true, timeEq_c, sameM_c (l := l) (m := m), List.map_cons, List.map_cons, List.cons.injEq]
theorem alikeS_c {a b : Sp} : alikeS a b = true ↔ cS a = cS b := by
  unfold alikeS
  rw [Bool.and_eq_true, Bool.and_eq_true, Bool.and_eq_true, timeEq_c, alikeP_c]
  obtain ⟨a1, a2, a3, a4⟩ := a
  obtain ⟨b1, b2, b3, b4⟩ := b
  simp [cS]
theorem sameS_c : ∀ {l m : List Sp}, sameS l m = true ↔ l.map cS = m.map cS
  | [], [] => by simp [sameS]
  | [], _ :: _ => by simp [sameS]
  | _ :: _, [] => by simp [sameS]
  | a :: l, b :: m => by
    rw [sameS, Bool.and_eq_true, alikeS_c, sameS_c (l := l) (m := m), List.map_cons, List.map_cons, List.cons.injEq]
theorem cR_zr : cR zr = zr := by decide
theorem fnd_c (l : List Rw) (c : Int) : fnd (l.map cR) c = (fnd l c).map cR := by
  unfold fnd
  rw [List.find?_map]
  rfl
theorem idx_c (l : List Rw) (p : Rw → Bool) (h : ∀ r, p (cR r) = p r) : (l.map cR).findIdx? p = l.findIdx? p := by
  rw [List.findIdx?_map]
  congr 1
  funext r
  exact h r
theorem setP_c (l : List Rw) (r : Rw) : setP (l.map cR) (cR r) = (setP l r).map cR := by
  unfold setP
  rw [idx_c l _ (fun x => rfl), idx_c l _ (fun x => rfl)]
  show (match l.findIdx? (fun x => ch x == ch r) with
    | some k => (l.map cR).take k ++ cR r :: (l.map cR).drop (k + 1)
    | none => match l.findIdx? (fun x => decide (ch r < ch x)) with
      | some k => (l.map cR).take k ++ cR r :: (l.map cR).drop k
      | none => l.map cR ++ [cR r]) = _
  cases l.findIdx? (fun x => ch x == ch r) with
  | some k => simp [List.map_take, List.map_drop]
  | none =>
    cases l.findIdx? (fun x => decide (ch r < ch x)) with
    | some k => simp [List.map_take, List.map_drop]
    | none => simp
theorem abv_c (l : List Rw) (a : Int) : ∀ (n : Nat) (b : Int), abv (l.map cR) a n b = abv l a n b
  | 0, _ => rfl
  | n + 1, b => by
    rw [abv, abv, fnd_c]
    cases fnd l b with
    | none => rfl
    | some r =>
      show (if pa (cR r) = a then true else abv (l.map cR) a n (pa (cR r))) = _
      rw [abv_c l a n (pa (cR r))]
      rfl
theorem barP_c (l : List Rw) (m : Mv) : barP (l.map cR) (cM m) = barP l m := by
  unfold barP
  rw [abv_c, List.length_map]
  rfl
theorem doP_c (l : List Rw) (m : Mv) : doP (l.map cR) (cM m) = (doP l m).map cR := by
  unfold doP
  rw [barP_c]
  cases barP l m with
  | true => rfl
  | false => exact setP_c l (mw m)
theorem allP_c : ∀ (l : List Rw) (ms : List Mv), allP (l.map cR) (ms.map cM) = (allP l ms).map cR
  | _, [] => rfl
  | l, m :: t => by rw [List.map_cons, allP_cons, allP_cons, doP_c, allP_c (doP l m) t]
theorem stepP_c (l : List Rw) (m : Mv) : stepP (l.map cR) (cM m) = cS (stepP l m) := by
  unfold stepP
  rw [barP_c]
  cases barP l m with
  | true =>
    show ((cM m, false, false, zr) : Sp) = (cM m, false, false, cR zr)
    rw [cR_zr]
  | false =>
    show ((cM m, true, (fnd (l.map cR) (ch (mw m))).isSome, (fnd (l.map cR) (ch (mw m))).getD zr) : Sp) = (cM m, true, (fnd l (ch (mw m))).isSome, cR ((fnd l (ch (mw m))).getD zr))
    rw [fnd_c]
    cases fnd l (ch (mw m)) with
    | none => show ((_, _, _, zr) : Sp) = (_, _, _, cR zr); rw [cR_zr]; rfl
    | some r => rfl
theorem stepsP_c : ∀ (l : List Rw) (ms : List Mv), stepsP (l.map cR) (ms.map cM) = (stepsP l ms).map cS
  | _, [] => rfl
  | l, m :: t => by rw [List.map_cons, stepsP, stepsP, List.map_cons, stepP_c, doP_c, stepsP_c (doP l m) t]
theorem allP_same {l k : List Rw} {ms ns : List Mv} (hl : sameP l k = true) (h : sameM ms ns = true) : sameP (allP l ms) (allP k ns) = true := by
  rw [sameP_c] at hl ⊢
  rw [sameM_c] at h
  rw [← allP_c, ← allP_c, hl, h]
theorem stepsP_same {l k : List Rw} {ms ns : List Mv} (hl : sameP l k = true) (h : sameM ms ns = true) : sameS (stepsP l ms) (stepsP k ns) = true := by
  rw [sameS_c]
  rw [sameP_c] at hl
  rw [sameM_c] at h
  rw [← stepsP_c, ← stepsP_c, hl, h]
end Go.Proofs.Ytfeopchghpihoaa
end

section
namespace Go.Proofs.Ytfeopchghpihoaa
open Gr

theorem one_row {m : Mv} (h : oneM m = true) : oneP (mw m) = true := by
  unfold oneM at h
  simp only [Bool.and_eq_true] at h
  exact h.2.2.2.2
theorem do_tree {L : List Rw} {m : Mv} (h : Tree L) (hm : oneM m = true) (hl : L.length < 2000) : Tree (doP L m) := by
  unfold doP
  cases hb : barP L m with
  | true => exact h
  | false =>
    unfold barP at hb
    simp only [Bool.or_eq_false_iff, decide_eq_false_iff_not] at hb
    rw [if_neg Bool.false_ne_true]
    refine set_tree h (one_row hm) hl (fun e => hb.1.1 e.symm) fun hab => ?_
    rw [← abv_ab, hb.2] at hab
    cases hab
theorem ins_behind {l : List Mv} (x : Mv) (h : Asc l) (hf : (insM l x).2.2 = true) : ((insM l x).1.length : Int) - 1 - ((insM l x).2.1 : Int) = ((sinM l (mc x) (mr x)).length : Int) := by
  rcases insM_cases l x with ⟨k, y, _, _, _, e, _⟩ | ⟨h0, k, hk, hlo, hhi, e⟩
  · rw [e] at hf; cases hf
  · obtain ⟨j, hj, hs, jlo, jhi⟩ := sinM_cut (mc x) (mr x) h
    have hkj : k = j := by
      rcases Nat.lt_trichotomy k j with hlt | rfl | hlt
      · exfalso
        have hkl : k < l.length := by omega
        have h1 := hhi l[k] (List.getElem?_eq_getElem hkl)
        have h2 := jlo l[k] (by rw [List.mem_take_iff_getElem]; exact ⟨k, by omega, rfl⟩)
        rw [show bm x l[k] = befM (mc x) (mr x) l[k] from rfl, h2] at h1
        cases h1
      · rfl
      · exfalso
        have hjl : j < l.length := by omega
        have h1 := hlo l[j] (by rw [List.mem_take_iff_getElem]; exact ⟨j, by omega, rfl⟩)
        have h2 := jhi l[j] (by rw [List.drop_eq_getElem_cons hjl]; exact List.mem_cons_self)
        rw [show befM (mc x) (mr x) l[j] = bm x l[j] from rfl, h1] at h2
        cases h2
    subst hkj
    rw [e, hs, List.length_drop]
    show ((l.take k ++ x :: l.drop k).length : Int) - 1 - (k : Int) = _
    rw [List.length_append, List.length_cons, List.length_take, List.length_drop]
    omega
theorem ins_met (l : List Mv) (x : Mv) : (insM l x).2.2 = !(l.any fun y => timeEq y x) := by
  rcases insM_cases l x with ⟨k, y, hy, ht, _, e, _⟩ | ⟨h0, k, hk, hlo, hhi, e⟩
  · rw [e, show (l.any fun y => timeEq y x) = true from List.any_eq_true.2 ⟨y, mem_at hy, ht⟩]; rfl
  · rw [e, show (l.any fun y => timeEq y x) = false from List.any_eq_false.2 fun y hy => by rw [h0 y hy]; exact Bool.false_ne_true]; rfl
theorem ins_old {l : List Mv} {x : Mv} (hf : (insM l x).2.2 = false) : (insM l x).1 = l := by
  rcases insM_cases l x with ⟨k, y, _, _, _, e, _⟩ | ⟨h0, k, hk, hlo, hhi, e⟩
  · rw [e]
  · rw [e] at hf; cases hf
theorem insM_first {l : List Mv} {m : Mv} (h : ∀ x ∈ l, MLt m x) : insM l m = (m :: l, 0, true) := by
  rcases insM_cases l m with ⟨k, y, hy, ht, _, e, _⟩ | ⟨h0, k, hk, hlo, hhi, e⟩
  · exfalso
    have h1 := h y (mem_at hy)
    have h2 := timeEq_iff.1 ht
    unfold MLt at h1; omega
  · have hk0 : k = 0 := by
      cases k with
      | zero => rfl
      | succ k =>
        exfalso
        have hl : 0 < l.length := by omega
        have h1 := hlo l[0] (by rw [List.mem_take_iff_getElem]; exact ⟨0, by omega, rfl⟩)
        have h2 := bm_iff.2 (h l[0] (List.getElem_mem hl))
        rw [h1] at h2; cases h2
    subst hk0
    rw [e]; rfl
theorem uniM_all {l : List Mv} (h : Asc l) : uniM [] l = l := by
  have := uniM_append (a := []) (b := l) (by simpa using h)
  simpa using this
theorem insM_one {l : List Mv} {m : Mv} (h : ∀ x ∈ l, oneM x = true) (hm : oneM m = true) : ∀ x ∈ (insM l m).1, oneM x = true := fun x hx => by
  rcases insM_mem hx with h1 | h1
  · exact h x h1
  · rw [h1]; exact hm
theorem uniM_one {l : List Mv} (h : ∀ x ∈ l, oneM x = true) : ∀ x ∈ uniM [] l, oneM x = true := fun x hx => by
  rcases uniM_mem hx with h1 | h1
  · cases h1
  · exact h x h1
theorem all_tree : ∀ {l : List Rw} {ms : List Mv}, Tree l → (∀ m ∈ ms, oneM m = true) → l.length + ms.length ≤ 2000 → Tree (allP l ms)
  | _, [], h, _, _ => h
  | l, m :: t, h, hm, hl => by
    rw [List.length_cons] at hl
    rw [allP_cons]
    have := doP_len l m
    exact all_tree (do_tree h (hm m List.mem_cons_self) (by omega)) (fun x hx => hm x (List.mem_cons_of_mem _ hx)) (by omega)
theorem cover_same {L U V : List Mv} (hal : ∀ x ∈ L, ∀ y ∈ L, timeEq x y = true → alikeM x y = true) (hU : Asc U) (hV : Asc V) (h1 : ∀ x ∈ U, x ∈ L) (h2 : ∀ x ∈ V, x ∈ L) (h3 : ∀ x ∈ L, ∃ y ∈ U, timeEq y x = true) (h4 : ∀ x ∈ L, ∃ y ∈ V, timeEq y x = true) : sameM U V = true := by
  refine sameM_of hU hV (fun x hx => ?_) (fun y hy => h3 y (h2 y hy))
  obtain ⟨y, hy, ht⟩ := h4 x (h1 x hx)
  exact ⟨y, hy, alikeM_symm (hal y (h2 y hy) x (h1 x hx) ht)⟩
/-- in whatever order, and however often, moves come: the same -/
theorem order_any {l F : List Mv} (hal : ∀ x ∈ l, ∀ y ∈ l, timeEq x y = true → alikeM x y = true) (h1 : ∀ x ∈ F, x ∈ l) (h2 : ∀ x ∈ l, x ∈ F) : sameM (uniM [] l) (uniM [] F) = true := by
  have mem0 : ∀ {b : List Mv} {x : Mv}, x ∈ uniM [] b → x ∈ b := fun {b x} hx => by
    rcases uniM_mem hx with h | h
    · cases h
    · exact h
  exact cover_same hal (uniM_asc List.Pairwise.nil) (uniM_asc List.Pairwise.nil) (fun x hx => mem0 hx) (fun x hx => h1 x (mem0 hx)) (fun x hx => uniM_time (a := []) hx) (fun x hx => uniM_time (a := []) (h2 x hx))
/-- two of one time are alike, at two places -/
def PairOk (l : List Mv) (i k : Nat) : Prop := ∀ x y, l[i]? = some x → l[k]? = some y → timeEq x y = true → alikeM x y = true
theorem pairs_all {l : List Mv} (h : ∀ i, i < l.length → ∀ k, k < i → PairOk l i k) : ∀ x ∈ l, ∀ y ∈ l, timeEq x y = true → alikeM x y = true := by
  intro x hx y hy ht
  obtain ⟨i, hi, ei⟩ := List.mem_iff_getElem.1 hx
  obtain ⟨k, hk, ek⟩ := List.mem_iff_getElem.1 hy
  have hxi : l[i]? = some x := by rw [List.getElem?_eq_getElem hi, ei]
  have hyk : l[k]? = some y := by rw [List.getElem?_eq_getElem hk, ek]
  rcases Nat.lt_trichotomy i k with hik | rfl | hik
  · have ht2 : timeEq y x = true := by rw [timeEq_iff] at ht ⊢; exact ⟨ht.1.symm, ht.2.symm⟩
    exact alikeM_symm (h k hk i hik y x hyk hxi ht2)
  · rw [hxi] at hyk
    cases hyk
    exact alikeM_refl x
  · exact h i hi k hik x y hxi hyk ht
theorem pair_no {l : List Mv} {i k : Nat} {x y : Mv} (hx : l[i]? = some x) (hy : l[k]? = some y) (h : timeEq x y = false) : PairOk l i k := fun x' y' hx' hy' ht => by
  rw [hx] at hx'; rw [hy] at hy'; cases hx'; cases hy'
  rw [h] at ht; cases ht
theorem pair_yes {l : List Mv} {i k : Nat} {x y : Mv} (hx : l[i]? = some x) (hy : l[k]? = some y) (h : alikeM x y = true) : PairOk l i k := fun x' y' hx' hy' _ => by
  rw [hx] at hx'; rw [hy] at hy'; cases hx'; cases hy'
  exact h
theorem asc_bm {l : List Mv} (h : Asc l) {i : Nat} {x y : Mv} (hx : l[i]? = some x) (hy : l[i + 1]? = some y) : bm x y = true := by
  obtain ⟨h1, e1⟩ := List.getElem?_eq_some_iff.1 hx
  obtain ⟨h2, e2⟩ := List.getElem?_eq_some_iff.1 hy
  rw [bm_iff, ← e1, ← e2]
  exact List.pairwise_iff_getElem.1 h i (i + 1) h1 h2 (by omega)
theorem ints_at {w : World} {B k : Nat} {A : Option Addr} {l : List Int} {x : Int} (h : At w B A (ivs l)) (hk : l[k]? = some x) : ∃ b off, A = some ⟨b, off, none⟩ ∧ b < B ∧ w.cell? ⟨b, off + k, none⟩ = some (.int .i64 x) := h k _ (ivs_at hk)
theorem mayM_asc {l : List Mv} (h : mayM l = true) : Asc l ∧ (∀ m ∈ l, oneM m = true) := by
  unfold mayM at h
  simp only [Bool.and_eq_true] at h
  have h2 := h.2
  unfold mayL at h2
  cases l with
  | nil => exact ⟨List.Pairwise.nil, fun m hm => by cases hm⟩
  | cons x t =>
    unfold resM at h2
    simp only [Bool.true_and, Bool.and_eq_true] at h2
    obtain ⟨h3, h4⟩ := h2
    obtain ⟨h5, h6⟩ := resM_iff.1 h4
    exact ⟨h6, fun m hm => by
      rcases List.mem_cons.1 hm with rfl | hm
      · exact h3
      · exact h5 m hm⟩
/-- adding from behind: what came is what stands from a place on -/
theorem ins_back {l : List Mv} (h : Asc l) {i : Nat} {m : Mv} (hm : l[i]? = some m) : insM (l.drop (i + 1)) m = (l.drop i, 0, true) := by
  obtain ⟨hi, e⟩ := List.getElem?_eq_some_iff.1 hm
  have hd : l.drop i = m :: l.drop (i + 1) := by rw [List.drop_eq_getElem_cons hi, e]
  have h2 : Asc (l.drop i) := h.sublist (List.drop_sublist _ _)
  rw [hd] at h2
  rw [insM_first (List.pairwise_cons.1 h2).1, hd]
end Go.Proofs.Ytfeopchghpihoaa
end
