/-
  Function values that are asked of marks (slices.IndexFunc, slices.ContainsFunc); a copy of marks (slices.Clone).
-/
import Derived.Test.YtbhejaokkkggjaaAa
namespace Go.Proofs.Ytbhejaokkkggjaa
open Go.RowKit Go.IntWalk
set_option maxRecDepth 100000
attribute [local go_sem] Oper.semAt_some

/-- what a function value says of a mark, wherever it is asked -/
def PredK (g : Nat) (lb : Array Value) (p : Mk → Bool) (w : World) (l : List Mk) : Prop :=
  ∀ (W : World) (r : Mk), Below w.heap.size w W → r ∈ l → Calls Try.prog g (#[kv r] ++ lb) W fun e W' => e = .returned (.bool (p r)) ∧ Below W.heap.size W W'
set_option maxHeartbeats 2000000 in
theorem kindexFunc_c (A : Option Addr) (cap : Nat) (l : List Mk) (g : Nat) (lb : Array Value) (p : Mk → Bool) (hl : l.length ≤ maxLen) (eg : ∀ args w, (callFunc g args).run Try.prog w = .ok (.enter g args) w) (w : World)
    (hc : At w w.heap.size A (kvs l)) (hp : PredK g lb p w l) :
    Calls Try.prog 96 #[.slice A l.length cap, .func (.func g) #[] lb] w fun e w' => e = .returned (.int .i64 (idxK p l)) ∧ Below w.heap.size w w' := by
  unfold maxLen at hl
  obtain ⟨R, hR⟩ : ∃ R, idxK p l = R := ⟨_, rfl⟩
  rw [hR]
  have HR := Lib.hid hR
  have HC := Lib.hid hc
  have HP := Lib.hid hp
  clear hR hc hp
  go_enter Try.func96, Try.ntmps96
  go_wp2_with fail
  go_loopw [8] (fun i wr => ∃ k : Nat, i = .int .i64 (k : Int) ∧ k ≤ l.length ∧ (∀ x ∈ l.take k, p x = false) ∧ Below w.heap.size w wr) (fun i _ => l.length - (intOf i).toNat)
  case atStart => exact ⟨0, rfl, Nat.zero_le _, fun x hx => by simp at hx, Below.refl _ _⟩
  case round =>
    obtain ⟨k, rfl, hk, hno, hb⟩ := hrel
    have HN := Lib.hid hno
    clear hno
    by_cases hlt : k < l.length
    · obtain ⟨r, hr⟩ := some_at hlt
      obtain ⟨b0, o0, rfl, hb0, c0, c1⟩ := mark_cells (HC.out.below hb) hr
      have hcall := HP.out wr r hb (mem_at hr)
      have HRR := Lib.hid hr
      clear hr
      cases hq : p r with
      | true =>
        rw [hq] at hcall
        go_wp2_with (go_at_fn g; refine hcall.mono ?_; rintro e w' ⟨rfl, hb'⟩)
        go_ret
        rw [← HR.out, idxK_some HRR.out hq HN.out]
        exact ⟨rfl, hb.trans (hb'.mono hb.size)⟩
      | false =>
        rw [hq] at hcall
        have HQ := Lib.hid hq
        clear hq
        go_wp2_with (go_at_fn g; refine hcall.mono ?_; rintro e w' ⟨rfl, hb'⟩)
        go_roundw
        case rel =>
          refine ⟨k + 1, by go_num, by omega, fun x hx => ?_, hb.trans (hb'.mono hb.size)⟩
          rw [List.take_add_one, HRR.out] at hx
          rcases List.mem_append.1 hx with h | h
          · exact HN.out x h
          · simp at h; rw [h]; exact HQ.out
        case measure => simp only [intOf]; omega
    · obtain rfl : k = l.length := by omega
      have h := HN.out
      rw [List.take_length] at h
      have HNN := Lib.hid h
      clear h
      go_wp2_with fail
      go_ret
      rw [← HR.out, idxK_none HNN.out]
      exact ⟨rfl, hb⟩

set_option maxHeartbeats 2000000 in
theorem kcontainsFunc_c (A : Option Addr) (cap : Nat) (l : List Mk) (g : Nat) (lb : Array Value) (p : Mk → Bool) (hl : l.length ≤ maxLen) (eg : ∀ args w, (callFunc g args).run Try.prog w = .ok (.enter g args) w) (w : World)
    (hc : At w w.heap.size A (kvs l)) (hp : PredK g lb p w l) :
    Calls Try.prog 77 #[.slice A l.length cap, .func (.func g) #[] lb] w fun e w' => e = .returned (.bool (l.any p)) ∧ Below w.heap.size w w' := by
  have HI := Lib.hid (kindexFunc_c A cap l g lb p hl eg w hc hp)
  have hq : l.any p = decide (0 ≤ idxK p l) := by
    rcases idxK_cases p l with ⟨h1, h2⟩ | ⟨k, x, h1, h2, h3, h4, h5⟩
    · rw [h1]
      have : l.any p = false := by
        rw [List.any_eq_false]
        intro x hx
        have := List.findIdx?_eq_none_iff.1 h2 x hx
        simp [this]
      rw [this]; rfl
    · rw [h1]
      have : l.any p = true := List.any_eq_true.2 ⟨x, mem_at h3, h5⟩
      rw [this, decide_eq_true (by omega)]
  rw [hq]
  obtain ⟨z, hz⟩ : ∃ z, idxK p l = z := ⟨_, rfl⟩
  rw [hz] at HI ⊢
  clear hq hz hc hp
  go_enter Try.func77, Try.ntmps77
  go_wp2_with fail
  refine HI.out.mono ?_
  rintro e w1 ⟨rfl, hb⟩
  go_wp2_with fail
  go_ret
  exact ⟨ret_bool (by simp), hb⟩
theorem made2K (B : Nat) (W : World) (h : B ≤ W.heap.size) : (W.alloc (.cells #[] 70)).ownsRow B 70 2 (.slice (some ⟨W.heap.size, 0, none⟩) 0 0) 0 [] :=
  World.ownsRow_made (base := B) (e := 70) (size := 2) W #[] 0 h (by unfold maxLen; omega) rfl
def FreshK (l : List Mk) (w : World) (e : Ending) (w' : World) : Prop :=
  ∃ A cap, e = .returned (.slice A l.length cap) ∧ w'.ownsRow w.heap.size 70 2 (.slice A l.length cap) l.length (kvs l) ∧ Below w.heap.size w w'
set_option maxHeartbeats 2000000 in
theorem kclone_c (A : Option Addr) (cap : Nat) (l : List Mk) (hl : l.length ≤ 100000) (hA : A = none → cap = 0) (w : World) (hc : At w w.heap.size A (kvs l)) :
    Calls Try.prog 76 #[.slice A l.length cap] w (FreshK l w) := by
  obtain ⟨i0, hi, hz0, hz1, hz2⟩ := info_parts Try.info70
  have q22 : ∀ (w : World) (a : Option Addr) (n c n' c' : Nat), (binOp .eql 58 (.slice a n c) (.slice none n' c')).run Try.prog w = .ok (.bool a.isNone) w := fun w a n c n' c' => Lib.run_eql_slice_nil w _ _ a n c n' c' Try.underlying58
  cases A with
  | none =>
    obtain rfl := hA rfl
    have hl0 : l = [] := by
      cases l with
      | nil => rfl
      | cons r l =>
        obtain ⟨b, o, e, _⟩ := hc 0 _ rfl
        cases e
    subst hl0
    go_enter Try.func76, Try.ntmps76
    go_wp2
    go_ret
    exact ⟨none, 0, rfl, World.ownsRow_nil _ _ _ _, Below.refl _ _⟩
  | some a =>
    by_cases hn : l = []
    · subst hn
      obtain ⟨b0, o0, sp⟩ := a
      have hm := made2K w.heap.size w (Nat.le_refl _)
      go_enter Try.func76, Try.ntmps76
      go_wp2_with (at_builtin; refine wpList_append_own _ rfl _ _ 58 rfl w.heap.size 70 i0 _ 2 16 Try.underlying58 hi hz0 hz1 hz2 rfl (by decide) _ _ _ rfl hm ⟨b0, o0, sp⟩ 0 cap [] rfl rfl (fun j u hj => by simp at hj) (fun u hu => by simp at hu) (by unfold maxLen; omega) (by omega) (by simp) ?_)
      intro v' w1 hown hgrow _
      have hb := below_own ((Below.refl _ _).alloc (Nat.le_refl _) _) (by simp) hm hgrow
      obtain ⟨A', cap', rfl, -, -, -⟩ := own_at hown
      go_wp2
      go_ret
      exact ⟨A', cap', rfl, hown, hb⟩
    · obtain ⟨r, hr⟩ : ∃ r, l[0]? = some r := by
        cases l with
        | nil => exact absurd rfl hn
        | cons r l => exact ⟨r, rfl⟩
      obtain ⟨b0, o0, e, _⟩ := mark_cells hc hr
      cases e
      have hm := made2K w.heap.size w (Nat.le_refl _)
      have hb0 := (Below.refl w.heap.size w).alloc (Nat.le_refl _) (.cells #[] 70)
      have hc2 := hc.below hb0
      have HC2 := Lib.hid hc2
      have htl := kvs_len l
      clear hc hc2 hr
      go_enter Try.func76, Try.ntmps76
      go_wp2_with (at_builtin; refine wpList_append_own _ rfl _ _ 58 rfl w.heap.size 70 i0 _ 2 16 Try.underlying58 hi hz0 hz1 hz2 rfl (by decide) _ _ _ rfl hm ⟨b0, o0, none⟩ l.length cap (kvs l) rfl htl (at_news HC2.out) (kvs_one l) (by unfold maxLen; omega) (by omega) (by simp) ?_)
      intro v' w1 hown hgrow _
      have hb := below_own hb0 (by simp) hm hgrow
      obtain ⟨A', cap', rfl, -, -, -⟩ := own_at hown
      go_wp2
      go_ret
      exact ⟨A', cap', rfl, hown, hb⟩

/-- append of rows that came in, or of none -/
theorem append_optK (w : World) {ops : Array Oper} {rest : List Oper} {o : Oper} {a : Act} {Q : Exit → Act → World → Prop}
    (hg : o.guard = none) (s x : Operand) (hop : o.op = Op.call { callee := Callee.builtin Builtin.append, args := #[s, x], argTypes := #[58, 58] })
    (base : Nat) (v : Value) (k : Nat) (us : List Mk) (hs : a.eval s = v) (hown : w.ownsRow base 70 2 v k (kvs us)) (A : Option Addr) (c : Nat) (vs : List Mk) (hx : a.eval x = .slice A vs.length c) (hn : A = none → c = 0) (hvl : vs.length ≤ c)
    (B : Nat) (hc : At w B A (kvs vs)) (hlen : k + vs.length ≤ 200000) (b3 : base ≤ w.heap.size)
    (hK : ∀ v' w', w'.ownsRow base 70 2 v' (k + vs.length) (kvs (us ++ vs)) → w.grownBy w' v.ownBlock → wpList Try.prog ops Q rest (a.put o.dst v') w') :
    wpList Try.prog ops Q (o :: rest) a w := by
  obtain ⟨i0, hi, hz0, hz1, hz2⟩ := info_parts Try.info70
  rcases A with _ | ⟨b, off, spot⟩
  · obtain rfl : c = 0 := hn rfl
    obtain rfl : vs = [] := List.eq_nil_of_length_eq_zero (by omega)
    exact wpList_append_own_none hg s x _ hop base _ i0 2 Try.underlying58 hi v k (kvs us) hs hown hx (hK v w (by simpa using hown) (World.grownBy.refl w _))
  · by_cases hv : vs = []
    · subst hv
      refine wpList_append_own w hg s x _ hop base _ i0 _ 2 16 Try.underlying58 hi hz0 hz1 hz2 rfl (by decide) v k (kvs us) hs hown ⟨b, off, spot⟩ 0 c [] hx rfl (fun j u hu => by simp at hu) (fun u hu => by simp at hu) (by unfold maxLen; simp at hlen; omega) (by simp at hlen; omega) b3 ?_
      intro v' w' h1 h2 _
      exact hK v' w' (by simpa using h1) h2
    · obtain ⟨y, ys, rfl⟩ : ∃ y ys, vs = y :: ys := by cases vs with | nil => exact absurd rfl hv | cons y ys => exact ⟨y, ys, rfl⟩
      obtain ⟨b', off', e, _, _⟩ := hc 0 _ rfl
      cases e
      refine wpList_append_own w hg s x _ hop base _ i0 _ 2 16 Try.underlying58 hi hz0 hz1 hz2 rfl (by decide) v k (kvs us) hs hown ⟨b, off, none⟩ (y :: ys).length c (kvs (y :: ys)) hx (kvs_len _) (at_news hc) (kvs_one _) (by unfold maxLen; omega) (by omega) b3 ?_
      intro v' w' h1 h2 _
      exact hK v' w' (by rw [kvs_append]; exact h1) h2

end Go.Proofs.Ytbhejaokkkggjaa
