/-
  A step that is undone: the program's, and the document's.
  Steps from the last one on: slices.Backward.
-/
import Derived.Test.YtnkckoilhhbllaaHa
import Derived.Test.YtnkckoilhhbllaaTx
import Derived.Test.YtnkckoilhhbllaaRa
import Derived.Test.YtnkckoilhhbllaaPc
section
namespace Go.Proofs.Ytnkckoilhhbllaa
open Go.RowKit Go.IntWalk
open Gr
set_option maxRecDepth 100000
attribute [local go_sem] Oper.semAt_some

theorem Fresh_.told {l : List Rw} {w w' : World} {e : Ending} (h : Fresh_ l w e w') : Told_ l w e w' := by
  obtain ⟨A, cap, rfl, hown, hb⟩ := h
  exact own_toldR hown hb
theorem Told_.from {l : List Rw} {w w1 w' : World} {e : Ending} (h : Told_ l w1 e w') (hb : Below w.heap.size w w1) : Told_ l w e w' := by
  obtain ⟨A, cap, he, hat, hn, hc, hb2⟩ := h
  exact ⟨A, cap, he, hat, hn, hc, hb.trans (hb2.mono hb.size)⟩

/-- rows that are told: those that came in, or in memory that was made since -/
def ToldO (A0 : Option Addr) (l0 l : List Rw) (w : World) (e : Ending) (w' : World) : Prop :=
  ∃ A cap, e = .returned (.slice A l.length cap) ∧ At w' w'.heap.size A (tvs l) ∧ (A = none → cap = 0) ∧ l.length ≤ cap ∧ Below w.heap.size w w' ∧ ((A = A0 ∧ l = l0) ∨ Fresh w.heap.size A)
theorem ToldO.told {A0 : Option Addr} {l0 l : List Rw} {w w' : World} {e : Ending} (h : ToldO A0 l0 l w e w') : Told_ l w e w' := by
  obtain ⟨A, cap, he, ha, hn, hc, hb, _⟩ := h
  exact ⟨A, cap, he, ha, hn, hc, hb⟩
theorem Fresh_.toldF {l : List Rw} {w w' : World} {e : Ending} (h : Fresh_ l w e w') : ToldF l w e w' := by
  obtain ⟨A, cap, rfl, hown, hb⟩ := h
  exact own_toldF hown (Nat.le_refl _) hb

theorem mundo_f (A : Option Addr) (cap : Nat) (l : List Rw) (s : Sp) (hl : l.length ≤ 100000) (hA : A = none → cap = 0) (hcap : l.length ≤ cap) (w : World) (hc : At w w.heap.size A (tvs l)) :
    Calls Try.prog 41 #[.slice A l.length cap, pv s] w (ToldO A l (undoP l s) w) := by
  have hb := (Below.refl w.heap.size w).alloc (Nat.le_refl _) (.cells #[.int .i64 (mc (sm s)), .int .i64 (mr (sm s)), .int .i64 (pa (mw (sm s))), .int .i64 (ch (mw (sm s))), .string (ba (nm (mw (sm s)))), .float .f64 (rk (mw (sm s))), .bool (sd s), .bool (sh s), .int .i64 (ch (so s)), .int .i64 (pa (so s)), .string (ba (nm (so s))), .float .f64 (rk (so s))] 51)
  have hcx := hc.keep hb
  have HB := Lib.hid hb
  have HC := Lib.hid hcx
  have HA := Lib.hid hA
  have hst : undoP l s = if sd s then (if sh s then setP l (so s) else dropP l (ch (mw (sm s)))) else l := rfl
  clear hb hcx hc hA
  show Calls Try.prog 41 #[.slice A l.length cap, .agg #[.int .i64 (mc (sm s)), .int .i64 (mr (sm s)), .int .i64 (pa (mw (sm s))), .int .i64 (ch (mw (sm s))), .string (ba (nm (mw (sm s)))), .float .f64 (rk (mw (sm s))), .bool (sd s), .bool (sh s), .int .i64 (ch (so s)), .int .i64 (pa (so s)), .string (ba (nm (so s))), .float .f64 (rk (so s))]] w _
  obtain ⟨d, hd⟩ : ∃ d, sd s = d := ⟨_, rfl⟩
  obtain ⟨h, hh⟩ : ∃ h, sh s = h := ⟨_, rfl⟩
  rw [hd] at HB HC hst ⊢
  rw [hh] at HB HC hst ⊢
  clear hd hh
  cases d with
  | false =>
    rw [if_neg Bool.false_ne_true] at hst
    rw [hst]
    clear hst
    go_enter Try.func41, Try.ntmps41
    go_wp2_with fail
    go_ret
    exact ⟨A, cap, rfl, HC.out, HA.out, hcap, HB.out, .inl ⟨rfl, rfl⟩⟩
  | true =>
    rw [if_pos rfl] at hst
    cases h with
    | true =>
      rw [if_pos rfl] at hst
      rw [hst]
      clear hst
      go_enter Try.func41, Try.ntmps41
      go_wp2_with fail
      refine (set_c A cap l (so s) hl HA.out hcap _ HC.out).mono ?_
      rintro e w1 h1
      obtain ⟨A1, cap1, rfl, hat1, hn1, hc1, hb1, hf1⟩ := h1.toldF
      have hb1 := HB.out.trans (hb1.mono HB.out.size)
      have hf1 : Fresh w.heap.size A1 := fun a ha => Nat.le_trans HB.out.size (hf1 a ha)
      clear h1
      go_wp2_with fail
      go_ret
      exact ⟨A1, cap1, rfl, hat1, hn1, hc1, hb1, .inr hf1⟩
    | false =>
      rw [if_neg Bool.false_ne_true] at hst
      rw [hst]
      clear hst
      go_enter Try.func41, Try.ntmps41
      go_wp2_with fail
      refine (drop_c A cap l (ch (mw (sm s))) hl HA.out hcap _ HC.out).mono ?_
      rintro e w1 h1
      obtain ⟨A1, cap1, rfl, hat1, hn1, hc1, hb1, hf1⟩ := h1.toldF
      have hb1 := HB.out.trans (hb1.mono HB.out.size)
      have hf1 : Fresh w.heap.size A1 := fun a ha => Nat.le_trans HB.out.size (hf1 a ha)
      clear h1
      go_wp2_with fail
      go_ret
      exact ⟨A1, cap1, rfl, hat1, hn1, hc1, hb1, .inr hf1⟩

theorem mundo_c (A : Option Addr) (cap : Nat) (l : List Rw) (s : Sp) (hl : l.length ≤ 100000) (hA : A = none → cap = 0) (hcap : l.length ≤ cap) (w : World) (hc : At w w.heap.size A (tvs l)) :
    Calls Try.prog 41 #[.slice A l.length cap, pv s] w (Told_ (undoP l s) w) :=
  (mundo_f A cap l s hl hA hcap w hc).mono fun _ _ h => h.told

theorem rundo_c (A : Option Addr) (cap : Nat) (l : List Rw) (s : Sp) (hl : l.length ≤ 100000) (hA : A = none → cap = 0) (hcap : l.length ≤ cap) (w : World) (hc : At w w.heap.size A (tvs l)) :
    Calls Try.prog 42 #[.slice A l.length cap, pv s] w (Told_ (undoP l s) w) := by
  have hb := (Below.refl w.heap.size w).alloc (Nat.le_refl _) (.cells #[.int .i64 (mc (sm s)), .int .i64 (mr (sm s)), .int .i64 (pa (mw (sm s))), .int .i64 (ch (mw (sm s))), .string (ba (nm (mw (sm s)))), .float .f64 (rk (mw (sm s))), .bool (sd s), .bool (sh s), .int .i64 (ch (so s)), .int .i64 (pa (so s)), .string (ba (nm (so s))), .float .f64 (rk (so s))] 51)
  have hcx := hc.keep hb
  have HB := Lib.hid hb
  have HC := Lib.hid hcx
  have HA := Lib.hid hA
  have hst : undoP l s = if sd s then (if sh s then setP l (so s) else dropP l (ch (mw (sm s)))) else l := rfl
  clear hb hcx hc hA
  show Calls Try.prog 42 #[.slice A l.length cap, .agg #[.int .i64 (mc (sm s)), .int .i64 (mr (sm s)), .int .i64 (pa (mw (sm s))), .int .i64 (ch (mw (sm s))), .string (ba (nm (mw (sm s)))), .float .f64 (rk (mw (sm s))), .bool (sd s), .bool (sh s), .int .i64 (ch (so s)), .int .i64 (pa (so s)), .string (ba (nm (so s))), .float .f64 (rk (so s))]] w _
  obtain ⟨d, hd⟩ : ∃ d, sd s = d := ⟨_, rfl⟩
  obtain ⟨h, hh⟩ : ∃ h, sh s = h := ⟨_, rfl⟩
  rw [hd] at HB HC hst ⊢
  rw [hh] at HB HC hst ⊢
  clear hd hh
  cases d with
  | false =>
    rw [if_neg Bool.false_ne_true] at hst
    rw [hst]
    clear hst
    go_enter Try.func42, Try.ntmps42
    go_wp2_with fail
    go_ret
    exact ⟨A, cap, rfl, HC.out, HA.out, hcap, HB.out⟩
  | true =>
    rw [if_pos rfl] at hst
    cases h with
    | true =>
      rw [if_pos rfl] at hst
      rw [hst]
      clear hst
      go_enter Try.func42, Try.ntmps42
      go_wp2_with fail
      refine (rset_c A cap l (so s) hl HA.out hcap _ HC.out).mono ?_
      rintro e w1 h1
      obtain ⟨A1, cap1, rfl, hat1, hn1, hc1, hb1⟩ := (h1).from HB.out
      clear h1
      go_wp2_with fail
      go_ret
      exact ⟨A1, cap1, rfl, hat1, hn1, hc1, hb1⟩
    | false =>
      rw [if_neg Bool.false_ne_true] at hst
      rw [hst]
      clear hst
      go_enter Try.func42, Try.ntmps42
      go_wp2_with fail
      refine (rdrop_c A cap l (ch (mw (sm s))) hl HA.out hcap _ HC.out).mono ?_
      rintro e w1 h1
      obtain ⟨A1, cap1, rfl, hat1, hn1, hc1, hb1⟩ := (h1).from HB.out
      clear h1
      go_wp2_with fail
      go_ret
      exact ⟨A1, cap1, rfl, hat1, hn1, hc1, hb1⟩
end Go.Proofs.Ytnkckoilhhbllaa
end

section
namespace Go.Proofs.Ytnkckoilhhbllaa
open Go.RowKit Go.IntWalk
open Gr
set_option maxRecDepth 100000
attribute [local go_sem] Oper.semAt_some

/-- the first n of ss, with their places, the last one first -/
def bk (ss : List Sp) : Nat → List (Int × Sp)
  | 0 => []
  | n + 1 => ((n : Int), (ss[n]?).getD zs) :: bk ss n
theorem bk_len (ss : List Sp) : ∀ n, (bk ss n).length = n
  | 0 => rfl
  | n + 1 => by rw [bk, List.length_cons, bk_len]
/-- what is left of rows of which the told steps were undone -/
def curB (l : List Rw) (pre : List (Int × Sp)) : List Rw := pre.foldl (fun r x => undoP r x.2) l
theorem curB_snoc (l : List Rw) (pre : List (Int × Sp)) (x : Int × Sp) : curB l (pre ++ [x]) = undoP (curB l pre) x.2 := by unfold curB; rw [List.foldl_append]; rfl
theorem curB_len (l : List Rw) : ∀ pre : List (Int × Sp), (curB l pre).length ≤ l.length + pre.length := fun pre => by
  induction pre generalizing l with
  | nil => simp [curB]
  | cons x t ih => have := ih (undoP l x.2); have h2 := undoP_len l x.2; rw [show curB l (x :: t) = curB (undoP l x.2) t from rfl, List.length_cons]; omega
theorem curB_bk (ss : List Sp) : ∀ (n : Nat) (l : List Rw), n ≤ ss.length → curB l (bk ss n) = backP l (ss.take n)
  | 0, l, _ => rfl
  | n + 1, l, h => by
    have hn : ss[n]? = some ss[n] := List.getElem?_eq_getElem (by omega)
    rw [bk, hn, show curB l (((n : Int), (some ss[n]).getD zs) :: bk ss n) = curB (undoP l ss[n]) (bk ss n) from rfl, curB_bk ss n _ (by omega), List.take_succ_eq_append_getElem (by omega)]
    unfold backP
    rw [List.foldr_append]; rfl
theorem curB_all (ss : List Sp) (l : List Rw) : curB l (bk ss ss.length) = backP l ss := by rw [curB_bk ss _ l (Nat.le_refl _), List.take_length]

def bkArr (x : Int × Sp) : Array Value := #[.int .i64 x.1, pv x.2]

set_option maxHeartbeats 4000000 in
theorem back1_in (m : Nat) (hm : 1 ≤ m) (lp Bt : Nat) (A : Option Addr) (cap : Nat) (ss : List Sp) (hl : ss.length ≤ 100000) (J Jx : List (Int × Sp) → World → Prop) (Kp : World → World → Prop)
    (hY : ∀ pre x W, pre ++ [x] <+: bk ss ss.length → J pre W → pre.length < ss.length → YieldAt Fence.wide (m - 1) Try.prog lp (bkArr x) W fun e W' =>
      (e = .returned (.bool true) ∧ J (pre ++ [x]) W' ∧ Kp W W') ∨ (e = .returned (.bool false) ∧ Jx (pre ++ [x]) W'))
    (W : World) (hK1 : ∀ X Y Z : World, Kp X Y → Kp Y Z → Kp X Z) (hK0 : Kp W W) (hK3 : ∀ X, Kp W X → X.cell? ⟨Bt, 0, none⟩ = some (.slice A ss.length cap) ∧ At X X.heap.size A (pvs ss)) (h0 : J [] W) :
    CallsIn Fence.wide m Try.prog 111 #[.func (.yield lp) #[] #[], .pointer (some ⟨Bt, 0, none⟩)] W fun e W' => (∃ v, e = .returned v) ∧
      ((∃ ys, ys = bk ss ss.length ∧ J ys W') ∨ ∃ pre, pre <+: bk ss ss.length ∧ Jx pre W') := by
  have hY' := fun pre (v : Int) (s : Sp) => hY pre (v, s)
  unfold bkArr pv pcs scs at hY'
  dsimp only at hY'
  have HY' := Lib.hid hY'
  have HK3 := Lib.hid hK3
  have HK0 := Lib.hid hK0
  have HK1 := Lib.hid hK1
  clear hY hY' hK1 hK3 hK0
  have hw0 : IntKind.i64.wrap ((ss.length : Int) - 1) = (ss.length : Int) - 1 := IntWalk.i64_in _ (by omega)
  refine callsIn_of_wp Try.func111 rfl trivial ?_ rfl
  simp only [Try.ntmps111, List.size_toArray, List.length_cons, List.length_nil, Nat.reduceAdd, Nat.reduceSub, Array.replicate_succ, Array.replicate_zero, List.push_toArray, List.append_toArray, List.nil_append, List.cons_append]
  have hct := (HK3.out _ HK0.out).1
  gi_wp2
  clear hct
  gi_loopw [3] (fun i wr => ∃ (k : Nat) (pre : List (Int × Sp)), i = .int .i64 ((k : Int) - 1) ∧ k ≤ ss.length ∧ pre.length + k = ss.length ∧ pre ++ bk ss k = bk ss ss.length ∧ J pre wr ∧ Kp W wr)
    (fun i _ => (intOf i + 1).toNat)
  case atStart => exact ⟨ss.length, [], rfl, Nat.le_refl _, by simp, rfl, h0, HK0.out⟩
  case round =>
    clear h0
    obtain ⟨k, pre, rfl, hkl, hpl, heq, hJs, hbw⟩ := hrel
    have HE := Lib.hid heq
    have HPL := Lib.hid hpl
    have HBW := Lib.hid hbw
    have HJS := Lib.hid hJs
    clear heq hpl hbw hJs
    cases k with
    | zero =>
      have hz : ¬ (0 : Int) ≤ ((0 : Nat) : Int) - 1 := by omega
      gi_wp2_with fail
      go_end0
      have e : pre = bk ss ss.length := by rw [← HE.out]; simp [bk]
      have h := HJS.out
      rw [e] at h
      exact ⟨⟨_, rfl⟩, .inl h⟩
    | succ k =>
      obtain ⟨z, hz⟩ : ∃ z : Int, z = (((k + 1 : Nat) : Int) - 1) := ⟨_, rfl⟩
      have hz2 : z = (k : Int) := by omega
      rw [← hz, hz2]
      clear hz hz2
      obtain ⟨s, hs⟩ := some_at (show k < ss.length by omega)
      obtain ⟨hct, hat⟩ := HK3.out _ HBW.out
      obtain ⟨b0, o0, rfl, -, q0, q1, q2, q3, q4, q5, q6, q7, q8, q9, q10, q11⟩ := step_cells hat hs
      have hk0 : (0 : Int) ≤ (k : Int) := by omega
      have hkn : (k : Int) < (ss.length : Int) := by omega
      have hch : bk ss (k + 1) = ((k : Int), s) :: bk ss k := by rw [bk, hs]; rfl
      have HC := Lib.hid hch
      obtain ⟨fn, tmps, assign, body, hy, hR⟩ := HY'.out pre (k : Int) s wr ⟨bk ss k, by rw [List.append_assoc, ← HE.out, HC.out]; rfl⟩ HJS.out (by have := HPL.out; omega)
      clear hch hs hat
      have hwk : IntKind.i64.wrap ((k : Int) - 1) = (k : Int) - 1 := IntWalk.i64_in _ (by omega)
      gi_wp2_with fail
      refine hR.mono ?_
      rintro e w3 (⟨rfl, hJ3, hk3⟩ | ⟨rfl, hJx3⟩)
      · have HKk := Lib.hid hk3
        clear hk3 hy hR
        gi_wp2_with fail
        go_roundw
        case rel => exact ⟨k, pre ++ [((k : Int), s)], rfl, by omega, by have := HPL.out; simp; omega, by rw [List.append_assoc, ← HE.out, HC.out]; rfl, hJ3, HK1.out _ _ _ HBW.out HKk.out⟩
        case measure => simp only [intOf]; omega
      · gi_wp2_with fail
        refine bodyPost_ret (results_none rfl _ _ _) rfl ?_
        exact ⟨⟨_, rfl⟩, .inr ⟨_, ⟨bk ss k, by rw [List.append_assoc, ← HE.out, HC.out]; rfl⟩, hJx3⟩⟩

/-- the iterator's contract, at what the caller keeps -/
theorem back_stops (m : Nat) (hm : 1 ≤ m) (Bt : Nat) (A : Option Addr) (cap : Nat) (ss : List Sp) (hl : ss.length ≤ 100000) (w : World) (Kp Ab : World → World → Prop)
    (hK1 : ∀ X Y Z : World, Kp X Y → Kp Y Z → Kp X Z) (hKw : ∀ W, Below w.heap.size w W → Kp w W) (hK0 : ∀ X, Kp X X)
    (hK3 : ∀ X, Kp w X → X.cell? ⟨Bt, 0, none⟩ = some (.slice A ss.length cap) ∧ At X X.heap.size A (pvs ss)) :
    SeqQ Fence.wide m Try.prog 111 #[.pointer (some ⟨Bt, 0, none⟩)] bkArr Kp Ab (fun s => s <+: bk ss ss.length) (fun ys _ => ys = bk ss ss.length) (fun pre _ => pre <+: bk ss ss.length) ss.length w :=
  fun lp J Jx W hW _ _ hY h0 => back1_in m hm lp Bt A cap ss hl J Jx Kp hY W hK1 (hK0 W) (fun X hx => hK3 X (hK1 _ _ _ (hKw W hW) hx)) h0

set_option maxHeartbeats 1000000 in
theorem backward_in (F : Fence) (n : Nat) (h : F.fn 86) (hro : F.round = none) (A : Option Addr) (len cap : Nat) (w : World) :
    CallsIn F n Try.prog 86 #[.slice A len cap] w fun e w' => e = .returned (.func (.func 111) #[] #[.pointer (some ⟨w.heap.size, 0, none⟩)]) ∧
      w' = w.alloc (.cells #[.slice A len cap] 53) := by
  refine callsIn_of_wp Try.func86 rfl h ?_ hro
  simp only [Try.ntmps86, List.size_toArray, List.length_cons, List.length_nil, Nat.reduceAdd, Nat.reduceSub, Array.replicate_succ, Array.replicate_zero, List.push_toArray, List.append_toArray, List.nil_append, List.cons_append]
  gi_wp2
  go_ret
  exact ⟨rfl, rfl⟩
end Go.Proofs.Ytnkckoilhhbllaa
end
