/-
 Whether a move is barred, what it does, and what moves do, one behind the other: the program's, and the document's.
 What a step does, what is undone, plain.
 A row that is set, in memory of rows that was made since: the document's.
 A move that is done, and its step: the program's, and the document's.
-/
import Derived.Test.YthhckdjagnlgpaaGreatPc
import Derived.Test.YthhckdjagnlgpaaGreatAl
import Derived.Test.YthhckdjagnlgpaaGreatHa
import Derived.Test.YthhckdjagnlgpaaGreatTi
section
namespace Go.Proofs.YthhckdjagnlgpaaGreat
open Go.RowKit Go.IntWalk
open Gr
set_option maxRecDepth 100000
attribute [local go_sem] Oper.semAt_some
theorem chn_any (l : List Rw) (a : Int) : ∀ (n : Nat) (c : Int), ((chn l n c).any fun x => x.1 == a) = true ↔ ∃ m, m < n ∧ it (upF l) m c = some a
 | 0, c => by simp [chn]
 | n + 1, c => by
  have hu : upF l c = if parB l c then some (parV l c) else none := by
   unfold upF parB parV
   cases fnd l c <;> rfl
  rw [chn, List.any_cons, Bool.or_eq_true]
  constructor
  ·rintro (h | h)
   ·exact ⟨0, by omega, by simp at h; rw [h]; rfl⟩
   ·by_cases hp : parB l c = true
    ·rw [if_pos hp] at h
     obtain ⟨m, hm, he⟩ := (chn_any l a n _).1 h
     exact ⟨m + 1, by omega, by rw [it, hu, if_pos hp]; exact he⟩
    ·rw [if_neg hp] at h; simp at h
  ·rintro ⟨m, hm, he⟩
   cases m with
   | zero => left; simp only [it, Option.some.injEq] at he; simp [he]
   | succ m =>
    right
    rw [it, hu] at he
    by_cases hp : parB l c = true
    ·rw [if_pos hp] at he ⊢
     exact (chn_any l a n _).2 ⟨m, by omega, he⟩
    ·rw [if_neg hp] at he; cases he
theorem abvB_eq (l : List Rw) (a b : Int) : abvB l a b = abv l a l.length b := by
 rw [← abv_more l a b (Nat.le_succ l.length)]
 have hu : upF l b = if parB l b then some (parV l b) else none := by
  unfold upF parB parV
  cases fnd l b <;> rfl
 rw [Bool.eq_iff_iff, abv_iff]
 unfold abvB
 rw [Bool.and_eq_true, chn_any]
 constructor
 ·rintro ⟨hp, m, hm, he⟩
  exact ⟨m, hm, by rw [it, hu, if_pos hp]; exact he⟩
 ·rintro ⟨m, hm, he⟩
  rw [it, hu] at he
  by_cases hp : parB l b = true
  ·rw [if_pos hp] at he
   exact ⟨hp, m, hm, he⟩
  ·rw [if_neg hp] at he; cases he
theorem above_k (A : Option Addr) (cap : Nat) (l : List Rw) (a b : Int) (hl : l.length ≤ 100000) (ho : OrdOk l) (w : World) (hc : At w w.heap.size A (tvs l)) :
  Calls Tryz.prog 34 #[.slice A l.length cap, .int .i64 a, .int .i64 b] w fun e W' => e = .returned (.bool (abv l a l.length b)) ∧ Below w.heap.size w W' := by
 rw [← abvB_eq]; exact above_c A cap l a b hl ho w hc
def barP (l : List Rw) (m : Mv) : Bool := decide (ch (mw m) = pa (mw m)) || decide (ch (mw m) = 0) || abv l (ch (mw m)) l.length (pa (mw m))
def doP (l : List Rw) (m : Mv) : List Rw := if barP l m then l else setP l (mw m)
def allP (l : List Rw) (ms : List Mv) : List Rw := ms.foldl doP l
theorem allP_take {l : List Rw} {ms : List Mv} {k : Nat} {m : Mv} (h : ms[k]? = some m) : allP l (ms.take (k + 1)) = doP (allP l (ms.take k)) m := by
 obtain ⟨hk, he⟩ := List.getElem?_eq_some_iff.1 h
 unfold allP
 rw [List.take_succ_eq_append_getElem hk, List.foldl_append, he]; rfl
theorem doP_len (l : List Rw) (m : Mv) : (doP l m).length ≤ l.length + 1 := by
 unfold doP; split
 ·omega
 ·exact setP_len l _
theorem allP_len (l : List Rw) : ∀ ms : List Mv, (allP l ms).length ≤ l.length + ms.length := fun ms => by
 induction ms generalizing l with
 | nil => simp [allP]
 | cons m t ih => have := ih (doP l m); have h2 := doP_len l m; rw [show allP l (m :: t) = allP (doP l m) t from rfl, List.length_cons]; omega
/-- Do's answer -/
def DoEnd (l : List Rw) (b : Bool) (w : World) (e : Ending) (w' : World) : Prop :=
 ∃ A cap, e = .returned (.tuple #[.slice A l.length cap, .bool b]) ∧ At w' w'.heap.size A (tvs l) ∧ (A = none → cap = 0) ∧ l.length ≤ cap ∧ Below w.heap.size w w'
/-- Do's answer, and where it lies -/
def DoEndF (A0 : Option Addr) (l : List Rw) (b : Bool) (w : World) (e : Ending) (w' : World) : Prop :=
 ∃ A cap, e = .returned (.tuple #[.slice A l.length cap, .bool b]) ∧ At w' w'.heap.size A (tvs l) ∧ (A = none → cap = 0) ∧ l.length ≤ cap ∧ Below w.heap.size w w' ∧ (A = A0 ∧ b = false ∨ Fresh w.heap.size A)
theorem DoEndF.end {A0 : Option Addr} {l : List Rw} {b : Bool} {w w' : World} {e : Ending} (h : DoEndF A0 l b w e w') : DoEnd l b w e w' := by
 obtain ⟨A, cap, he, ha, hn, hc, hb, _⟩ := h
 exact ⟨A, cap, he, ha, hn, hc, hb⟩
theorem mbarred_c (A : Option Addr) (cap : Nat) (l : List Rw) (m : Mv) (ha : ∀ (a b : Int) (w : World), At w w.heap.size A (tvs l) → Calls Tryz.prog 34 #[.slice A l.length cap, .int .i64 a, .int .i64 b] w fun e W' => e = .returned (.bool (abv l a l.length b)) ∧ Below w.heap.size w W')
  (w : World) (hc : At w w.heap.size A (tvs l)) :
  Calls Tryz.prog 205 #[.slice A l.length cap, mv m] w fun e w' => e = .returned (.bool (barP l m)) ∧ Below w.heap.size w w' := by
 obtain ⟨c, r, k, p, n, f⟩ := m
 show Calls Tryz.prog 205 #[.slice A l.length cap, .agg #[.int .i64 c, .int .i64 r, .int .i64 p, .int .i64 k, .string (ba n), .float .f64 f]] w fun e w' => e = .returned (.bool (decide (k = p) || decide (k = 0) || abv l k l.length p)) ∧ _
 have hb := (Below.refl w.heap.size w).alloc (Nat.le_refl _) (.cells #[.int .i64 c, .int .i64 r, .int .i64 p, .int .i64 k, .string (ba n), .float .f64 f] 57)
 have hcx := hc.keep hb
 have HB := Lib.hid hb
 have HCX := Lib.hid hcx
 clear hb hcx hc
 by_cases h1 : k = p
 ·subst h1
  go_enter Tryz.func205, Tryz.ntmps205
  go_wp2_with fail
  go_ret
  exact ⟨by simp, HB.out⟩
 ·have h1' : (k == p) = false := by simpa using h1
  by_cases h2 : k = 0
  ·subst h2
   have hd : decide ((0 : Int) = p) = false := decide_eq_false h1
   go_enter Tryz.func205, Tryz.ntmps205
   go_wp2_with fail
   go_ret
   exact ⟨by simp, HB.out⟩
  ·have h2' : (k == 0) = false := by simpa using h2
   have H1 := Lib.hid h1
   have H2 := Lib.hid h2
   go_enter Tryz.func205, Tryz.ntmps205
   go_wp2_with fail
   refine (ha k p _ HCX.out).mono ?_
   rintro e w1 ⟨rfl, hb1⟩
   go_wp2_with fail
   go_ret
   exact ⟨by rw [decide_eq_false H1.out, decide_eq_false H2.out]; rfl, HB.out.trans (hb1.mono HB.out.size)⟩
theorem mdo_f (A : Option Addr) (cap : Nat) (l : List Rw) (m : Mv) (hl : l.length ≤ 100000) (hA : A = none → cap = 0) (hcap : l.length ≤ cap) (ha : ∀ (a b : Int) (w : World), At w w.heap.size A (tvs l) → Calls Tryz.prog 34 #[.slice A l.length cap, .int .i64 a, .int .i64 b] w fun e W' => e = .returned (.bool (abv l a l.length b)) ∧ Below w.heap.size w W')
  (w : World) (hc : At w w.heap.size A (tvs l)) :
  Calls Tryz.prog 154 #[.slice A l.length cap, mv m] w (DoEndF A (doP l m) (!barP l m) w) := by
 have hb := (Below.refl w.heap.size w).alloc (Nat.le_refl _) (.cells #[.int .i64 (mc m), .int .i64 (mr m), .int .i64 (pa (mw m)), .int .i64 (ch (mw m)), .string (ba (nm (mw m))), .float .f64 (rk (mw m))] 57)
 have hcx := hc.keep hb
 have hI : Is (w.alloc (.cells #[.int .i64 (mc m), .int .i64 (mr m), .int .i64 (pa (mw m)), .int .i64 (ch (mw m)), .string (ba (nm (mw m))), .float .f64 (rk (mw m))] 57)) w.heap.size 57 [.int .i64 (mc m), .int .i64 (mr m), .int .i64 (pa (mw m)), .int .i64 (ch (mw m)), .string (ba (nm (mw m))), .float .f64 (rk (mw m))] := is_new w 57 _
 obtain ⟨w0, hw0⟩ : ∃ w0, w0 = w.alloc (.cells #[.int .i64 (mc m), .int .i64 (mr m), .int .i64 (pa (mw m)), .int .i64 (ch (mw m)), .string (ba (nm (mw m))), .float .f64 (rk (mw m))] 57) := ⟨_, rfl⟩
 rw [← hw0] at hb hcx hI
 have hs0 : w.heap.size < w0.heap.size := by rw [hw0]; simp
 have HB := Lib.hid hb
 have HCX := Lib.hid hcx
 have HW := Lib.hid hw0
 have HI := Lib.hid hI
 have HA := Lib.hid hA
 clear hb hcx hc hw0 hI hA
 show Calls Tryz.prog 154 #[.slice A l.length cap, .agg #[.int .i64 (mc m), .int .i64 (mr m), .int .i64 (pa (mw m)), .int .i64 (ch (mw m)), .string (ba (nm (mw m))), .float .f64 (rk (mw m))]] w _
 go_enter Tryz.func154, Tryz.ntmps154
 go_wp2_with fail
 rw [← HW.out]
 refine (mbarred_c A cap l m ha _ HCX.out).mono ?_
 rintro e w1 ⟨rfl, hb1⟩
 have hb1' := HB.out.trans (hb1.mono HB.out.size)
 have hc1 := HCX.out.keep hb1
 have g0 := (is_cell (is_below HI.out hb1 hs0) 0)
 have g1 := (is_cell (is_below HI.out hb1 hs0) 1)
 have g2 := (is_cell (is_below HI.out hb1 hs0) 2)
 have g3 := (is_cell (is_below HI.out hb1 hs0) 3)
 have g4 := (is_cell (is_below HI.out hb1 hs0) 4)
 have g5 := (is_cell (is_below HI.out hb1 hs0) 5)
 simp only [List.getElem?_cons_zero, List.getElem?_cons_succ] at g0 g1 g2 g3 g4 g5
 cases hbp : barP l m with
 | true =>
  have HBP := Lib.hid hbp
  clear hbp
  go_wp2_with fail
  refine bodyPost_ret (v := .tuple #[.slice A l.length cap, .bool false]) (by simp [results, Tryz.f154, go_sem]) rfl ?_
  have hd : doP l m = l := by unfold doP; rw [HBP.out]; rfl
  rw [hd, HBP.out]
  exact ⟨A, cap, rfl, hc1, HA.out, hcap, hb1', .inl ⟨rfl, rfl⟩⟩
 | false =>
  have HBP := Lib.hid hbp
  clear hbp
  go_wp2_with fail
  refine (mrow_c m _).mono ?_
  rintro e w2 ⟨rfl, hb2⟩
  rw [show rv (mw m) = .agg #[.int .i64 (ch (mw m)), .int .i64 (pa (mw m)), .string (ba (nm (mw m))), .float .f64 (rk (mw m))] from rfl]
  go_wp2_with fail
  refine (set_c A cap l (mw m) hl HA.out hcap _ (hc1.keep hb2)).mono ?_
  rintro e w3 ⟨A5, cap5, he5, hown5, hb5⟩
  have ht := own_toldF hown5 (Nat.le_refl _) hb5
  rw [← he5] at ht
  obtain ⟨A', cap', he, hat, hn, hcp, hb3, hfr⟩ := ht
  subst he
  go_wp2_with fail
  refine bodyPost_ret (v := .tuple #[.slice A' (setP l (mw m)).length cap', .bool true]) (by simp [results, Tryz.f154, go_sem]) rfl ?_
  have hd : doP l m = setP l (mw m) := by unfold doP; rw [HBP.out]; rfl
  rw [hd, HBP.out]
  exact ⟨A', cap', rfl, hat, hn, hcp, hb1'.trans ((hb2.trans (hb3.mono hb2.size)).mono hb1'.size), .inr fun a ha => Nat.le_trans (Nat.le_trans hb1'.size hb2.size) (hfr a ha)⟩
theorem mdo_c (A : Option Addr) (cap : Nat) (l : List Rw) (m : Mv) (hl : l.length ≤ 100000) (hA : A = none → cap = 0) (hcap : l.length ≤ cap) (ha : ∀ (a b : Int) (w : World), At w w.heap.size A (tvs l) → Calls Tryz.prog 34 #[.slice A l.length cap, .int .i64 a, .int .i64 b] w fun e W' => e = .returned (.bool (abv l a l.length b)) ∧ Below w.heap.size w W')
  (w : World) (hc : At w w.heap.size A (tvs l)) :
  Calls Tryz.prog 154 #[.slice A l.length cap, mv m] w (DoEnd (doP l m) (!barP l m) w) :=
 (mdo_f A cap l m hl hA hcap ha w hc).mono fun _ _ h => h.end
set_option maxHeartbeats 2000000 in
theorem mall_c (A A2 : Option Addr) (cap cap2 : Nat) (l : List Rw) (ms : List Mv) (hl : l.length + ms.length ≤ 100000) (hA : A = none → cap = 0) (hcap : l.length ≤ cap)
  (ha : ∀ k, k ≤ ms.length → ∀ (A : Option Addr) (cap : Nat) (a b : Int) (w : World), At w w.heap.size A (tvs (allP l (ms.take k))) → Calls Tryz.prog 34 #[.slice A (allP l (ms.take k)).length cap, .int .i64 a, .int .i64 b] w fun e W' => e = .returned (.bool (abv (allP l (ms.take k)) a (allP l (ms.take k)).length b)) ∧ Below w.heap.size w W')
  (w : World) (hc : At w w.heap.size A (tvs l)) (hc2 : At w w.heap.size A2 (mvs ms)) :
  Calls Tryz.prog 96 #[.slice A l.length cap, .slice A2 ms.length cap2] w (Told_ (allP l ms) w) := by
 have HC2 := Lib.hid hc2
 have HAB := Lib.hid ha
 clear hc2 ha
 go_enter Tryz.func96, Tryz.ntmps96
 go_wp2_with fail
 go_loopw [0, 9] (fun s i wr => ∃ (k : Nat) (A' : Option Addr) (cap' : Nat), i = .int .i64 (k : Int) ∧ k ≤ ms.length ∧ s = .slice A' (allP l (ms.take k)).length cap' ∧ At wr wr.heap.size A' (tvs (allP l (ms.take k))) ∧ (A' = none → cap' = 0) ∧ (allP l (ms.take k)).length ≤ cap' ∧ Below w.heap.size w wr)
  (fun _ i _ => ms.length - (intOf i).toNat)
 case atStart => exact ⟨0, A, cap, rfl, Nat.zero_le _, rfl, hc, hA, hcap, Below.refl _ _⟩
 case round =>
  clear hc hA hcap
  obtain ⟨k, A', cap', rfl, hk, rfl, hat, hA', hcp, hbw⟩ := hrel
  have HAT := Lib.hid hat
  have HA' := Lib.hid hA'
  have HBW := Lib.hid hbw
  clear hat hA' hbw
  by_cases hlt : k < ms.length
  ·obtain ⟨m, hm⟩ := some_at hlt
   have hlk : (allP l (ms.take k)).length ≤ 100000 := by have := allP_len l (ms.take k); rw [List.length_take] at this; omega
   obtain ⟨b0, o0, rfl, -, e0, e1, e2, e3, e4, e5⟩ := move_cells (HC2.out.keep HBW.out) hm
   have hk0 : (0 : Int) ≤ (k : Int) := by omega
   have hkl : (k : Int) < (ms.length : Int) := by omega
   obtain ⟨L, hL⟩ : ∃ L, allP l (ms.take k) = L := ⟨_, rfl⟩
   have hab := HAB.out k hk
   have hst := allP_take (l := l) hm
   have hat := HAT.out
   rw [hL] at hcp hlk hab hst hat ⊢
   have HST := Lib.hid hst
   have HAB2 := Lib.hid hab
   have HL := Lib.hid hL
   clear hst hab hm hL HAT
   go_wp2_with fail
   show Calls _ _ #[_, mv m] _ _
   refine (mdo_c A' cap' L m hlk HA'.out hcp (HAB2.out A' cap') _ (hat.keep (.alloc (Below.refl _ _) (Nat.le_refl _) _))).mono ?_
   rintro e w2 ⟨A3, cap3, rfl, hat3, hn3, hcp3, hb3⟩
   go_wp2_with fail
   go_roundw
   case rel => exact ⟨k + 1, A3, cap3, by simp, by omega, by rw [HST.out], by rw [HST.out]; exact hat3, hn3, by rw [HST.out]; exact hcp3, HBW.out.trans (((Below.refl _ _).alloc (Nat.le_refl _) _ |>.trans (hb3.mono (by simp))).mono HBW.out.size)⟩
   case measure => simp only [intOf]; omega
  ·obtain rfl : k = ms.length := by omega
   have hat := HAT.out
   rw [List.take_length] at hat hcp
   go_wp2_with fail
   rw [List.take_length]
   go_ret
   exact ⟨A', cap', rfl, hat, HA'.out, hcp, HBW.out⟩
theorem rbarred_c (A : Option Addr) (cap : Nat) (l : List Rw) (m : Mv) (ha : ∀ (a b : Int) (w : World), At w w.heap.size A (tvs l) → Calls Tryz.prog 35 #[.slice A l.length cap, .int .i64 a, .int .i64 b] w fun e W' => e = .returned (.bool (abv l a l.length b)) ∧ Below w.heap.size w W')
  (w : World) (hc : At w w.heap.size A (tvs l)) :
  Calls Tryz.prog 206 #[.slice A l.length cap, mv m] w fun e w' => e = .returned (.bool (barP l m)) ∧ Below w.heap.size w w' := by
 obtain ⟨c, r, k, p, n, f⟩ := m
 show Calls Tryz.prog 206 #[.slice A l.length cap, .agg #[.int .i64 c, .int .i64 r, .int .i64 p, .int .i64 k, .string (ba n), .float .f64 f]] w fun e w' => e = .returned (.bool (decide (k = p) || decide (k = 0) || abv l k l.length p)) ∧ _
 have hb := (Below.refl w.heap.size w).alloc (Nat.le_refl _) (.cells #[.int .i64 c, .int .i64 r, .int .i64 p, .int .i64 k, .string (ba n), .float .f64 f] 57)
 have hcx := hc.keep hb
 have HB := Lib.hid hb
 have HCX := Lib.hid hcx
 clear hb hcx hc
 by_cases h1 : k = p
 ·subst h1
  go_enter Tryz.func206, Tryz.ntmps206
  go_wp2_with fail
  go_ret
  exact ⟨by simp, HB.out⟩
 ·have h1' : (k == p) = false := by simpa using h1
  by_cases h2 : k = 0
  ·subst h2
   have hd : decide ((0 : Int) = p) = false := decide_eq_false h1
   go_enter Tryz.func206, Tryz.ntmps206
   go_wp2_with fail
   go_ret
   exact ⟨by simp, HB.out⟩
  ·have h2' : (k == 0) = false := by simpa using h2
   have H1 := Lib.hid h1
   have H2 := Lib.hid h2
   go_enter Tryz.func206, Tryz.ntmps206
   go_wp2_with fail
   refine (ha k p _ HCX.out).mono ?_
   rintro e w1 ⟨rfl, hb1⟩
   go_wp2_with fail
   go_ret
   exact ⟨by rw [decide_eq_false H1.out, decide_eq_false H2.out]; rfl, HB.out.trans (hb1.mono HB.out.size)⟩
theorem rdo_f (A : Option Addr) (cap : Nat) (l : List Rw) (m : Mv) (hl : l.length ≤ 100000) (hA : A = none → cap = 0) (hcap : l.length ≤ cap) (ha : ∀ (a b : Int) (w : World), At w w.heap.size A (tvs l) → Calls Tryz.prog 35 #[.slice A l.length cap, .int .i64 a, .int .i64 b] w fun e W' => e = .returned (.bool (abv l a l.length b)) ∧ Below w.heap.size w W')
  (w : World) (hc : At w w.heap.size A (tvs l)) :
  Calls Tryz.prog 155 #[.slice A l.length cap, mv m] w (DoEndF A (doP l m) (!barP l m) w) := by
 have hb := (Below.refl w.heap.size w).alloc (Nat.le_refl _) (.cells #[.int .i64 (mc m), .int .i64 (mr m), .int .i64 (pa (mw m)), .int .i64 (ch (mw m)), .string (ba (nm (mw m))), .float .f64 (rk (mw m))] 57)
 have hcx := hc.keep hb
 have hI : Is (w.alloc (.cells #[.int .i64 (mc m), .int .i64 (mr m), .int .i64 (pa (mw m)), .int .i64 (ch (mw m)), .string (ba (nm (mw m))), .float .f64 (rk (mw m))] 57)) w.heap.size 57 [.int .i64 (mc m), .int .i64 (mr m), .int .i64 (pa (mw m)), .int .i64 (ch (mw m)), .string (ba (nm (mw m))), .float .f64 (rk (mw m))] := is_new w 57 _
 obtain ⟨w0, hw0⟩ : ∃ w0, w0 = w.alloc (.cells #[.int .i64 (mc m), .int .i64 (mr m), .int .i64 (pa (mw m)), .int .i64 (ch (mw m)), .string (ba (nm (mw m))), .float .f64 (rk (mw m))] 57) := ⟨_, rfl⟩
 rw [← hw0] at hb hcx hI
 have hs0 : w.heap.size < w0.heap.size := by rw [hw0]; simp
 have HB := Lib.hid hb
 have HCX := Lib.hid hcx
 have HW := Lib.hid hw0
 have HI := Lib.hid hI
 have HA := Lib.hid hA
 clear hb hcx hc hw0 hI hA
 show Calls Tryz.prog 155 #[.slice A l.length cap, .agg #[.int .i64 (mc m), .int .i64 (mr m), .int .i64 (pa (mw m)), .int .i64 (ch (mw m)), .string (ba (nm (mw m))), .float .f64 (rk (mw m))]] w _
 go_enter Tryz.func155, Tryz.ntmps155
 go_wp2_with fail
 rw [← HW.out]
 refine (rbarred_c A cap l m ha _ HCX.out).mono ?_
 rintro e w1 ⟨rfl, hb1⟩
 have hb1' := HB.out.trans (hb1.mono HB.out.size)
 have hc1 := HCX.out.keep hb1
 have g0 := (is_cell (is_below HI.out hb1 hs0) 0)
 have g1 := (is_cell (is_below HI.out hb1 hs0) 1)
 have g2 := (is_cell (is_below HI.out hb1 hs0) 2)
 have g3 := (is_cell (is_below HI.out hb1 hs0) 3)
 have g4 := (is_cell (is_below HI.out hb1 hs0) 4)
 have g5 := (is_cell (is_below HI.out hb1 hs0) 5)
 simp only [List.getElem?_cons_zero, List.getElem?_cons_succ] at g0 g1 g2 g3 g4 g5
 cases hbp : barP l m with
 | true =>
  have HBP := Lib.hid hbp
  clear hbp
  go_wp2_with fail
  refine bodyPost_ret (v := .tuple #[.slice A l.length cap, .bool false]) (by simp [results, Tryz.f155, go_sem]) rfl ?_
  have hd : doP l m = l := by unfold doP; rw [HBP.out]; rfl
  rw [hd, HBP.out]
  exact ⟨A, cap, rfl, hc1, HA.out, hcap, hb1', .inl ⟨rfl, rfl⟩⟩
 | false =>
  have HBP := Lib.hid hbp
  clear hbp
  go_wp2_with fail
  refine (rmrow_c m _).mono ?_
  rintro e w2 ⟨rfl, hb2⟩
  rw [show rv (mw m) = .agg #[.int .i64 (ch (mw m)), .int .i64 (pa (mw m)), .string (ba (nm (mw m))), .float .f64 (rk (mw m))] from rfl]
  go_wp2_with fail
  refine (rset_f A cap l (mw m) hl HA.out hcap _ (hc1.keep hb2)).mono ?_
  rintro e w3 ht
  obtain ⟨A', cap', he, hat, hn, hcp, hb3, hfr⟩ := ht
  subst he
  go_wp2_with fail
  refine bodyPost_ret (v := .tuple #[.slice A' (setP l (mw m)).length cap', .bool true]) (by simp [results, Tryz.f155, go_sem]) rfl ?_
  have hd : doP l m = setP l (mw m) := by unfold doP; rw [HBP.out]; rfl
  rw [hd, HBP.out]
  exact ⟨A', cap', rfl, hat, hn, hcp, hb1'.trans ((hb2.trans (hb3.mono hb2.size)).mono hb1'.size), .inr fun a ha => Nat.le_trans (Nat.le_trans hb1'.size hb2.size) (hfr a ha)⟩
theorem rdo_c (A : Option Addr) (cap : Nat) (l : List Rw) (m : Mv) (hl : l.length ≤ 100000) (hA : A = none → cap = 0) (hcap : l.length ≤ cap) (ha : ∀ (a b : Int) (w : World), At w w.heap.size A (tvs l) → Calls Tryz.prog 35 #[.slice A l.length cap, .int .i64 a, .int .i64 b] w fun e W' => e = .returned (.bool (abv l a l.length b)) ∧ Below w.heap.size w W')
  (w : World) (hc : At w w.heap.size A (tvs l)) :
  Calls Tryz.prog 155 #[.slice A l.length cap, mv m] w (DoEnd (doP l m) (!barP l m) w) :=
 (rdo_f A cap l m hl hA hcap ha w hc).mono fun _ _ h => h.end
set_option maxHeartbeats 2000000 in
theorem rall_c (A A2 : Option Addr) (cap cap2 : Nat) (l : List Rw) (ms : List Mv) (hl : l.length + ms.length ≤ 100000) (hA : A = none → cap = 0) (hcap : l.length ≤ cap)
  (ha : ∀ k, k ≤ ms.length → ∀ (A : Option Addr) (cap : Nat) (a b : Int) (w : World), At w w.heap.size A (tvs (allP l (ms.take k))) → Calls Tryz.prog 35 #[.slice A (allP l (ms.take k)).length cap, .int .i64 a, .int .i64 b] w fun e W' => e = .returned (.bool (abv (allP l (ms.take k)) a (allP l (ms.take k)).length b)) ∧ Below w.heap.size w W')
  (w : World) (hc : At w w.heap.size A (tvs l)) (hc2 : At w w.heap.size A2 (mvs ms)) :
  Calls Tryz.prog 100 #[.slice A l.length cap, .slice A2 ms.length cap2] w (Told_ (allP l ms) w) := by
 have HC2 := Lib.hid hc2
 have HAB := Lib.hid ha
 clear hc2 ha
 go_enter Tryz.func100, Tryz.ntmps100
 go_wp2_with fail
 go_loopw [5, 6] (fun s i wr => ∃ (k : Nat) (A' : Option Addr) (cap' : Nat), i = .int .i64 (k : Int) ∧ k ≤ ms.length ∧ s = .slice A' (allP l (ms.take k)).length cap' ∧ At wr wr.heap.size A' (tvs (allP l (ms.take k))) ∧ (A' = none → cap' = 0) ∧ (allP l (ms.take k)).length ≤ cap' ∧ Below w.heap.size w wr)
  (fun _ i _ => ms.length - (intOf i).toNat)
 case atStart => exact ⟨0, A, cap, rfl, Nat.zero_le _, rfl, hc, hA, hcap, Below.refl _ _⟩
 case round =>
  clear hc hA hcap
  obtain ⟨k, A', cap', rfl, hk, rfl, hat, hA', hcp, hbw⟩ := hrel
  have HAT := Lib.hid hat
  have HA' := Lib.hid hA'
  have HBW := Lib.hid hbw
  clear hat hA' hbw
  by_cases hlt : k < ms.length
  ·obtain ⟨m, hm⟩ := some_at hlt
   have hlk : (allP l (ms.take k)).length ≤ 100000 := by have := allP_len l (ms.take k); rw [List.length_take] at this; omega
   obtain ⟨b0, o0, rfl, -, e0, e1, e2, e3, e4, e5⟩ := move_cells (HC2.out.keep HBW.out) hm
   have hk0 : (0 : Int) ≤ (k : Int) := by omega
   have hkl : (k : Int) < (ms.length : Int) := by omega
   obtain ⟨L, hL⟩ : ∃ L, allP l (ms.take k) = L := ⟨_, rfl⟩
   have hab := HAB.out k hk
   have hst := allP_take (l := l) hm
   have hat := HAT.out
   rw [hL] at hcp hlk hab hst hat ⊢
   have HST := Lib.hid hst
   have HAB2 := Lib.hid hab
   have HL := Lib.hid hL
   clear hst hab hm hL HAT
   go_wp2_with fail
   show Calls _ _ #[_, mv m] _ _
   refine (rdo_c A' cap' L m hlk HA'.out hcp (HAB2.out A' cap') _ hat).mono ?_
   rintro e w2 ⟨A3, cap3, rfl, hat3, hn3, hcp3, hb3⟩
   go_wp2_with fail
   go_roundw
   case rel => exact ⟨k + 1, A3, cap3, by simp, by omega, by rw [HST.out], by rw [HST.out]; exact hat3, hn3, by rw [HST.out]; exact hcp3, HBW.out.trans (hb3.mono HBW.out.size)⟩
   case measure => simp only [intOf]; omega
  ·obtain rfl : k = ms.length := by omega
   have hat := HAT.out
   rw [List.take_length] at hat hcp
   go_wp2_with fail
   rw [List.take_length]
   go_ret
   exact ⟨A', cap', rfl, hat, HA'.out, hcp, HBW.out⟩
end Go.Proofs.YthhckdjagnlgpaaGreat
end
section
namespace Go.Proofs.YthhckdjagnlgpaaGreat
open Gr
theorem allP_cons (l : List Rw) (m : Mv) (t : List Mv) : allP l (m :: t) = allP (doP l m) t := rfl
theorem allP_app (l : List Rw) (a b : List Mv) : allP l (a ++ b) = allP (allP l a) b := by unfold allP; rw [List.foldl_append]
end Go.Proofs.YthhckdjagnlgpaaGreat
end
section
namespace Go.Proofs.YthhckdjagnlgpaaGreat
open Go.RowKit Go.IntWalk
set_option maxRecDepth 100000
attribute [local go_sem] Oper.semAt_some
end Go.Proofs.YthhckdjagnlgpaaGreat
end
section
namespace Go.Proofs.YthhckdjagnlgpaaGreat
open Go.RowKit Go.IntWalk
open Gr
set_option maxRecDepth 100000
attribute [local go_sem] Oper.semAt_some
theorem cell_same {w w' : World} {b : Nat} (h : w'.heap[b]? = w.heap[b]?) (i : Nat) : w'.cell? ⟨b, i, none⟩ = w.cell? ⟨b, i, none⟩ := by
 unfold World.cell?
 show (match w'.heap[b]? with | _ => _) = _
 rw [h]
theorem is_newA (w : World) (t : TypeId) (l : List Value) (o : Obj) : Is ((w.alloc o).alloc (.cells l.toArray t)) (w.heap.size + 1) t l := by
 have := is_new (w.alloc o) t l
 rwa [World.size_alloc] at this
theorem is_newB (w : World) (t : TypeId) (l : List Value) (o o2 : Obj) : Is (((w.alloc o).alloc o2).alloc (.cells l.toArray t)) (w.heap.size + 1 + 1) t l := by
 have := is_newA (w.alloc o) t l o2
 rwa [World.size_alloc] at this
end Go.Proofs.YthhckdjagnlgpaaGreat
end
