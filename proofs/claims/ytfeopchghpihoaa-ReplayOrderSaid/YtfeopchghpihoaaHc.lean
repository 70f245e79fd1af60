/-
  A move that is done, and its step: the program's, and the document's.
-/
import Derived.Test.YtfeopchghpihoaaHa
import Derived.Test.YtfeopchghpihoaaTx
namespace Go.Proofs.Ytfeopchghpihoaa
open Go.RowKit Go.IntWalk
open Gr
set_option maxRecDepth 100000
attribute [local go_sem] Oper.semAt_some

theorem set12_is {w : World} {G : Nat} {t : TypeId} {x0 x1 x2 x3 x4 x5 x6 x7 x8 x9 x10 x11 a0 a1 a2 a3 a4 a5 a6 a7 a8 a9 a10 a11 : Value} (h : Is w G t [x0, x1, x2, x3, x4, x5, x6, x7, x8, x9, x10, x11]) : Is ((((((((((((w.setCell ⟨G, 0, none⟩ a0).setCell ⟨G, 1, none⟩ a1).setCell ⟨G, 2, none⟩ a2).setCell ⟨G, 3, none⟩ a3).setCell ⟨G, 4, none⟩ a4).setCell ⟨G, 5, none⟩ a5).setCell ⟨G, 6, none⟩ a6).setCell ⟨G, 7, none⟩ a7).setCell ⟨G, 8, none⟩ a8).setCell ⟨G, 9, none⟩ a9).setCell ⟨G, 10, none⟩ a10).setCell ⟨G, 11, none⟩ a11) G t [a0, a1, a2, a3, a4, a5, a6, a7, a8, a9, a10, a11] :=
  is_set (is_set (is_set (is_set (is_set (is_set (is_set (is_set (is_set (is_set (is_set (is_set h 0 _) 1 _) 2 _) 3 _) 4 _) 5 _) 6 _) 7 _) 8 _) 9 _) 10 _) 11 _
theorem set12_below {w W : World} {N G : Nat} {a0 a1 a2 a3 a4 a5 a6 a7 a8 a9 a10 a11 : Value} (h : Below N w W) (hg : N ≤ G) : Below N w ((((((((((((W.setCell ⟨G, 0, none⟩ a0).setCell ⟨G, 1, none⟩ a1).setCell ⟨G, 2, none⟩ a2).setCell ⟨G, 3, none⟩ a3).setCell ⟨G, 4, none⟩ a4).setCell ⟨G, 5, none⟩ a5).setCell ⟨G, 6, none⟩ a6).setCell ⟨G, 7, none⟩ a7).setCell ⟨G, 8, none⟩ a8).setCell ⟨G, 9, none⟩ a9).setCell ⟨G, 10, none⟩ a10).setCell ⟨G, 11, none⟩ a11) :=
  ((((((((((((h.setCell (p := ⟨G, 0, none⟩) hg _).setCell (p := ⟨G, 1, none⟩) hg _).setCell (p := ⟨G, 2, none⟩) hg _).setCell (p := ⟨G, 3, none⟩) hg _).setCell (p := ⟨G, 4, none⟩) hg _).setCell (p := ⟨G, 5, none⟩) hg _).setCell (p := ⟨G, 6, none⟩) hg _).setCell (p := ⟨G, 7, none⟩) hg _).setCell (p := ⟨G, 8, none⟩) hg _).setCell (p := ⟨G, 9, none⟩) hg _).setCell (p := ⟨G, 10, none⟩) hg _).setCell (p := ⟨G, 11, none⟩) hg _)
theorem set12_off {w : World} {G : Nat} {a0 a1 a2 a3 a4 a5 a6 a7 a8 a9 a10 a11 : Value} (k : Nat) (h : k ≠ G) : (((((((((((((w.setCell ⟨G, 0, none⟩ a0).setCell ⟨G, 1, none⟩ a1).setCell ⟨G, 2, none⟩ a2).setCell ⟨G, 3, none⟩ a3).setCell ⟨G, 4, none⟩ a4).setCell ⟨G, 5, none⟩ a5).setCell ⟨G, 6, none⟩ a6).setCell ⟨G, 7, none⟩ a7).setCell ⟨G, 8, none⟩ a8).setCell ⟨G, 9, none⟩ a9).setCell ⟨G, 10, none⟩ a10).setCell ⟨G, 11, none⟩ a11)).heap[k]? = w.heap[k]? := by
  iterate 12 rw [Below.heap_setCell _ _ _ _ h]
theorem set12_size {w : World} {G : Nat} {a0 a1 a2 a3 a4 a5 a6 a7 a8 a9 a10 a11 : Value} : (((((((((((((w.setCell ⟨G, 0, none⟩ a0).setCell ⟨G, 1, none⟩ a1).setCell ⟨G, 2, none⟩ a2).setCell ⟨G, 3, none⟩ a3).setCell ⟨G, 4, none⟩ a4).setCell ⟨G, 5, none⟩ a5).setCell ⟨G, 6, none⟩ a6).setCell ⟨G, 7, none⟩ a7).setCell ⟨G, 8, none⟩ a8).setCell ⟨G, 9, none⟩ a9).setCell ⟨G, 10, none⟩ a10).setCell ⟨G, 11, none⟩ a11)).heap.size = w.heap.size := by simp
theorem cell_same {w w' : World} {b : Nat} (h : w'.heap[b]? = w.heap[b]?) (i : Nat) : w'.cell? ⟨b, i, none⟩ = w.cell? ⟨b, i, none⟩ := by
  unfold World.cell?
  show (match w'.heap[b]? with | _ => _) = _
  rw [h]
theorem is_newA (w : World) (t : TypeId) (l : List Value) (o : Obj) : Is ((w.alloc o).alloc (.cells l.toArray t)) (w.heap.size + 1) t l := by
  have := is_new (w.alloc o) t l
  rwa [World.size_alloc] at this
theorem is_newB (w : World) (t : TypeId) (l : List Value) (o o2 : Obj) : Is (((w.alloc o).alloc o2).alloc (.cells l.toArray t)) (w.heap.size + 1 + 1) t l := by
  have := is_newA (w.alloc o) t l o2
  rwa [World.size_alloc] at this
/-- rows that lie where they did, or in memory that was made since, are left by what is written in between -/
theorem at_two {w w1 w2 : World} {A A1 : Option Addr} {l l1 : List Rw} {G N : Nat} (hc : At w w.heap.size A (tvs l)) (h1 : At w1 w1.heap.size A1 (tvs l1)) (hd : (A1 = A ∧ l1 = l) ∨ Fresh N A1) (hG : w.heap.size ≤ G) (hN : G < N)
    (hk : ∀ k, k ≠ G → w2.heap[k]? = w1.heap[k]?) (hs : w2.heap.size = w1.heap.size) : At w2 w2.heap.size A1 (tvs l1) := fun i v hv => by
  obtain ⟨b, off, hA, hlt, hcell⟩ := h1 i v hv
  have hb : b ≠ G := by
    rcases hd with ⟨rfl, rfl⟩ | hf
    · obtain ⟨b', off', hA', hlt', _⟩ := hc i v hv
      rw [hA] at hA'
      cases hA'
      omega
    · have h := hf _ hA
      have : N ≤ b := h
      omega
  exact ⟨b, off, hA, by omega, (cell_same (hk b hb) _).trans hcell⟩
/-- an answer of rows and a step -/
def UDoEnd (A0 : Option Addr) (l0 l : List Rw) (s : Sp) (w : World) (e : Ending) (w' : World) : Prop :=
  ∃ A cap, e = .returned (.tuple #[.slice A l.length cap, pv s]) ∧ At w' w'.heap.size A (tvs l) ∧ (A = none → cap = 0) ∧ l.length ≤ cap ∧ Below w.heap.size w w' ∧ ((A = A0 ∧ l = l0) ∨ Rowy w.heap.size A w')
/-- Do's answer, and where it lies -/
def DoEndG (A0 : Option Addr) (l : List Rw) (b : Bool) (w : World) (e : Ending) (w' : World) : Prop :=
  ∃ A cap, e = .returned (.tuple #[.slice A l.length cap, .bool b]) ∧ At w' w'.heap.size A (tvs l) ∧ (A = none → cap = 0) ∧ l.length ≤ cap ∧ Below w.heap.size w w' ∧ (A = A0 ∧ b = false ∨ Rowy w.heap.size A w')

theorem mdo_g (A : Option Addr) (cap : Nat) (l : List Rw) (m : Mv) (hl : l.length ≤ 100000) (hA : A = none → cap = 0) (hcap : l.length ≤ cap) (ha : ∀ (a b : Int) (w : World), At w w.heap.size A (tvs l) → Calls Try.prog 77 #[.slice A l.length cap, .int .i64 a, .int .i64 b] w fun e W' => e = .returned (.bool (abv l a l.length b)) ∧ Below w.heap.size w W')
    (w : World) (hc : At w w.heap.size A (tvs l)) :
    Calls Try.prog 44 #[.slice A l.length cap, mv m] w (DoEndG A (doP l m) (!barP l m) w) := by
  have hb := (Below.refl w.heap.size w).alloc (Nat.le_refl _) (.cells #[.int .i64 (mc m), .int .i64 (mr m), .int .i64 (pa (mw m)), .int .i64 (ch (mw m)), .string (ba (nm (mw m))), .float .f64 (rk (mw m))] 38)
  have hcx := hc.keep hb
  have hI : Is (w.alloc (.cells #[.int .i64 (mc m), .int .i64 (mr m), .int .i64 (pa (mw m)), .int .i64 (ch (mw m)), .string (ba (nm (mw m))), .float .f64 (rk (mw m))] 38)) w.heap.size 38 [.int .i64 (mc m), .int .i64 (mr m), .int .i64 (pa (mw m)), .int .i64 (ch (mw m)), .string (ba (nm (mw m))), .float .f64 (rk (mw m))] := is_new w 38 _
  obtain ⟨w0, hw0⟩ : ∃ w0, w0 = w.alloc (.cells #[.int .i64 (mc m), .int .i64 (mr m), .int .i64 (pa (mw m)), .int .i64 (ch (mw m)), .string (ba (nm (mw m))), .float .f64 (rk (mw m))] 38) := ⟨_, rfl⟩
  rw [← hw0] at hb hcx hI
  have hs0 : w.heap.size < w0.heap.size := by rw [hw0]; simp
  have HB := Lib.hid hb
  have HCX := Lib.hid hcx
  have HW := Lib.hid hw0
  have HI := Lib.hid hI
  have HA := Lib.hid hA
  clear hb hcx hc hw0 hI hA
  show Calls Try.prog 44 #[.slice A l.length cap, .agg #[.int .i64 (mc m), .int .i64 (mr m), .int .i64 (pa (mw m)), .int .i64 (ch (mw m)), .string (ba (nm (mw m))), .float .f64 (rk (mw m))]] w _
  go_enter Try.func44, Try.ntmps44
  go_wp2_with fail
  rw [← HW.out]
  refine (mbarred_c A cap l m ha _ HCX.out).mono ?_
  rintro e w1 ⟨rfl, hb1⟩
  have hb1' := HB.out.trans (hb1.mono HB.out.size)
  have hc1 := HCX.out.keep hb1
  have g0 := (is_cell (is_below HI.out hb1 hs0) 0)
  have g1 := (is_cell (is_below HI.out hb1 hs0) 1)
  have g2 := (is_cell (is_below HI.out hb1 hs0) 2)
  have g3 := (is_cell (is_below HI.out hb1 hs0) 3)
  have g4 := (is_cell (is_below HI.out hb1 hs0) 4)
  have g5 := (is_cell (is_below HI.out hb1 hs0) 5)
  simp only [List.getElem?_cons_zero, List.getElem?_cons_succ] at g0 g1 g2 g3 g4 g5
  cases hbp : barP l m with
  | true =>
    have HBP := Lib.hid hbp
    clear hbp
    go_wp2_with fail
    refine bodyPost_ret (v := .tuple #[.slice A l.length cap, .bool false]) (by simp [results, Try.f44, go_sem]) rfl ?_
    have hd : doP l m = l := by unfold doP; rw [HBP.out]; rfl
    rw [hd, HBP.out]
    exact ⟨A, cap, rfl, hc1, HA.out, hcap, hb1', .inl ⟨rfl, rfl⟩⟩
  | false =>
    have HBP := Lib.hid hbp
    clear hbp
    go_wp2_with fail
    refine (mrow_c m _).mono ?_
    rintro e w2 ⟨rfl, hb2⟩
    rw [show rv (mw m) = .agg #[.int .i64 (ch (mw m)), .int .i64 (pa (mw m)), .string (ba (nm (mw m))), .float .f64 (rk (mw m))] from rfl]
    go_wp2_with fail
    refine (set_c A cap l (mw m) hl HA.out hcap _ (hc1.keep hb2)).mono ?_
    rintro e w3 ⟨A5, cap5, he5, hown5, hb5⟩
    have ht := own_toldG hown5 (Nat.le_refl _) hb5
    rw [← he5] at ht
    obtain ⟨A', cap', he, hat, hn, hcp, hb3, hfr⟩ := ht
    subst he
    go_wp2_with fail
    refine bodyPost_ret (v := .tuple #[.slice A' (setP l (mw m)).length cap', .bool true]) (by simp [results, Try.f44, go_sem]) rfl ?_
    have hd : doP l m = setP l (mw m) := by unfold doP; rw [HBP.out]; rfl
    rw [hd, HBP.out]
    exact ⟨A', cap', rfl, hat, hn, hcp, hb1'.trans ((hb2.trans (hb3.mono hb2.size)).mono hb1'.size), .inr (hfr.low (Nat.le_trans hb1'.size hb2.size))⟩

theorem rdo_g (A : Option Addr) (cap : Nat) (l : List Rw) (m : Mv) (hl : l.length ≤ 100000) (hA : A = none → cap = 0) (hcap : l.length ≤ cap) (ha : ∀ (a b : Int) (w : World), At w w.heap.size A (tvs l) → Calls Try.prog 32 #[.slice A l.length cap, .int .i64 a, .int .i64 b] w fun e W' => e = .returned (.bool (abv l a l.length b)) ∧ Below w.heap.size w W')
    (w : World) (hc : At w w.heap.size A (tvs l)) :
    Calls Try.prog 76 #[.slice A l.length cap, mv m] w (DoEndG A (doP l m) (!barP l m) w) := by
  have hb := (Below.refl w.heap.size w).alloc (Nat.le_refl _) (.cells #[.int .i64 (mc m), .int .i64 (mr m), .int .i64 (pa (mw m)), .int .i64 (ch (mw m)), .string (ba (nm (mw m))), .float .f64 (rk (mw m))] 38)
  have hcx := hc.keep hb
  have hI : Is (w.alloc (.cells #[.int .i64 (mc m), .int .i64 (mr m), .int .i64 (pa (mw m)), .int .i64 (ch (mw m)), .string (ba (nm (mw m))), .float .f64 (rk (mw m))] 38)) w.heap.size 38 [.int .i64 (mc m), .int .i64 (mr m), .int .i64 (pa (mw m)), .int .i64 (ch (mw m)), .string (ba (nm (mw m))), .float .f64 (rk (mw m))] := is_new w 38 _
  obtain ⟨w0, hw0⟩ : ∃ w0, w0 = w.alloc (.cells #[.int .i64 (mc m), .int .i64 (mr m), .int .i64 (pa (mw m)), .int .i64 (ch (mw m)), .string (ba (nm (mw m))), .float .f64 (rk (mw m))] 38) := ⟨_, rfl⟩
  rw [← hw0] at hb hcx hI
  have hs0 : w.heap.size < w0.heap.size := by rw [hw0]; simp
  have HB := Lib.hid hb
  have HCX := Lib.hid hcx
  have HW := Lib.hid hw0
  have HI := Lib.hid hI
  have HA := Lib.hid hA
  clear hb hcx hc hw0 hI hA
  show Calls Try.prog 76 #[.slice A l.length cap, .agg #[.int .i64 (mc m), .int .i64 (mr m), .int .i64 (pa (mw m)), .int .i64 (ch (mw m)), .string (ba (nm (mw m))), .float .f64 (rk (mw m))]] w _
  go_enter Try.func76, Try.ntmps76
  go_wp2_with fail
  rw [← HW.out]
  refine (rbarred_c A cap l m ha _ HCX.out).mono ?_
  rintro e w1 ⟨rfl, hb1⟩
  have hb1' := HB.out.trans (hb1.mono HB.out.size)
  have hc1 := HCX.out.keep hb1
  have g0 := (is_cell (is_below HI.out hb1 hs0) 0)
  have g1 := (is_cell (is_below HI.out hb1 hs0) 1)
  have g2 := (is_cell (is_below HI.out hb1 hs0) 2)
  have g3 := (is_cell (is_below HI.out hb1 hs0) 3)
  have g4 := (is_cell (is_below HI.out hb1 hs0) 4)
  have g5 := (is_cell (is_below HI.out hb1 hs0) 5)
  simp only [List.getElem?_cons_zero, List.getElem?_cons_succ] at g0 g1 g2 g3 g4 g5
  cases hbp : barP l m with
  | true =>
    have HBP := Lib.hid hbp
    clear hbp
    go_wp2_with fail
    refine bodyPost_ret (v := .tuple #[.slice A l.length cap, .bool false]) (by simp [results, Try.f76, go_sem]) rfl ?_
    have hd : doP l m = l := by unfold doP; rw [HBP.out]; rfl
    rw [hd, HBP.out]
    exact ⟨A, cap, rfl, hc1, HA.out, hcap, hb1', .inl ⟨rfl, rfl⟩⟩
  | false =>
    have HBP := Lib.hid hbp
    clear hbp
    go_wp2_with fail
    refine (rmrow_c m _).mono ?_
    rintro e w2 ⟨rfl, hb2⟩
    rw [show rv (mw m) = .agg #[.int .i64 (ch (mw m)), .int .i64 (pa (mw m)), .string (ba (nm (mw m))), .float .f64 (rk (mw m))] from rfl]
    go_wp2_with fail
    refine (rset_g A cap l (mw m) hl HA.out hcap _ (hc1.keep hb2)).mono ?_
    rintro e w3 ht
    obtain ⟨A', cap', he, hat, hn, hcp, hb3, hfr⟩ := ht
    subst he
    go_wp2_with fail
    refine bodyPost_ret (v := .tuple #[.slice A' (setP l (mw m)).length cap', .bool true]) (by simp [results, Try.f76, go_sem]) rfl ?_
    have hd : doP l m = setP l (mw m) := by unfold doP; rw [HBP.out]; rfl
    rw [hd, HBP.out]
    exact ⟨A', cap', rfl, hat, hn, hcp, hb1'.trans ((hb2.trans (hb3.mono hb2.size)).mono hb1'.size), .inr (hfr.low (Nat.le_trans hb1'.size hb2.size))⟩


set_option maxHeartbeats 8000000 in
theorem mudo_c (A : Option Addr) (cap : Nat) (l : List Rw) (m : Mv) (hl : l.length ≤ 100000) (hA : A = none → cap = 0) (hcap : l.length ≤ cap) (ha : ∀ (a b : Int) (w : World), At w w.heap.size A (tvs l) → Calls Try.prog 77 #[.slice A l.length cap, .int .i64 a, .int .i64 b] w fun e W' => e = .returned (.bool (abv l a l.length b)) ∧ Below w.heap.size w W')
    (w : World) (hc : At w w.heap.size A (tvs l)) :
    Calls Try.prog 57 #[.slice A l.length cap, mv m] w (UDoEnd A l (doP l m) (stepP l m) w) := by
  have hB : Below w.heap.size w (((w.alloc (.cells #[.int .i64 (mc m), .int .i64 (mr m), .int .i64 (pa (mw m)), .int .i64 (ch (mw m)), .string (ba (nm (mw m))), .float .f64 (rk (mw m))] 38)).alloc (.cells #[.int .i64 0, .int .i64 0, .int .i64 0, .int .i64 0, .string ⟨#[]⟩, .float .f64 0, .bool false, .bool false, .int .i64 0, .int .i64 0, .string ⟨#[]⟩, .float .f64 0] 64)).alloc (.cells #[.int .i64 (mc m), .int .i64 (mr m), .int .i64 (pa (mw m)), .int .i64 (ch (mw m)), .string (ba (nm (mw m))), .float .f64 (rk (mw m)), .bool false, .bool false, .int .i64 0, .int .i64 0, .string ⟨#[]⟩, .float .f64 0] 64)) := (((Below.refl w.heap.size w).alloc (Nat.le_refl _) _).alloc (by simp) _).alloc (by simp <;> omega) _
  have hM : Is (((w.alloc (.cells #[.int .i64 (mc m), .int .i64 (mr m), .int .i64 (pa (mw m)), .int .i64 (ch (mw m)), .string (ba (nm (mw m))), .float .f64 (rk (mw m))] 38)).alloc (.cells #[.int .i64 0, .int .i64 0, .int .i64 0, .int .i64 0, .string ⟨#[]⟩, .float .f64 0, .bool false, .bool false, .int .i64 0, .int .i64 0, .string ⟨#[]⟩, .float .f64 0] 64)).alloc (.cells #[.int .i64 (mc m), .int .i64 (mr m), .int .i64 (pa (mw m)), .int .i64 (ch (mw m)), .string (ba (nm (mw m))), .float .f64 (rk (mw m)), .bool false, .bool false, .int .i64 0, .int .i64 0, .string ⟨#[]⟩, .float .f64 0] 64)) w.heap.size 38 [.int .i64 (mc m), .int .i64 (mr m), .int .i64 (pa (mw m)), .int .i64 (ch (mw m)), .string (ba (nm (mw m))), .float .f64 (rk (mw m))] := is_alloc (is_alloc (is_new w 38 [.int .i64 (mc m), .int .i64 (mr m), .int .i64 (pa (mw m)), .int .i64 (ch (mw m)), .string (ba (nm (mw m))), .float .f64 (rk (mw m))]) _) _
  have hZ : Is (((w.alloc (.cells #[.int .i64 (mc m), .int .i64 (mr m), .int .i64 (pa (mw m)), .int .i64 (ch (mw m)), .string (ba (nm (mw m))), .float .f64 (rk (mw m))] 38)).alloc (.cells #[.int .i64 0, .int .i64 0, .int .i64 0, .int .i64 0, .string ⟨#[]⟩, .float .f64 0, .bool false, .bool false, .int .i64 0, .int .i64 0, .string ⟨#[]⟩, .float .f64 0] 64)).alloc (.cells #[.int .i64 (mc m), .int .i64 (mr m), .int .i64 (pa (mw m)), .int .i64 (ch (mw m)), .string (ba (nm (mw m))), .float .f64 (rk (mw m)), .bool false, .bool false, .int .i64 0, .int .i64 0, .string ⟨#[]⟩, .float .f64 0] 64)) (w.heap.size + 1) 64 [.int .i64 0, .int .i64 0, .int .i64 0, .int .i64 0, .string ⟨#[]⟩, .float .f64 0, .bool false, .bool false, .int .i64 0, .int .i64 0, .string ⟨#[]⟩, .float .f64 0] := is_alloc (is_newA w 64 [.int .i64 0, .int .i64 0, .int .i64 0, .int .i64 0, .string ⟨#[]⟩, .float .f64 0, .bool false, .bool false, .int .i64 0, .int .i64 0, .string ⟨#[]⟩, .float .f64 0] _) _
  have hS : Is (((w.alloc (.cells #[.int .i64 (mc m), .int .i64 (mr m), .int .i64 (pa (mw m)), .int .i64 (ch (mw m)), .string (ba (nm (mw m))), .float .f64 (rk (mw m))] 38)).alloc (.cells #[.int .i64 0, .int .i64 0, .int .i64 0, .int .i64 0, .string ⟨#[]⟩, .float .f64 0, .bool false, .bool false, .int .i64 0, .int .i64 0, .string ⟨#[]⟩, .float .f64 0] 64)).alloc (.cells #[.int .i64 (mc m), .int .i64 (mr m), .int .i64 (pa (mw m)), .int .i64 (ch (mw m)), .string (ba (nm (mw m))), .float .f64 (rk (mw m)), .bool false, .bool false, .int .i64 0, .int .i64 0, .string ⟨#[]⟩, .float .f64 0] 64)) (w.heap.size + 1 + 1) 64 [.int .i64 (mc m), .int .i64 (mr m), .int .i64 (pa (mw m)), .int .i64 (ch (mw m)), .string (ba (nm (mw m))), .float .f64 (rk (mw m)), .bool false, .bool false, .int .i64 0, .int .i64 0, .string ⟨#[]⟩, .float .f64 0] := is_newB w 64 [.int .i64 (mc m), .int .i64 (mr m), .int .i64 (pa (mw m)), .int .i64 (ch (mw m)), .string (ba (nm (mw m))), .float .f64 (rk (mw m)), .bool false, .bool false, .int .i64 0, .int .i64 0, .string ⟨#[]⟩, .float .f64 0] _ _
  obtain ⟨w0, hw0⟩ : ∃ w0, w0 = (((w.alloc (.cells #[.int .i64 (mc m), .int .i64 (mr m), .int .i64 (pa (mw m)), .int .i64 (ch (mw m)), .string (ba (nm (mw m))), .float .f64 (rk (mw m))] 38)).alloc (.cells #[.int .i64 0, .int .i64 0, .int .i64 0, .int .i64 0, .string ⟨#[]⟩, .float .f64 0, .bool false, .bool false, .int .i64 0, .int .i64 0, .string ⟨#[]⟩, .float .f64 0] 64)).alloc (.cells #[.int .i64 (mc m), .int .i64 (mr m), .int .i64 (pa (mw m)), .int .i64 (ch (mw m)), .string (ba (nm (mw m))), .float .f64 (rk (mw m)), .bool false, .bool false, .int .i64 0, .int .i64 0, .string ⟨#[]⟩, .float .f64 0] 64)) := ⟨_, rfl⟩
  rw [← hw0] at hB hM hZ hS
  have HB := Lib.hid hB
  have HM := Lib.hid hM
  have HZ := Lib.hid hZ
  have HS := Lib.hid hS
  have HA := Lib.hid hA
  have HC00 := Lib.hid hc
  have HC := Lib.hid (hc.keep hB)
  have hdo := mdo_g A cap l m hl hA hcap ha w0 HC.out
  have HDO := Lib.hid hdo
  have HW := Lib.hid hw0
  clear hB hM hZ hS hA hc hdo hw0 ha
  show Calls Try.prog 57 #[.slice A l.length cap, .agg #[.int .i64 (mc m), .int .i64 (mr m), .int .i64 (pa (mw m)), .int .i64 (ch (mw m)), .string (ba (nm (mw m))), .float .f64 (rk (mw m))]] w _
  go_enter Try.func57, Try.ntmps57
  go_wp2_with fail
  rw [← HW.out]
  refine HDO.out.mono ?_
  rintro e w1 ⟨A1, cap1, rfl, hat1, hn1, hc1, hb1, hfr1⟩
  have hsz := HB.out.size
  have hs0 : w.heap.size + 1 + 1 < w0.heap.size := is_lt HS.out
  have HSZ := Lib.hid hs0
  have HM1 := Lib.hid (is_below HM.out hb1 (by omega))
  have HZ1 := Lib.hid (is_below HZ.out hb1 (by omega))
  have HS1 := Lib.hid (is_below HS.out hb1 hs0)
  have HB1 := Lib.hid (HB.out.trans (hb1.mono hsz))
  have HAT1 := Lib.hid hat1
  have HN1 := Lib.hid hn1
  have HF1 := Lib.hid hfr1
  have HC1 := Lib.hid (HC.out.keep hb1)
  have HSL0 := Lib.hid hb1.size
  have hst : stepP l m = if barP l m then (m, false, false, zr) else (m, true, (fnd l (ch (mw m))).isSome, (fnd l (ch (mw m))).getD zr) := rfl
  have hdl : doP l m = if barP l m then l else setP l (mw m) := rfl
  clear HM HZ HS HC hb1 hat1 hn1 HDO HW hfr1 hs0 hsz
  cases hbp : barP l m with
  | true =>
    rw [hbp, if_pos rfl] at hst
    rw [hbp, if_pos rfl] at hdl
    rw [hbp] at HF1
    have HST := Lib.hid hst
    have HDL := Lib.hid hdl
    have HSX := HS1
    have HZX := HZ1
    have HBX := HB1
    clear hst hbp hdl
    have s0 := is_cell HSX.out 0
    have s1 := is_cell HSX.out 1
    have s2 := is_cell HSX.out 2
    have s3 := is_cell HSX.out 3
    have s4 := is_cell HSX.out 4
    have s5 := is_cell HSX.out 5
    have s6 := is_cell HSX.out 6
    have s7 := is_cell HSX.out 7
    have s8 := is_cell HSX.out 8
    have s9 := is_cell HSX.out 9
    have s10 := is_cell HSX.out 10
    have s11 := is_cell HSX.out 11
    have z0 := is_cell HZX.out 0
    have z1 := is_cell HZX.out 1
    have z2 := is_cell HZX.out 2
    have z3 := is_cell HZX.out 3
    have z4 := is_cell HZX.out 4
    have z5 := is_cell HZX.out 5
    have z6 := is_cell HZX.out 6
    have z7 := is_cell HZX.out 7
    have z8 := is_cell HZX.out 8
    have z9 := is_cell HZX.out 9
    have z10 := is_cell HZX.out 10
    have z11 := is_cell HZX.out 11
    simp only [List.getElem?_cons_zero, List.getElem?_cons_succ] at s0 s1 s2 s3 s4 s5 s6 s7 s8 s9 s10 s11 z0 z1 z2 z3 z4 z5 z6 z7 z8 z9 z10 z11
    have f0 := is_free HZX.out 0
    have f1 := is_free HZX.out 1
    have f2 := is_free HZX.out 2
    have f3 := is_free HZX.out 3
    have f4 := is_free HZX.out 4
    have f5 := is_free HZX.out 5
    have f6 := is_free HZX.out 6
    have f7 := is_free HZX.out 7
    have f8 := is_free HZX.out 8
    have f9 := is_free HZX.out 9
    have f10 := is_free HZX.out 10
    have f11 := is_free HZX.out 11
    go_wp2_with fail
    go_region
    clear s0 s1 s2 s3 s4 s5 s6 s7 s8 s9 s10 s11 z0 z1 z2 z3 z4 z5 z6 z7 z8 z9 z10 z11 f0 f1 f2 f3 f4 f5 f6 f7 f8 f9 f10 f11
    obtain ⟨w9, hw9⟩ : ∃ w9, w9 = ((((((((((((w1.setCell ⟨w.heap.size + 1, 0, none⟩ (.int .i64 (mc m))).setCell ⟨w.heap.size + 1, 1, none⟩ (.int .i64 (mr m))).setCell ⟨w.heap.size + 1, 2, none⟩ (.int .i64 (pa (mw m)))).setCell ⟨w.heap.size + 1, 3, none⟩ (.int .i64 (ch (mw m)))).setCell ⟨w.heap.size + 1, 4, none⟩ (.string (ba (nm (mw m))))).setCell ⟨w.heap.size + 1, 5, none⟩ (.float .f64 (rk (mw m)))).setCell ⟨w.heap.size + 1, 6, none⟩ (.bool false)).setCell ⟨w.heap.size + 1, 7, none⟩ (.bool false)).setCell ⟨w.heap.size + 1, 8, none⟩ (.int .i64 0)).setCell ⟨w.heap.size + 1, 9, none⟩ (.int .i64 0)).setCell ⟨w.heap.size + 1, 10, none⟩ (.string ⟨#[]⟩)).setCell ⟨w.heap.size + 1, 11, none⟩ (.float .f64 0)) := ⟨_, rfl⟩
    have hI9 : Is w9 (w.heap.size + 1) 64 [.int .i64 (mc m), .int .i64 (mr m), .int .i64 (pa (mw m)), .int .i64 (ch (mw m)), .string (ba (nm (mw m))), .float .f64 (rk (mw m)), .bool false, .bool false, .int .i64 0, .int .i64 0, .string ⟨#[]⟩, .float .f64 0] := by rw [hw9]; exact set12_is HZX.out
    have hk9 : ∀ k, k ≠ w.heap.size + 1 → w9.heap[k]? = w1.heap[k]? := fun k hk => by rw [hw9]; exact set12_off k hk
    have hs9 : w9.heap.size = w1.heap.size := by rw [hw9]; exact set12_size
    have hb9 : Below w.heap.size w w9 := by rw [hw9]; exact set12_below HBX.out (by omega)
    rw [← hw9]
    clear hw9
    have j0 := is_cell hI9 0
    have j1 := is_cell hI9 1
    have j2 := is_cell hI9 2
    have j3 := is_cell hI9 3
    have j4 := is_cell hI9 4
    have j5 := is_cell hI9 5
    have j6 := is_cell hI9 6
    have j7 := is_cell hI9 7
    have j8 := is_cell hI9 8
    have j9 := is_cell hI9 9
    have j10 := is_cell hI9 10
    have j11 := is_cell hI9 11
    simp only [List.getElem?_cons_zero, List.getElem?_cons_succ] at j0 j1 j2 j3 j4 j5 j6 j7 j8 j9 j10 j11
    go_wp2_with fail
    refine bodyPost_ret (v := .tuple #[.slice A1 (doP l m).length cap1, .agg #[.int .i64 (mc m), .int .i64 (mr m), .int .i64 (pa (mw m)), .int .i64 (ch (mw m)), .string (ba (nm (mw m))), .float .f64 (rk (mw m)), .bool false, .bool false, .int .i64 0, .int .i64 0, .string ⟨#[]⟩, .float .f64 0]]) (by simp [results, Try.f57, go_sem, j0, j1, j2, j3, j4, j5, j6, j7, j8, j9, j10, j11]) rfl ?_
    refine ⟨A1, cap1, by rw [HST.out]; rfl, at_two HC00.out HAT1.out (HF1.out.imp (fun h => ⟨h.1, HDL.out⟩) fun h => h.fresh) (by omega) (by have := HSZ.out; omega) hk9 hs9, HN1.out, hc1, hb9.drew, HF1.out.imp (fun h => ⟨h.1, HDL.out⟩) fun h => (h.same fun a ha => hk9 _ (by have h1 := (h a ha).1; have := HSZ.out; omega)).low (by have := HSZ.out; omega)⟩
  | false =>
    rw [hbp, if_neg Bool.false_ne_true] at hst
    rw [hbp] at HF1
    have HST := Lib.hid hst
    clear hst hbp hdl
    have hfr : Rowy w0.heap.size A1 w1 := by
      rcases HF1.out with ⟨_, h⟩ | h
      · cases h
      · exact h
    have HFR := Lib.hid hfr
    clear hfr HF1
    have HSL := Lib.hid (show w0.heap.size ≤ w1.heap.size from HSL0.out)
    have m3 := is_cell HM1.out 3
    have s6 := is_cell HS1.out 6
    simp only [List.getElem?_cons_zero, List.getElem?_cons_succ] at m3 s6
    have f6 := is_free HS1.out 6
    have m3' : (w1.setCell ⟨w.heap.size + 1 + 1, 6, none⟩ (.bool true)).cell? ⟨w.heap.size, 3, none⟩ = some (.int .i64 (ch (mw m))) := (cell_same (Below.heap_setCell _ _ _ _ (by show w.heap.size ≠ w.heap.size + 1 + 1; omega)) 3).trans m3
    go_wp2_with fail
    have hat1 : At (w1.setCell ⟨w.heap.size + 1 + 1, 6, none⟩ (.bool true)) (w1.setCell ⟨w.heap.size + 1 + 1, 6, none⟩ (.bool true)).heap.size A (tvs l) := at_two (G := w.heap.size + 1 + 1) HC00.out HC1.out (.inl ⟨rfl, rfl⟩) (N := w.heap.size + 3) (by omega) (by omega) (fun k hk => Below.heap_setCell _ _ _ _ hk) (by simp)
    refine (find_c A cap l (ch (mw m)) (by unfold maxLen; omega) _ hat1).mono ?_
    rintro e w3 ⟨rfl, hb3⟩
    obtain ⟨r, hr⟩ : ∃ r, (fnd l (ch (mw m))).getD zr = r := ⟨_, rfl⟩
    obtain ⟨q, hq⟩ : ∃ q, (fnd l (ch (mw m))).isSome = q := ⟨_, rfl⟩
    have hst := HST.out
    rw [hr, hq] at hst
    rw [hr, hq, show rv r = .agg #[.int .i64 (ch r), .int .i64 (pa r), .string (ba (nm r)), .float .f64 (rk r)] from rfl]
    have HST2 := Lib.hid hst
    have hsz := HSZ.out
    have hw1 : w0.heap.size ≤ w1.heap.size := HSL.out
    have hS2 : Is (w1.setCell ⟨w.heap.size + 1 + 1, 6, none⟩ (.bool true)) (w.heap.size + 1 + 1) 64 [.int .i64 (mc m), .int .i64 (mr m), .int .i64 (pa (mw m)), .int .i64 (ch (mw m)), .string (ba (nm (mw m))), .float .f64 (rk (mw m)), .bool true, .bool false, .int .i64 0, .int .i64 0, .string ⟨#[]⟩, .float .f64 0] := is_set HS1.out 6 _
    have hZ2 : Is (w1.setCell ⟨w.heap.size + 1 + 1, 6, none⟩ (.bool true)) (w.heap.size + 1) 64 [.int .i64 0, .int .i64 0, .int .i64 0, .int .i64 0, .string ⟨#[]⟩, .float .f64 0, .bool false, .bool false, .int .i64 0, .int .i64 0, .string ⟨#[]⟩, .float .f64 0] := is_far HZ1.out _ (by show w.heap.size + 1 ≠ w.heap.size + 1 + 1; omega) _
    have hS3 := is_below hS2 hb3 (is_lt hS2)
    have hZ3 := is_below hZ2 hb3 (is_lt hZ2)
    have hb13 : Below w.heap.size w w3 := (HB1.out.setCell (p := ⟨w.heap.size + 1 + 1, 6, none⟩) (by show w.heap.size ≤ w.heap.size + 1 + 1; omega) (.bool true)).trans (hb3.mono (by simp; omega))
    have hr3 : At w3 w3.heap.size A1 (tvs (doP l m)) := At.keep (at_two (G := w.heap.size + 1 + 1) HC00.out HAT1.out (.inr HFR.out.fresh) (by omega) (by omega) (fun k hk => Below.heap_setCell _ _ _ _ hk) (by simp)) hb3
    have hf3 : Rowy w0.heap.size A1 w3 := (HFR.out.same fun a ha => Below.heap_setCell _ _ _ _ (by have h1 := (HFR.out a ha).1; show a.block ≠ w.heap.size + 1 + 1; omega)).keep hb3
    have HF3 := Lib.hid hf3
    have HS3 := Lib.hid hS3
    have HZ3 := Lib.hid hZ3
    have HB3 := Lib.hid hb13
    have HR3 := Lib.hid hr3
    clear hb3 hat1 m3 m3' s6 f6 hr hq hst hS2 hZ2 hS3 hZ3 hb13 hr3 hf3 HST hw1 HSL HS1 HZ1 HM1 HB1 HAT1 HC1
    have s7 := is_cell HS3.out 7
    have s8 := is_cell HS3.out 8
    have s9 := is_cell HS3.out 9
    have s10 := is_cell HS3.out 10
    have s11 := is_cell HS3.out 11
    simp only [List.getElem?_cons_zero, List.getElem?_cons_succ] at s7 s8 s9 s10 s11
    have f7 := is_free HS3.out 7
    have f8 := is_free HS3.out 8
    have f9 := is_free HS3.out 9
    have f10 := is_free HS3.out 10
    have f11 := is_free HS3.out 11
    obtain ⟨w4, hw4⟩ : ∃ w4, w4 = (((((w3.setCell ⟨w.heap.size + 1 + 1, 8, none⟩ (.int .i64 (ch r))).setCell ⟨w.heap.size + 1 + 1, 9, none⟩ (.int .i64 (pa r))).setCell ⟨w.heap.size + 1 + 1, 10, none⟩ (.string (ba (nm r)))).setCell ⟨w.heap.size + 1 + 1, 11, none⟩ (.float .f64 (rk r))).setCell ⟨w.heap.size + 1 + 1, 7, none⟩ (.bool q)) := ⟨_, rfl⟩
    have hSX : Is w4 (w.heap.size + 1 + 1) 64 [.int .i64 (mc m), .int .i64 (mr m), .int .i64 (pa (mw m)), .int .i64 (ch (mw m)), .string (ba (nm (mw m))), .float .f64 (rk (mw m)), .bool true, .bool q, .int .i64 (ch r), .int .i64 (pa r), .string (ba (nm r)), .float .f64 (rk r)] := by rw [hw4]; exact is_set (is_set (is_set (is_set (is_set HS3.out 8 _) 9 _) 10 _) 11 _) 7 _
    have hZX : Is w4 (w.heap.size + 1) 64 [.int .i64 0, .int .i64 0, .int .i64 0, .int .i64 0, .string ⟨#[]⟩, .float .f64 0, .bool false, .bool false, .int .i64 0, .int .i64 0, .string ⟨#[]⟩, .float .f64 0] := by
      rw [hw4]
      have hne : w.heap.size + 1 ≠ w.heap.size + 1 + 1 := by omega
      exact is_far (is_far (is_far (is_far (is_far HZ3.out _ hne _) _ hne _) _ hne _) _ hne _) _ hne _
    have hk4 : ∀ k, k ≠ w.heap.size + 1 + 1 → w4.heap[k]? = w3.heap[k]? := fun k hk => by
      rw [hw4]
      iterate 5 rw [Below.heap_setCell _ _ _ _ hk]
    have hs4 : w4.heap.size = w3.heap.size := by rw [hw4]; simp
    have hb4 : Below w.heap.size w w4 := by
      rw [hw4]
      have hg : w.heap.size ≤ w.heap.size + 1 + 1 := by omega
      exact ((((HB3.out.setCell (p := ⟨w.heap.size + 1 + 1, 8, none⟩) hg _).setCell (p := ⟨w.heap.size + 1 + 1, 9, none⟩) hg _).setCell (p := ⟨w.heap.size + 1 + 1, 10, none⟩) hg _).setCell (p := ⟨w.heap.size + 1 + 1, 11, none⟩) hg _).setCell (p := ⟨w.heap.size + 1 + 1, 7, none⟩) hg _
    have hr4 : At w4 w4.heap.size A1 (tvs (doP l m)) := at_two HC00.out HR3.out (.inr HFR.out.fresh) (by omega) (by omega) hk4 hs4
    have HSX := Lib.hid hSX
    have HZX := Lib.hid hZX
    have HBX := Lib.hid hb4
    have HR4 := Lib.hid hr4
    have HF4 := Lib.hid (HF3.out.same fun a ha => hk4 _ (by have h1 := (HF3.out a ha).1; have := HSZ.out; omega))
    have HW4 := Lib.hid hw4
    clear hSX hZX hk4 hs4 hb4 hr4 hw4
    go_wp2_with fail
    rw [← HW4.out]
    clear s7 s8 s9 s10 s11 f7 f8 f9 f10 f11 HS3 HZ3 HB3 HR3 HW4
    have s0 := is_cell HSX.out 0
    have s1 := is_cell HSX.out 1
    have s2 := is_cell HSX.out 2
    have s3 := is_cell HSX.out 3
    have s4 := is_cell HSX.out 4
    have s5 := is_cell HSX.out 5
    have s6 := is_cell HSX.out 6
    have s7 := is_cell HSX.out 7
    have s8 := is_cell HSX.out 8
    have s9 := is_cell HSX.out 9
    have s10 := is_cell HSX.out 10
    have s11 := is_cell HSX.out 11
    have z0 := is_cell HZX.out 0
    have z1 := is_cell HZX.out 1
    have z2 := is_cell HZX.out 2
    have z3 := is_cell HZX.out 3
    have z4 := is_cell HZX.out 4
    have z5 := is_cell HZX.out 5
    have z6 := is_cell HZX.out 6
    have z7 := is_cell HZX.out 7
    have z8 := is_cell HZX.out 8
    have z9 := is_cell HZX.out 9
    have z10 := is_cell HZX.out 10
    have z11 := is_cell HZX.out 11
    simp only [List.getElem?_cons_zero, List.getElem?_cons_succ] at s0 s1 s2 s3 s4 s5 s6 s7 s8 s9 s10 s11 z0 z1 z2 z3 z4 z5 z6 z7 z8 z9 z10 z11
    have f0 := is_free HZX.out 0
    have f1 := is_free HZX.out 1
    have f2 := is_free HZX.out 2
    have f3 := is_free HZX.out 3
    have f4 := is_free HZX.out 4
    have f5 := is_free HZX.out 5
    have f6 := is_free HZX.out 6
    have f7 := is_free HZX.out 7
    have f8 := is_free HZX.out 8
    have f9 := is_free HZX.out 9
    have f10 := is_free HZX.out 10
    have f11 := is_free HZX.out 11
    go_wp2_with fail
    go_region
    clear s0 s1 s2 s3 s4 s5 s6 s7 s8 s9 s10 s11 z0 z1 z2 z3 z4 z5 z6 z7 z8 z9 z10 z11 f0 f1 f2 f3 f4 f5 f6 f7 f8 f9 f10 f11
    obtain ⟨w9, hw9⟩ : ∃ w9, w9 = ((((((((((((w4.setCell ⟨w.heap.size + 1, 0, none⟩ (.int .i64 (mc m))).setCell ⟨w.heap.size + 1, 1, none⟩ (.int .i64 (mr m))).setCell ⟨w.heap.size + 1, 2, none⟩ (.int .i64 (pa (mw m)))).setCell ⟨w.heap.size + 1, 3, none⟩ (.int .i64 (ch (mw m)))).setCell ⟨w.heap.size + 1, 4, none⟩ (.string (ba (nm (mw m))))).setCell ⟨w.heap.size + 1, 5, none⟩ (.float .f64 (rk (mw m)))).setCell ⟨w.heap.size + 1, 6, none⟩ (.bool true)).setCell ⟨w.heap.size + 1, 7, none⟩ (.bool q)).setCell ⟨w.heap.size + 1, 8, none⟩ (.int .i64 (ch r))).setCell ⟨w.heap.size + 1, 9, none⟩ (.int .i64 (pa r))).setCell ⟨w.heap.size + 1, 10, none⟩ (.string (ba (nm r)))).setCell ⟨w.heap.size + 1, 11, none⟩ (.float .f64 (rk r))) := ⟨_, rfl⟩
    have hI9 : Is w9 (w.heap.size + 1) 64 [.int .i64 (mc m), .int .i64 (mr m), .int .i64 (pa (mw m)), .int .i64 (ch (mw m)), .string (ba (nm (mw m))), .float .f64 (rk (mw m)), .bool true, .bool q, .int .i64 (ch r), .int .i64 (pa r), .string (ba (nm r)), .float .f64 (rk r)] := by rw [hw9]; exact set12_is HZX.out
    have hk9 : ∀ k, k ≠ w.heap.size + 1 → w9.heap[k]? = w4.heap[k]? := fun k hk => by rw [hw9]; exact set12_off k hk
    have hs9 : w9.heap.size = w4.heap.size := by rw [hw9]; exact set12_size
    have hb9 : Below w.heap.size w w9 := by rw [hw9]; exact set12_below HBX.out (by omega)
    rw [← hw9]
    clear hw9
    have j0 := is_cell hI9 0
    have j1 := is_cell hI9 1
    have j2 := is_cell hI9 2
    have j3 := is_cell hI9 3
    have j4 := is_cell hI9 4
    have j5 := is_cell hI9 5
    have j6 := is_cell hI9 6
    have j7 := is_cell hI9 7
    have j8 := is_cell hI9 8
    have j9 := is_cell hI9 9
    have j10 := is_cell hI9 10
    have j11 := is_cell hI9 11
    simp only [List.getElem?_cons_zero, List.getElem?_cons_succ] at j0 j1 j2 j3 j4 j5 j6 j7 j8 j9 j10 j11
    go_wp2_with fail
    refine bodyPost_ret (v := .tuple #[.slice A1 (doP l m).length cap1, .agg #[.int .i64 (mc m), .int .i64 (mr m), .int .i64 (pa (mw m)), .int .i64 (ch (mw m)), .string (ba (nm (mw m))), .float .f64 (rk (mw m)), .bool true, .bool q, .int .i64 (ch r), .int .i64 (pa r), .string (ba (nm r)), .float .f64 (rk r)]]) (by simp [results, Try.f57, go_sem, j0, j1, j2, j3, j4, j5, j6, j7, j8, j9, j10, j11]) rfl ?_
    refine ⟨A1, cap1, by rw [HST2.out]; rfl, at_two HC00.out HR4.out (.inr HFR.out.fresh) (by omega) (by have := HSZ.out; omega) hk9 hs9, HN1.out, hc1, hb9.drew, .inr ((HF4.out.same fun a ha => hk9 _ (by have h1 := (HF4.out a ha).1; have := HSZ.out; omega)).low (by have := HSZ.out; omega))⟩

set_option maxHeartbeats 8000000 in
theorem rudo_c (A : Option Addr) (cap : Nat) (l : List Rw) (m : Mv) (hl : l.length ≤ 100000) (hA : A = none → cap = 0) (hcap : l.length ≤ cap) (ha : ∀ (a b : Int) (w : World), At w w.heap.size A (tvs l) → Calls Try.prog 32 #[.slice A l.length cap, .int .i64 a, .int .i64 b] w fun e W' => e = .returned (.bool (abv l a l.length b)) ∧ Below w.heap.size w W')
    (w : World) (hc : At w w.heap.size A (tvs l)) :
    Calls Try.prog 59 #[.slice A l.length cap, mv m] w (UDoEnd A l (doP l m) (stepP l m) w) := by
  have hB : Below w.heap.size w ((w.alloc (.cells #[.int .i64 (mc m), .int .i64 (mr m), .int .i64 (pa (mw m)), .int .i64 (ch (mw m)), .string (ba (nm (mw m))), .float .f64 (rk (mw m))] 38)).alloc (.cells #[.int .i64 0, .int .i64 0, .int .i64 0, .int .i64 0, .string ⟨#[]⟩, .float .f64 0, .bool false, .bool false, .int .i64 0, .int .i64 0, .string ⟨#[]⟩, .float .f64 0] 64)) := ((Below.refl w.heap.size w).alloc (Nat.le_refl _) _).alloc (by simp) _
  have hM : Is ((w.alloc (.cells #[.int .i64 (mc m), .int .i64 (mr m), .int .i64 (pa (mw m)), .int .i64 (ch (mw m)), .string (ba (nm (mw m))), .float .f64 (rk (mw m))] 38)).alloc (.cells #[.int .i64 0, .int .i64 0, .int .i64 0, .int .i64 0, .string ⟨#[]⟩, .float .f64 0, .bool false, .bool false, .int .i64 0, .int .i64 0, .string ⟨#[]⟩, .float .f64 0] 64)) w.heap.size 38 [.int .i64 (mc m), .int .i64 (mr m), .int .i64 (pa (mw m)), .int .i64 (ch (mw m)), .string (ba (nm (mw m))), .float .f64 (rk (mw m))] := is_alloc (is_new w 38 [.int .i64 (mc m), .int .i64 (mr m), .int .i64 (pa (mw m)), .int .i64 (ch (mw m)), .string (ba (nm (mw m))), .float .f64 (rk (mw m))]) _
  have hZ : Is ((w.alloc (.cells #[.int .i64 (mc m), .int .i64 (mr m), .int .i64 (pa (mw m)), .int .i64 (ch (mw m)), .string (ba (nm (mw m))), .float .f64 (rk (mw m))] 38)).alloc (.cells #[.int .i64 0, .int .i64 0, .int .i64 0, .int .i64 0, .string ⟨#[]⟩, .float .f64 0, .bool false, .bool false, .int .i64 0, .int .i64 0, .string ⟨#[]⟩, .float .f64 0] 64)) (w.heap.size + 1) 64 [.int .i64 0, .int .i64 0, .int .i64 0, .int .i64 0, .string ⟨#[]⟩, .float .f64 0, .bool false, .bool false, .int .i64 0, .int .i64 0, .string ⟨#[]⟩, .float .f64 0] := is_newA w 64 [.int .i64 0, .int .i64 0, .int .i64 0, .int .i64 0, .string ⟨#[]⟩, .float .f64 0, .bool false, .bool false, .int .i64 0, .int .i64 0, .string ⟨#[]⟩, .float .f64 0] _
  obtain ⟨w0, hw0⟩ : ∃ w0, w0 = ((w.alloc (.cells #[.int .i64 (mc m), .int .i64 (mr m), .int .i64 (pa (mw m)), .int .i64 (ch (mw m)), .string (ba (nm (mw m))), .float .f64 (rk (mw m))] 38)).alloc (.cells #[.int .i64 0, .int .i64 0, .int .i64 0, .int .i64 0, .string ⟨#[]⟩, .float .f64 0, .bool false, .bool false, .int .i64 0, .int .i64 0, .string ⟨#[]⟩, .float .f64 0] 64)) := ⟨_, rfl⟩
  rw [← hw0] at hB hM hZ
  have HB := Lib.hid hB
  have HM := Lib.hid hM
  have HZ := Lib.hid hZ
  have HA := Lib.hid hA
  have HC00 := Lib.hid hc
  have HC := Lib.hid (hc.keep hB)
  have hdo := rdo_g A cap l m hl hA hcap ha w0 HC.out
  have HDO := Lib.hid hdo
  have HW := Lib.hid hw0
  clear hB hM hZ hA hc hdo hw0 ha
  show Calls Try.prog 59 #[.slice A l.length cap, .agg #[.int .i64 (mc m), .int .i64 (mr m), .int .i64 (pa (mw m)), .int .i64 (ch (mw m)), .string (ba (nm (mw m))), .float .f64 (rk (mw m))]] w _
  go_enter Try.func59, Try.ntmps59
  go_wp2_with fail
  rw [← HW.out]
  refine HDO.out.mono ?_
  rintro e w1 ⟨A1, cap1, rfl, hat1, hn1, hc1, hb1, hfr1⟩
  have hsz := HB.out.size
  have hs0 : w.heap.size + 1 < w0.heap.size := is_lt HZ.out
  have HSZ := Lib.hid hs0
  have HM1 := Lib.hid (is_below HM.out hb1 (by omega))
  have HZ1 := Lib.hid (is_below HZ.out hb1 (by omega))
  have HB1 := Lib.hid (HB.out.trans (hb1.mono hsz))
  have HAT1 := Lib.hid hat1
  have HN1 := Lib.hid hn1
  have HF1 := Lib.hid hfr1
  have HC1 := Lib.hid (HC.out.keep hb1)
  have HSL := Lib.hid hb1.size
  have hst : stepP l m = if barP l m then (m, false, false, zr) else (m, true, (fnd l (ch (mw m))).isSome, (fnd l (ch (mw m))).getD zr) := rfl
  have hdl : doP l m = if barP l m then l else setP l (mw m) := rfl
  clear HM HZ HC hb1 hat1 hn1 HDO HW hfr1 hs0 hsz
  have m0 := is_cell HM1.out 0
  have m1 := is_cell HM1.out 1
  have m2 := is_cell HM1.out 2
  have m3 := is_cell HM1.out 3
  have m4 := is_cell HM1.out 4
  have m5 := is_cell HM1.out 5
  simp only [List.getElem?_cons_zero, List.getElem?_cons_succ] at m0 m1 m2 m3 m4 m5
  cases hbp : barP l m with
  | true =>
    rw [hbp, if_pos rfl] at hst
    rw [hbp, if_pos rfl] at hdl
    rw [hbp] at HF1
    have HST := Lib.hid hst
    have HDL := Lib.hid hdl
    clear hst hbp hdl
    obtain ⟨w2, hw2⟩ : ∃ w2, w2 = w1.alloc (.cells #[.int .i64 (mc m), .int .i64 (mr m), .int .i64 (pa (mw m)), .int .i64 (ch (mw m)), .string (ba (nm (mw m))), .float .f64 (rk (mw m)), .bool false, .bool false, .int .i64 0, .int .i64 0, .string ⟨#[]⟩, .float .f64 0] 64) := ⟨_, rfl⟩
    have HBA := Lib.hid (show Below w1.heap.size w1 w2 by rw [hw2]; exact (Below.refl _ _).alloc (Nat.le_refl _) _)
    have HSX := Lib.hid (show Is w2 w1.heap.size 64 [.int .i64 (mc m), .int .i64 (mr m), .int .i64 (pa (mw m)), .int .i64 (ch (mw m)), .string (ba (nm (mw m))), .float .f64 (rk (mw m)), .bool false, .bool false, .int .i64 0, .int .i64 0, .string ⟨#[]⟩, .float .f64 0] by rw [hw2]; exact is_new w1 64 [.int .i64 (mc m), .int .i64 (mr m), .int .i64 (pa (mw m)), .int .i64 (ch (mw m)), .string (ba (nm (mw m))), .float .f64 (rk (mw m)), .bool false, .bool false, .int .i64 0, .int .i64 0, .string ⟨#[]⟩, .float .f64 0])
    have HZX := Lib.hid (is_below HZ1.out HBA.out (is_lt HZ1.out))
    have HBX := Lib.hid (HB1.out.trans (HBA.out.mono HB1.out.size))
    have HAT2 := Lib.hid (HAT1.out.keep HBA.out)
    have HW2 := Lib.hid hw2
    clear hw2
    go_wp2_with fail
    rw [← HW2.out]
    have s0 := is_cell HSX.out 0
    have s1 := is_cell HSX.out 1
    have s2 := is_cell HSX.out 2
    have s3 := is_cell HSX.out 3
    have s4 := is_cell HSX.out 4
    have s5 := is_cell HSX.out 5
    have s6 := is_cell HSX.out 6
    have s7 := is_cell HSX.out 7
    have s8 := is_cell HSX.out 8
    have s9 := is_cell HSX.out 9
    have s10 := is_cell HSX.out 10
    have s11 := is_cell HSX.out 11
    have z0 := is_cell HZX.out 0
    have z1 := is_cell HZX.out 1
    have z2 := is_cell HZX.out 2
    have z3 := is_cell HZX.out 3
    have z4 := is_cell HZX.out 4
    have z5 := is_cell HZX.out 5
    have z6 := is_cell HZX.out 6
    have z7 := is_cell HZX.out 7
    have z8 := is_cell HZX.out 8
    have z9 := is_cell HZX.out 9
    have z10 := is_cell HZX.out 10
    have z11 := is_cell HZX.out 11
    simp only [List.getElem?_cons_zero, List.getElem?_cons_succ] at s0 s1 s2 s3 s4 s5 s6 s7 s8 s9 s10 s11 z0 z1 z2 z3 z4 z5 z6 z7 z8 z9 z10 z11
    have f0 := is_free HZX.out 0
    have f1 := is_free HZX.out 1
    have f2 := is_free HZX.out 2
    have f3 := is_free HZX.out 3
    have f4 := is_free HZX.out 4
    have f5 := is_free HZX.out 5
    have f6 := is_free HZX.out 6
    have f7 := is_free HZX.out 7
    have f8 := is_free HZX.out 8
    have f9 := is_free HZX.out 9
    have f10 := is_free HZX.out 10
    have f11 := is_free HZX.out 11
    go_wp2_with fail
    go_region
    clear s0 s1 s2 s3 s4 s5 s6 s7 s8 s9 s10 s11 z0 z1 z2 z3 z4 z5 z6 z7 z8 z9 z10 z11 f0 f1 f2 f3 f4 f5 f6 f7 f8 f9 f10 f11
    obtain ⟨w9, hw9⟩ : ∃ w9, w9 = ((((((((((((w2.setCell ⟨w.heap.size + 1, 0, none⟩ (.int .i64 (mc m))).setCell ⟨w.heap.size + 1, 1, none⟩ (.int .i64 (mr m))).setCell ⟨w.heap.size + 1, 2, none⟩ (.int .i64 (pa (mw m)))).setCell ⟨w.heap.size + 1, 3, none⟩ (.int .i64 (ch (mw m)))).setCell ⟨w.heap.size + 1, 4, none⟩ (.string (ba (nm (mw m))))).setCell ⟨w.heap.size + 1, 5, none⟩ (.float .f64 (rk (mw m)))).setCell ⟨w.heap.size + 1, 6, none⟩ (.bool false)).setCell ⟨w.heap.size + 1, 7, none⟩ (.bool false)).setCell ⟨w.heap.size + 1, 8, none⟩ (.int .i64 0)).setCell ⟨w.heap.size + 1, 9, none⟩ (.int .i64 0)).setCell ⟨w.heap.size + 1, 10, none⟩ (.string ⟨#[]⟩)).setCell ⟨w.heap.size + 1, 11, none⟩ (.float .f64 0)) := ⟨_, rfl⟩
    have hI9 : Is w9 (w.heap.size + 1) 64 [.int .i64 (mc m), .int .i64 (mr m), .int .i64 (pa (mw m)), .int .i64 (ch (mw m)), .string (ba (nm (mw m))), .float .f64 (rk (mw m)), .bool false, .bool false, .int .i64 0, .int .i64 0, .string ⟨#[]⟩, .float .f64 0] := by rw [hw9]; exact set12_is HZX.out
    have hk9 : ∀ k, k ≠ w.heap.size + 1 → w9.heap[k]? = w2.heap[k]? := fun k hk => by rw [hw9]; exact set12_off k hk
    have hs9 : w9.heap.size = w2.heap.size := by rw [hw9]; exact set12_size
    have hb9 : Below w.heap.size w w9 := by rw [hw9]; exact set12_below HBX.out (by omega)
    rw [← hw9]
    clear hw9
    have j0 := is_cell hI9 0
    have j1 := is_cell hI9 1
    have j2 := is_cell hI9 2
    have j3 := is_cell hI9 3
    have j4 := is_cell hI9 4
    have j5 := is_cell hI9 5
    have j6 := is_cell hI9 6
    have j7 := is_cell hI9 7
    have j8 := is_cell hI9 8
    have j9 := is_cell hI9 9
    have j10 := is_cell hI9 10
    have j11 := is_cell hI9 11
    simp only [List.getElem?_cons_zero, List.getElem?_cons_succ] at j0 j1 j2 j3 j4 j5 j6 j7 j8 j9 j10 j11
    go_wp2_with fail
    refine bodyPost_ret (v := .tuple #[.slice A1 (doP l m).length cap1, .agg #[.int .i64 (mc m), .int .i64 (mr m), .int .i64 (pa (mw m)), .int .i64 (ch (mw m)), .string (ba (nm (mw m))), .float .f64 (rk (mw m)), .bool false, .bool false, .int .i64 0, .int .i64 0, .string ⟨#[]⟩, .float .f64 0]]) (by simp [results, Try.f59, go_sem, j0, j1, j2, j3, j4, j5, j6, j7, j8, j9, j10, j11]) rfl ?_
    refine ⟨A1, cap1, by rw [HST.out]; rfl, at_two HC00.out HAT2.out (HF1.out.imp (fun h => ⟨h.1, HDL.out⟩) fun h => h.fresh) (by omega) (by have := HSZ.out; omega) hk9 hs9, HN1.out, hc1, hb9.drew, HF1.out.imp (fun h => ⟨h.1, HDL.out⟩) fun h => ((h.keep HBA.out).same fun a ha => hk9 _ (by have h1 := (h a ha).1; have := HSZ.out; omega)).low (by have := HSZ.out; omega)⟩
  | false =>
    rw [hbp, if_neg Bool.false_ne_true] at hst
    rw [hbp] at HF1
    have HST := Lib.hid hst
    clear hst hbp hdl
    have hfr : Rowy w0.heap.size A1 w1 := by
      rcases HF1.out with ⟨_, h⟩ | h
      · cases h
      · exact h
    have HFR := Lib.hid hfr
    clear hfr HF1
    obtain ⟨w2, hw2⟩ : ∃ w2, w2 = w1.alloc (.cells #[.int .i64 (mc m), .int .i64 (mr m), .int .i64 (pa (mw m)), .int .i64 (ch (mw m)), .string (ba (nm (mw m))), .float .f64 (rk (mw m)), .bool true, .bool false, .int .i64 0, .int .i64 0, .string ⟨#[]⟩, .float .f64 0] 64) := ⟨_, rfl⟩
    have HBA := Lib.hid (show Below w1.heap.size w1 w2 by rw [hw2]; exact (Below.refl _ _).alloc (Nat.le_refl _) _)
    have HS2 := Lib.hid (show Is w2 w1.heap.size 64 [.int .i64 (mc m), .int .i64 (mr m), .int .i64 (pa (mw m)), .int .i64 (ch (mw m)), .string (ba (nm (mw m))), .float .f64 (rk (mw m)), .bool true, .bool false, .int .i64 0, .int .i64 0, .string ⟨#[]⟩, .float .f64 0] by rw [hw2]; exact is_new w1 64 [.int .i64 (mc m), .int .i64 (mr m), .int .i64 (pa (mw m)), .int .i64 (ch (mw m)), .string (ba (nm (mw m))), .float .f64 (rk (mw m)), .bool true, .bool false, .int .i64 0, .int .i64 0, .string ⟨#[]⟩, .float .f64 0])
    have HW2 := Lib.hid hw2
    have m3' := is_cell (is_below HM1.out HBA.out (is_lt HM1.out)) 3
    simp only [List.getElem?_cons_zero, List.getElem?_cons_succ] at m3'
    rw [hw2] at m3'
    clear hw2
    go_wp2_with fail
    rw [← HW2.out]
    refine (rfind_c A cap l (ch (mw m)) (by unfold maxLen; omega) _ (HC1.out.keep HBA.out)).mono ?_
    rintro e w3 ⟨rfl, hb3⟩
    obtain ⟨r, hr⟩ : ∃ r, (fnd l (ch (mw m))).getD zr = r := ⟨_, rfl⟩
    obtain ⟨q, hq⟩ : ∃ q, (fnd l (ch (mw m))).isSome = q := ⟨_, rfl⟩
    have hst := HST.out
    rw [hr, hq] at hst
    rw [hr, hq, show rv r = .agg #[.int .i64 (ch r), .int .i64 (pa r), .string (ba (nm r)), .float .f64 (rk r)] from rfl]
    have HST2 := Lib.hid hst
    have hb13 : Below w1.heap.size w1 w3 := HBA.out.trans (hb3.mono HBA.out.size)
    have HS3 := Lib.hid (is_below HS2.out hb3 (is_lt HS2.out))
    have HB3 := Lib.hid hb13
    clear hb3 hr hq hst hb13 HST HS2 m0 m1 m2 m3 m4 m5 m3'
    have s7 := is_cell HS3.out 7
    have s8 := is_cell HS3.out 8
    have s9 := is_cell HS3.out 9
    have s10 := is_cell HS3.out 10
    have s11 := is_cell HS3.out 11
    simp only [List.getElem?_cons_zero, List.getElem?_cons_succ] at s7 s8 s9 s10 s11
    have f7 := is_free HS3.out 7
    have f8 := is_free HS3.out 8
    have f9 := is_free HS3.out 9
    have f10 := is_free HS3.out 10
    have f11 := is_free HS3.out 11
    obtain ⟨w4, hw4⟩ : ∃ w4, w4 = (((((w3.setCell ⟨w1.heap.size, 8, none⟩ (.int .i64 (ch r))).setCell ⟨w1.heap.size, 9, none⟩ (.int .i64 (pa r))).setCell ⟨w1.heap.size, 10, none⟩ (.string (ba (nm r)))).setCell ⟨w1.heap.size, 11, none⟩ (.float .f64 (rk r))).setCell ⟨w1.heap.size, 7, none⟩ (.bool q)) := ⟨_, rfl⟩
    have HSX := Lib.hid (show Is w4 w1.heap.size 64 [.int .i64 (mc m), .int .i64 (mr m), .int .i64 (pa (mw m)), .int .i64 (ch (mw m)), .string (ba (nm (mw m))), .float .f64 (rk (mw m)), .bool true, .bool q, .int .i64 (ch r), .int .i64 (pa r), .string (ba (nm r)), .float .f64 (rk r)] by rw [hw4]; exact is_set (is_set (is_set (is_set (is_set HS3.out 8 _) 9 _) 10 _) 11 _) 7 _)
    have hb4 : Below w1.heap.size w1 w4 := by
      rw [hw4]
      have hg : w1.heap.size ≤ w1.heap.size := Nat.le_refl _
      exact ((((HB3.out.setCell (p := ⟨w1.heap.size, 8, none⟩) hg _).setCell (p := ⟨w1.heap.size, 9, none⟩) hg _).setCell (p := ⟨w1.heap.size, 10, none⟩) hg _).setCell (p := ⟨w1.heap.size, 11, none⟩) hg _).setCell (p := ⟨w1.heap.size, 7, none⟩) hg _
    have HZX := Lib.hid (is_below HZ1.out hb4 (is_lt HZ1.out))
    have HBX := Lib.hid (HB1.out.trans (hb4.mono HB1.out.size))
    have HR4 := Lib.hid (HAT1.out.keep hb4)
    have HF4 := Lib.hid (HFR.out.keep hb4)
    have HW4 := Lib.hid hw4
    clear hb4 hw4
    go_wp2_with fail
    rw [← HW4.out]
    clear s7 s8 s9 s10 s11 f7 f8 f9 f10 f11 HS3 HB3 HW4
    have s0 := is_cell HSX.out 0
    have s1 := is_cell HSX.out 1
    have s2 := is_cell HSX.out 2
    have s3 := is_cell HSX.out 3
    have s4 := is_cell HSX.out 4
    have s5 := is_cell HSX.out 5
    have s6 := is_cell HSX.out 6
    have s7 := is_cell HSX.out 7
    have s8 := is_cell HSX.out 8
    have s9 := is_cell HSX.out 9
    have s10 := is_cell HSX.out 10
    have s11 := is_cell HSX.out 11
    have z0 := is_cell HZX.out 0
    have z1 := is_cell HZX.out 1
    have z2 := is_cell HZX.out 2
    have z3 := is_cell HZX.out 3
    have z4 := is_cell HZX.out 4
    have z5 := is_cell HZX.out 5
    have z6 := is_cell HZX.out 6
    have z7 := is_cell HZX.out 7
    have z8 := is_cell HZX.out 8
    have z9 := is_cell HZX.out 9
    have z10 := is_cell HZX.out 10
    have z11 := is_cell HZX.out 11
    simp only [List.getElem?_cons_zero, List.getElem?_cons_succ] at s0 s1 s2 s3 s4 s5 s6 s7 s8 s9 s10 s11 z0 z1 z2 z3 z4 z5 z6 z7 z8 z9 z10 z11
    have f0 := is_free HZX.out 0
    have f1 := is_free HZX.out 1
    have f2 := is_free HZX.out 2
    have f3 := is_free HZX.out 3
    have f4 := is_free HZX.out 4
    have f5 := is_free HZX.out 5
    have f6 := is_free HZX.out 6
    have f7 := is_free HZX.out 7
    have f8 := is_free HZX.out 8
    have f9 := is_free HZX.out 9
    have f10 := is_free HZX.out 10
    have f11 := is_free HZX.out 11
    go_wp2_with fail
    go_region
    clear s0 s1 s2 s3 s4 s5 s6 s7 s8 s9 s10 s11 z0 z1 z2 z3 z4 z5 z6 z7 z8 z9 z10 z11 f0 f1 f2 f3 f4 f5 f6 f7 f8 f9 f10 f11
    obtain ⟨w9, hw9⟩ : ∃ w9, w9 = ((((((((((((w4.setCell ⟨w.heap.size + 1, 0, none⟩ (.int .i64 (mc m))).setCell ⟨w.heap.size + 1, 1, none⟩ (.int .i64 (mr m))).setCell ⟨w.heap.size + 1, 2, none⟩ (.int .i64 (pa (mw m)))).setCell ⟨w.heap.size + 1, 3, none⟩ (.int .i64 (ch (mw m)))).setCell ⟨w.heap.size + 1, 4, none⟩ (.string (ba (nm (mw m))))).setCell ⟨w.heap.size + 1, 5, none⟩ (.float .f64 (rk (mw m)))).setCell ⟨w.heap.size + 1, 6, none⟩ (.bool true)).setCell ⟨w.heap.size + 1, 7, none⟩ (.bool q)).setCell ⟨w.heap.size + 1, 8, none⟩ (.int .i64 (ch r))).setCell ⟨w.heap.size + 1, 9, none⟩ (.int .i64 (pa r))).setCell ⟨w.heap.size + 1, 10, none⟩ (.string (ba (nm r)))).setCell ⟨w.heap.size + 1, 11, none⟩ (.float .f64 (rk r))) := ⟨_, rfl⟩
    have hI9 : Is w9 (w.heap.size + 1) 64 [.int .i64 (mc m), .int .i64 (mr m), .int .i64 (pa (mw m)), .int .i64 (ch (mw m)), .string (ba (nm (mw m))), .float .f64 (rk (mw m)), .bool true, .bool q, .int .i64 (ch r), .int .i64 (pa r), .string (ba (nm r)), .float .f64 (rk r)] := by rw [hw9]; exact set12_is HZX.out
    have hk9 : ∀ k, k ≠ w.heap.size + 1 → w9.heap[k]? = w4.heap[k]? := fun k hk => by rw [hw9]; exact set12_off k hk
    have hs9 : w9.heap.size = w4.heap.size := by rw [hw9]; exact set12_size
    have hb9 : Below w.heap.size w w9 := by rw [hw9]; exact set12_below HBX.out (by omega)
    rw [← hw9]
    clear hw9
    have j0 := is_cell hI9 0
    have j1 := is_cell hI9 1
    have j2 := is_cell hI9 2
    have j3 := is_cell hI9 3
    have j4 := is_cell hI9 4
    have j5 := is_cell hI9 5
    have j6 := is_cell hI9 6
    have j7 := is_cell hI9 7
    have j8 := is_cell hI9 8
    have j9 := is_cell hI9 9
    have j10 := is_cell hI9 10
    have j11 := is_cell hI9 11
    simp only [List.getElem?_cons_zero, List.getElem?_cons_succ] at j0 j1 j2 j3 j4 j5 j6 j7 j8 j9 j10 j11
    go_wp2_with fail
    refine bodyPost_ret (v := .tuple #[.slice A1 (doP l m).length cap1, .agg #[.int .i64 (mc m), .int .i64 (mr m), .int .i64 (pa (mw m)), .int .i64 (ch (mw m)), .string (ba (nm (mw m))), .float .f64 (rk (mw m)), .bool true, .bool q, .int .i64 (ch r), .int .i64 (pa r), .string (ba (nm r)), .float .f64 (rk r)]]) (by simp [results, Try.f59, go_sem, j0, j1, j2, j3, j4, j5, j6, j7, j8, j9, j10, j11]) rfl ?_
    refine ⟨A1, cap1, by rw [HST2.out]; rfl, at_two HC00.out HR4.out (.inr HFR.out.fresh) (by omega) (by have := HSZ.out; omega) hk9 hs9, HN1.out, hc1, hb9.drew, .inr ((HF4.out.same fun a ha => hk9 _ (by have h1 := (HF4.out a ha).1; have := HSZ.out; omega)).low (by have := HSZ.out; omega))⟩
end Go.Proofs.Ytfeopchghpihoaa
