/-
  The document's Tree (rows, and moves by their times), beside the program's; all moves that came to a Tree.
-/
import Derived.Test.YtfeopchghpihoaaJc
import Derived.Test.YtfeopchghpihoaaKz
import Derived.Test.YtfeopchghpihoaaUm
namespace Go.Proofs.Ytfeopchghpihoaa
open Go.RowKit Go.IntWalk
set_option maxRecDepth 100000
attribute [local go_sem] Oper.semAt_some

/-- cells that begin with a number do not lie in a block of slices -/
def NumHead (xs : List Value) : Prop := ∀ v, xs[0]? = some v → ∃ n, v = .int .i64 n
def AllSlices (vs : List Value) : Prop := ∀ v ∈ vs, ∃ a n c, v = .slice a n c
theorem tvs_head (l : List Rw) : NumHead (tvs l) := fun v hv => by
  cases l with
  | nil => cases hv
  | cons r l => exact ⟨ch r, by cases hv; rfl⟩
theorem mvs_head (l : List Mv) : NumHead (mvs l) := fun v hv => by
  cases l with
  | nil => cases hv
  | cons r l => exact ⟨mc r, by cases hv; rfl⟩
theorem pvs_head (l : List Sp) : NumHead (pvs l) := fun v hv => by
  cases l with
  | nil => cases hv
  | cons r l => exact ⟨mc (sm r), by cases hv; rfl⟩
theorem off_of {w : World} {g B : Nat} {t : TypeId} {vs xs : List Value} {A : Option Addr} (h : Is w g t vs) (hs : AllSlices vs) (hat : At w B A xs) (hx : NumHead xs) : xs = [] ∨ Off g A := by
  cases xs with
  | nil => exact .inl rfl
  | cons x t2 =>
    right
    intro a ha hg
    obtain ⟨n, rfl⟩ := hx x rfl
    obtain ⟨b, off, hA, _, hc⟩ := hat 0 _ rfl
    rw [ha] at hA
    cases hA
    simp only at hg
    subst hg
    rw [Nat.add_zero, is_cell h] at hc
    obtain ⟨a, n2, c, e⟩ := hs _ (List.mem_of_getElem? hc)
    cases e
theorem at_but2 {g : Nat} {w w' : World} {t : TypeId} {vs xs : List Value} {A : Option Addr} (h : At w w.heap.size A xs) (hb : But g w w') (hi : Is w g t vs) (hs : AllSlices vs) (hx : NumHead xs) : At w' w'.heap.size A xs := by
  rcases off_of hi hs h hx with rfl | ho
  · exact At.nil _ _ _
  · exact at_but h hb ho
theorem slices2 (a b : Option Addr) (n c m d : Nat) : AllSlices [.slice a n c, .slice b m d] := fun v hv => by
  simp only [List.mem_cons, List.not_mem_nil, or_false] at hv
  rcases hv with rfl | rfl <;> exact ⟨_, _, _, rfl⟩
theorem slices3 (a b e : Option Addr) (n c m d k f : Nat) : AllSlices [.slice a n c, .slice b m d, .slice e k f] := fun v hv => by
  simp only [List.mem_cons, List.not_mem_nil, or_false] at hv
  rcases hv with rfl | rfl | rfl <;> exact ⟨_, _, _, rfl⟩
theorem is_but {w w' : World} {g k : Nat} {t : TypeId} {l : List Value} (h : Is w k t l) (hb : But g w w') (hk : k ≠ g) : Is w' k t l := (hb.block k (is_lt h) hk).trans h

def DocL (w : World) (k : Nat) (B : List Rw) (L : List Mv) (A1 : Option Addr) (c1 : Nat) (A2 : Option Addr) (c2 : Nat) : Prop :=
  Is w k 31 [.slice A1 B.length c1, .slice A2 L.length c2] ∧ At w w.heap.size A1 (tvs B) ∧ (A1 = none → c1 = 0) ∧ B.length ≤ c1 ∧ At w w.heap.size A2 (mvs L) ∧ (A2 = none → c2 = 0) ∧ L.length ≤ c2
/-- the document's Tree at k holds the base B and the moves L -/
def DocAt (w : World) (k : Nat) (B : List Rw) (L : List Mv) : Prop := ∃ A1 c1 A2 c2, DocL w k B L A1 c1 A2 c2
theorem DocAt.keep {w w' : World} {k : Nat} {B : List Rw} {L : List Mv} (h : DocAt w k B L) (hb : Below w.heap.size w w') : DocAt w' k B L := by
  obtain ⟨A1, c1, A2, c2, hi, h1, n1, l1, h2, n2, l2⟩ := h
  exact ⟨A1, c1, A2, c2, is_below hi hb (is_lt hi), h1.keep hb, n1, l1, h2.keep hb, n2, l2⟩
theorem DocAt.but {w w' : World} {k g : Nat} {B B2 R : List Rw} {S : List Sp} {L : List Mv} (h : DocAt w k B L) (hb : But g w w') (ht : TreeAt w g B2 R S) (hk : k ≠ g) : DocAt w' k B L := by
  obtain ⟨A1, c1, A2, c2, hi, h1, n1, l1, h2, n2, l2⟩ := h
  obtain ⟨a1, d1, a2, d2, a3, d3, ti, -⟩ := ht
  exact ⟨A1, c1, A2, c2, is_but hi hb hk, at_but2 h1 hb ti (slices3 _ _ _ _ _ _ _ _ _) (tvs_head _), n1, l1, at_but2 h2 hb ti (slices3 _ _ _ _ _ _ _ _ _) (mvs_head _), n2, l2⟩
theorem Kept.but2 {w w' : World} {g k c n : Nat} {A : Option Addr} {t : TypeId} {vs xs : List Value} (h : Kept w g A c n xs) (hb : But k w w') (hi : Is w k t vs) (hs : AllSlices vs) (hx : NumHead xs) : Kept w' g A c n xs := ⟨at_but2 h.1 hb hi hs hx, h.2⟩
theorem TreeAt.but {w w' : World} {k g : Nat} {B B2 R : List Rw} {S : List Sp} {L : List Mv} (h : TreeAt w g B R S) (hb : But k w w') (hd : DocAt w k B2 L) (hk : g ≠ k) : TreeAt w' g B R S := by
  obtain ⟨A1, c1, A2, c2, A3, c3, hi, h1, h2, h3⟩ := h
  obtain ⟨a1, d1, a2, d2, di, -⟩ := hd
  exact ⟨A1, c1, A2, c2, A3, c3, is_but hi hb hk, h1.but2 hb di (slices2 _ _ _ _ _ _) (tvs_head _), h2.but2 hb di (slices2 _ _ _ _ _ _) (tvs_head _), h3.but2 hb di (slices2 _ _ _ _ _ _) (pvs_head _)⟩
theorem doc_new {w : World} {B : List Rw} {A1 : Option Addr} {c1 : Nat} (h1 : At w w.heap.size A1 (tvs B)) (n1 : A1 = none → c1 = 0) (l1 : B.length ≤ c1) : DocAt (w.alloc (.cells #[.slice A1 B.length c1, .slice none 0 0] 31)) w.heap.size B [] := by
  have hb : Below w.heap.size w (w.alloc (.cells #[.slice A1 B.length c1, .slice none 0 0] 31)) := (Below.refl _ _).alloc (Nat.le_refl _) _
  exact ⟨A1, c1, none, 0, is_new w 31 [.slice A1 B.length c1, .slice none 0 0], h1.keep hb, n1, l1, At.nil _ _ _, fun _ => rfl, Nat.le_refl _⟩
theorem doc_put {w : World} {k : Nat} {B : List Rw} {L N : List Mv} {A : Option Addr} {c : Nat} (h : DocAt w k B L) (ha : At w w.heap.size A (mvs N)) (hn : A = none → c = 0) (hc : N.length ≤ c) : DocAt (w.setCell ⟨k, 1, none⟩ (.slice A N.length c)) k B N := by
  obtain ⟨A1, c1, A2, c2, hi, h1, n1, l1, h2, n2, l2⟩ := h
  have hb : But k w (w.setCell ⟨k, 1, none⟩ (.slice A N.length c)) := (but_below k (Below.refl _ _)).set _
  exact ⟨A1, c1, A, c, is_set hi 1 _, at_but2 h1 hb hi (slices2 _ _ _ _ _ _) (tvs_head _), n1, l1, at_but2 ha hb hi (slices2 _ _ _ _ _ _) (mvs_head _), hn, hc⟩

set_option maxHeartbeats 4000000 in
theorem all16_c (A1 A2 : Option Addr) (c1 c2 : Nat) (B : List Rw) (ms : List Mv) (hB : B.length ≤ 1000) (hml : ms.length ≤ 1000) (hA1 : A1 = none → c1 = 0) (w : World) (h1 : At w w.heap.size A1 (tvs B)) (h2 : At w w.heap.size A2 (mvs ms)) :
    Calls Try.prog 24 #[.slice A1 B.length c1, .slice A2 ms.length c2] w fun e w' => ∃ g, e = .returned (.pointer (some ⟨g, 0, none⟩)) ∧ w.heap.size ≤ g ∧ TreeAt w' g B (allP B (uniM [] ms)) (stepsP B (uniM [] ms)) ∧ Below w.heap.size w w' := by
  have H2 := Lib.hid h2
  clear h2
  go_enter Try.func24, Try.ntmps24
  go_wp2_with fail
  refine (tnew_c A1 c1 B (by omega) hA1 w h1).mono ?_
  rintro e w1 ⟨g, rfl, hg, ht, hb1⟩
  have HT := Lib.hid ht
  have HG := Lib.hid hg
  have HB := Lib.hid hb1
  clear ht hg hb1
  go_wp2_with fail
  go_loopw [6] (fun i wr => ∃ k : Nat, i = .int .i64 (k : Int) ∧ k ≤ ms.length ∧ TreeAt wr g B (allP B (uniM [] (ms.take k))) (stepsP B (uniM [] (ms.take k))) ∧ Below w.heap.size w wr) (fun i _ => ms.length - (intOf i).toNat)
  case atStart => exact ⟨0, rfl, Nat.zero_le _, (show TreeAt w1 g B (allP B (uniM [] (ms.take 0))) (stepsP B (uniM [] (ms.take 0))) from HT.out), HB.out⟩
  case round =>
    obtain ⟨k, rfl, hk, ht, hbw⟩ := hrel
    have HTR := Lib.hid ht
    have HBW := Lib.hid hbw
    clear ht hbw
    by_cases hlt : k < ms.length
    · obtain ⟨m, hm⟩ := some_at hlt
      have hl := uniM_len (ms.take k) []
      rw [List.length_nil, List.length_take] at hl
      obtain ⟨b0, o0, rfl, -, x0, x1, x2, x3, x4, x5⟩ := move_cells (H2.out.keep HBW.out) hm
      have hk0 : (0 : Int) ≤ (k : Int) := by omega
      have hkl : (k : Int) < (ms.length : Int) := by omega
      have HST := Lib.hid (uniM_step (a := []) hm)
      have HADD := Lib.hid (tadd_c B (uniM [] (ms.take k)) m (by omega) (by omega) wr HTR.out)
      clear hm
      go_wp2_with fail
      refine HADD.out.mono ?_
      rintro e w3 ⟨rfl, ht3, hb3⟩
      rw [← HST.out] at ht3
      have HT3 := Lib.hid ht3
      have HB3 := Lib.hid (HBW.out.trans (hb3.below HBW.out.size HG.out))
      clear ht3 hb3 x0 x1 x2 x3 x4 x5
      go_wp2_with fail
      go_roundw
      case rel => exact ⟨k + 1, by go_num, by omega, HT3.out, HB3.out⟩
      case measure => simp only [intOf]; omega
    · obtain rfl : k = ms.length := by omega
      have ht := HTR.out
      rw [List.take_length] at ht
      have HTZ := Lib.hid ht
      clear ht
      go_wp2_with fail
      go_ret
      exact ⟨g, rfl, HG.out, HTZ.out, HBW.out⟩

theorem hold2 {p q : Addr} {u v : Value} {w1 W W' : World} (h : W.cell? p = some u ∧ W.cell? q = some v ∧ Below w1.heap.size w1 W) (hb : Below W.heap.size W W') : W'.cell? p = some u ∧ W'.cell? q = some v ∧ Below w1.heap.size w1 W' :=
  ⟨keep_cell hb h.1, keep_cell hb h.2.1, h.2.2.trans (hb.mono h.2.2.size)⟩
theorem hold2d {p q : Addr} {u v : Value} {w1 W : World} (h : W.cell? p = some u ∧ W.cell? q = some v ∧ Below w1.heap.size w1 W) : W.drew.cell? p = some u ∧ W.drew.cell? q = some v ∧ Below w1.heap.size w1 W.drew := ⟨h.1, h.2.1, h.2.2.drew⟩
theorem hold2s {p q : Addr} {u v : Value} {w1 : World} (h0 : w1.cell? p = some u) (h1 : w1.cell? q = some v) : w1.drew.cell? p = some u ∧ w1.drew.cell? q = some v ∧ Below w1.heap.size w1 w1.drew := ⟨h0, h1, (Below.refl _ _).drew⟩
theorem hold2b {p q : Addr} {u v : Value} {w1 W : World} (h : W.cell? p = some u ∧ W.cell? q = some v ∧ Below w1.heap.size w1 W) : Below w1.heap.size w1 W := h.2.2
set_option maxHeartbeats 2000000 in
theorem drows_c {k : Nat} {B : List Rw} {L : List Mv} (hl : B.length + L.length ≤ 10000) (w : World) (h : DocAt w k B L) :
    Calls Try.prog 16 #[.pointer (some ⟨k, 0, none⟩)] w fun e w' => ∃ A c, e = .returned (.slice A (allP B L).length c) ∧ At w' w'.heap.size A (tvs (allP B L)) ∧ Below w.heap.size w w' := by
  obtain ⟨A1, c1, A2, c2, hi, h1, n1, l1, h2, n2, l2⟩ := h
  have g0 : w.cell? ⟨k, 0, none⟩ = some (.slice A1 B.length c1) := is_cell hi 0
  have g1 : w.cell? ⟨k, 1, none⟩ = some (.slice A2 L.length c2) := is_cell hi 1
  have HRUN := Lib.hid (fun (W : World) (hb : Below w.heap.size w W) => rurun_c A1 A2 c1 c2 B L (by omega) n1 l1 (allP_rabove (by omega)) W (h1.keep hb) (h2.keep hb))
  clear hi h1 n1 l1 h2 n2 l2
  go_enter Try.func16, Try.ntmps16
  go_wp2_with fail
  go_region_held3 (fun w' => w'.cell? ⟨k, 0, none⟩ = some (.slice A1 B.length c1) ∧ w'.cell? ⟨k, 1, none⟩ = some (.slice A2 L.length c2) ∧ Below w.heap.size w w')
    (first
      | (exact hold2 (by assumption) hbn)
      | (exact hold2d (by assumption))
      | (exact hold2s g0 g1)
      | go_keep)
    (first
      | (go_at_call 39; refine (HRUN.out _ (hold2b (by assumption))).mono ?_; rintro e wa ⟨B3, d3, B4, d4, rfl, p3, -, -, p4, -, -, hbn⟩))
  have hbz : Below w.heap.size w wa := hold2b (by assumption)
  clear g0 g1
  go_wp2_with fail
  go_ret
  exact ⟨B3, d3, rfl, p3, hbz⟩
set_option maxHeartbeats 2000000 in
theorem dsteps_c {k : Nat} {B : List Rw} {L : List Mv} (hl : B.length + L.length ≤ 10000) (w : World) (h : DocAt w k B L) :
    Calls Try.prog 21 #[.pointer (some ⟨k, 0, none⟩)] w fun e w' => ∃ A c, e = .returned (.slice A (stepsP B L).length c) ∧ At w' w'.heap.size A (pvs (stepsP B L)) ∧ Below w.heap.size w w' := by
  obtain ⟨A1, c1, A2, c2, hi, h1, n1, l1, h2, n2, l2⟩ := h
  have g0 : w.cell? ⟨k, 0, none⟩ = some (.slice A1 B.length c1) := is_cell hi 0
  have g1 : w.cell? ⟨k, 1, none⟩ = some (.slice A2 L.length c2) := is_cell hi 1
  have HRUN := Lib.hid (fun (W : World) (hb : Below w.heap.size w W) => rurun_c A1 A2 c1 c2 B L (by omega) n1 l1 (allP_rabove (by omega)) W (h1.keep hb) (h2.keep hb))
  clear hi h1 n1 l1 h2 n2 l2
  go_enter Try.func21, Try.ntmps21
  go_wp2_with fail
  go_region_held3 (fun w' => w'.cell? ⟨k, 0, none⟩ = some (.slice A1 B.length c1) ∧ w'.cell? ⟨k, 1, none⟩ = some (.slice A2 L.length c2) ∧ Below w.heap.size w w')
    (first
      | (exact hold2 (by assumption) hbn)
      | (exact hold2d (by assumption))
      | (exact hold2s g0 g1)
      | go_keep)
    (first
      | (go_at_call 39; refine (HRUN.out _ (hold2b (by assumption))).mono ?_; rintro e wa ⟨B3, d3, B4, d4, rfl, p3, -, -, p4, -, -, hbn⟩))
  have hbz : Below w.heap.size w wa := hold2b (by assumption)
  clear g0 g1
  go_wp2_with fail
  go_ret
  exact ⟨B4, d4, rfl, p4, hbz⟩

theorem hold7 {k G : Nat} {v : Value} {m : Mv} {w1 W W' : World} (h : W.cell? ⟨k, 1, none⟩ = some v ∧ W.cell? ⟨G, 0, none⟩ = some (.int .i64 (mc m)) ∧ W.cell? ⟨G, 1, none⟩ = some (.int .i64 (mr m)) ∧ W.cell? ⟨G, 2, none⟩ = some (.int .i64 (pa (mw m))) ∧ W.cell? ⟨G, 3, none⟩ = some (.int .i64 (ch (mw m))) ∧ W.cell? ⟨G, 4, none⟩ = some (.string (ba (nm (mw m)))) ∧ W.cell? ⟨G, 5, none⟩ = some (.float .f64 (rk (mw m))) ∧ Below w1.heap.size w1 W) (hb : Below W.heap.size W W') : W'.cell? ⟨k, 1, none⟩ = some v ∧ W'.cell? ⟨G, 0, none⟩ = some (.int .i64 (mc m)) ∧ W'.cell? ⟨G, 1, none⟩ = some (.int .i64 (mr m)) ∧ W'.cell? ⟨G, 2, none⟩ = some (.int .i64 (pa (mw m))) ∧ W'.cell? ⟨G, 3, none⟩ = some (.int .i64 (ch (mw m))) ∧ W'.cell? ⟨G, 4, none⟩ = some (.string (ba (nm (mw m)))) ∧ W'.cell? ⟨G, 5, none⟩ = some (.float .f64 (rk (mw m))) ∧ Below w1.heap.size w1 W' := ⟨keep_cell hb h.1, hold6 h.2 hb⟩
theorem hold7d {k G : Nat} {v : Value} {m : Mv} {w1 W : World} (h : W.cell? ⟨k, 1, none⟩ = some v ∧ W.cell? ⟨G, 0, none⟩ = some (.int .i64 (mc m)) ∧ W.cell? ⟨G, 1, none⟩ = some (.int .i64 (mr m)) ∧ W.cell? ⟨G, 2, none⟩ = some (.int .i64 (pa (mw m))) ∧ W.cell? ⟨G, 3, none⟩ = some (.int .i64 (ch (mw m))) ∧ W.cell? ⟨G, 4, none⟩ = some (.string (ba (nm (mw m)))) ∧ W.cell? ⟨G, 5, none⟩ = some (.float .f64 (rk (mw m))) ∧ Below w1.heap.size w1 W) : W.drew.cell? ⟨k, 1, none⟩ = some v ∧ W.drew.cell? ⟨G, 0, none⟩ = some (.int .i64 (mc m)) ∧ W.drew.cell? ⟨G, 1, none⟩ = some (.int .i64 (mr m)) ∧ W.drew.cell? ⟨G, 2, none⟩ = some (.int .i64 (pa (mw m))) ∧ W.drew.cell? ⟨G, 3, none⟩ = some (.int .i64 (ch (mw m))) ∧ W.drew.cell? ⟨G, 4, none⟩ = some (.string (ba (nm (mw m)))) ∧ W.drew.cell? ⟨G, 5, none⟩ = some (.float .f64 (rk (mw m))) ∧ Below w1.heap.size w1 W.drew := ⟨h.1, hold6d h.2⟩
theorem hold7b {k G : Nat} {v : Value} {m : Mv} {w1 W : World} (h : W.cell? ⟨k, 1, none⟩ = some v ∧ W.cell? ⟨G, 0, none⟩ = some (.int .i64 (mc m)) ∧ W.cell? ⟨G, 1, none⟩ = some (.int .i64 (mr m)) ∧ W.cell? ⟨G, 2, none⟩ = some (.int .i64 (pa (mw m))) ∧ W.cell? ⟨G, 3, none⟩ = some (.int .i64 (ch (mw m))) ∧ W.cell? ⟨G, 4, none⟩ = some (.string (ba (nm (mw m)))) ∧ W.cell? ⟨G, 5, none⟩ = some (.float .f64 (rk (mw m))) ∧ Below w1.heap.size w1 W) : Below w1.heap.size w1 W := hold6b h.2

set_option maxHeartbeats 8000000 in
theorem dadd_c {k : Nat} (B : List Rw) (ms : List Mv) (m : Mv) (hml : ms.length ≤ 9000) (w : World) (ht : DocAt w k B ms) :
    Calls Try.prog 13 #[.pointer (some ⟨k, 0, none⟩), .agg #[.int .i64 (mc m), .int .i64 (mr m), .int .i64 (pa (mw m)), .int .i64 (ch (mw m)), .string (ba (nm (mw m))), .float .f64 (rk (mw m))]] w fun e w' =>
      e = .returned (addV (insM ms m)) ∧ DocAt w' k B (insM ms m).1 ∧ But k w w' := by
  obtain ⟨w0, hw0⟩ : ∃ w0, w0 = w.alloc (.cells #[.int .i64 (mc m), .int .i64 (mr m), .int .i64 (pa (mw m)), .int .i64 (ch (mw m)), .string (ba (nm (mw m))), .float .f64 (rk (mw m))] 38) := ⟨_, rfl⟩
  have hb0 : Below w.heap.size w w0 := by rw [hw0]; exact (Below.refl w.heap.size w).alloc (Nat.le_refl _) _
  have hI : Is w0 w.heap.size 38 [.int .i64 (mc m), .int .i64 (mr m), .int .i64 (pa (mw m)), .int .i64 (ch (mw m)), .string (ba (nm (mw m))), .float .f64 (rk (mw m))] := by rw [hw0]; exact is_new w 38 _
  obtain ⟨G, hG⟩ : ∃ G, G = w.heap.size := ⟨_, rfl⟩
  rw [← hG] at hI
  obtain ⟨p0, p1, p2, p3, p4, p5⟩ := box6 (m := m) hI
  have HT := Lib.hid (ht.keep hb0)
  obtain ⟨A1, c1, A2, c2, hi, h1, n1, l1, h2, n2, l2⟩ := ht.keep hb0
  have g1 : w0.cell? ⟨k, 1, none⟩ = some (.slice A2 ms.length c2) := is_cell hi 1
  have H2 := Lib.hid h2
  have N0 := Lib.hid n2
  have L0 := Lib.hid l2
  have HB0 := Lib.hid (but_below k hb0)
  have HG := Lib.hid hG
  have HW := Lib.hid hw0
  have hip := ins_parts ms m
  obtain ⟨o, ho⟩ : ∃ o, insM ms m = o := ⟨_, rfl⟩
  rw [ho] at hip ⊢
  have HO := Lib.hid ho
  have HIP := Lib.hid hip
  clear ht hb0 hI hG hw0 ho hip hi h1 n1 l1 h2 n2 l2
  go_enter Try.func13, Try.ntmps13
  go_wp2_with fail
  rw [← HW.out, ← HG.out]
  go_region_held3 (fun w' => w'.cell? ⟨k, 1, none⟩ = some (.slice A2 ms.length c2) ∧ w'.cell? ⟨G, 0, none⟩ = some (.int .i64 (mc m)) ∧ w'.cell? ⟨G, 1, none⟩ = some (.int .i64 (mr m)) ∧ w'.cell? ⟨G, 2, none⟩ = some (.int .i64 (pa (mw m))) ∧ w'.cell? ⟨G, 3, none⟩ = some (.int .i64 (ch (mw m))) ∧ w'.cell? ⟨G, 4, none⟩ = some (.string (ba (nm (mw m)))) ∧ w'.cell? ⟨G, 5, none⟩ = some (.float .f64 (rk (mw m))) ∧ Below w0.heap.size w0 w')
    (first
      | (exact hold7 (by assumption) hbn)
      | (exact hold7d (by assumption))
      | (exact ⟨g1, hold6s p0 p1 p2 p3 p4 p5⟩)
      | go_keep)
    (first
      | (go_at_call 37; refine (rminsert_c A2 c2 ms m (by omega) N0.out L0.out _ (H2.out.keep (hold7b (by assumption)))).mono ?_; rw [HO.out]; rintro e wb ⟨E2, f2, rfl, t2, n2, k2, hbn⟩))
  have hbz : Below w0.heap.size w0 wb := hold7b (by assumption)
  have HTb := Lib.hid (HT.out.keep hbz)
  have HBb := Lib.hid (HB0.out.trans (but_below k hbz))
  have T2 := Lib.hid t2
  have N2 := Lib.hid n2
  have K2 := Lib.hid k2
  clear hbz t2 n2 k2
  obtain ⟨ol, ok, ob⟩ := o
  have hip := HIP.out
  dsimp only at hip T2 N2 K2 ⊢
  rcases hip with ⟨rfl, rfl⟩ | ⟨rfl, h2, h3, h4⟩
  · clear HIP HO g1 p0 p1 p2 p3 p4 p5 HT HB0
    go_wp2_with fail
    refine bodyPost_ret (v := .tuple #[.int .i64 0, .bool false]) (by simp [results, Try.f13, go_sem]) rfl ?_
    exact ⟨rfl, HTb.out, HBb.out⟩
  · have HTc := Lib.hid (doc_put HTb.out T2.out N2.out K2.out)
    have HBc := Lib.hid (HBb.out.set (i := 1) (.slice E2 ol.length f2))
    have HWR := Lib.hid (show wrap64 (wrap64 ((ol.length : Int) - 1) - (ok : Int)) = (ol.length : Int) - 1 - (ok : Int) by unfold wrap64; omega)
    obtain ⟨b1, d1, b2, d2, hi, -⟩ := HTb.out
    have q1 := is_cell hi 1
    have q2 := is_free hi 1
    clear HIP HO h4 hi h2 h3 g1 p0 p1 p2 p3 p4 p5 HT HB0
    go_wp2_with fail
    rw [HWR.out]
    refine bodyPost_ret (v := .tuple #[.int .i64 ((ol.length : Int) - 1 - (ok : Int)), .bool true]) (by simp [results, Try.f13, go_sem]) rfl ?_
    exact ⟨rfl, HTc.out, HBc.out⟩
end Go.Proofs.Ytfeopchghpihoaa
