/-
  The next time: the program's, and the document's.
-/
import Derived.Test.YtbhejaokkkggjaaAj
import Derived.Deep.RegionHeldLaw
namespace Go.Proofs.Ytbhejaokkkggjaa
open Go.RowKit Go.IntWalk
set_option maxRecDepth 100000
attribute [local go_sem] Oper.semAt_some

/-- the greatest of numbers, and n -/
def topI (n : Int) (l : List Int) : Int := l.foldl max n
theorem topI_take {n : Int} {l : List Int} {k : Nat} {x : Int} (h : l[k]? = some x) : topI n (l.take (k + 1)) = max (topI n (l.take k)) x := by
  unfold topI
  rw [List.take_add_one, h, List.foldl_append]; rfl
theorem topI_max : ∀ (l : List Int) (n m : Int), topI (max n m) l = max (topI n l) m
  | [], _, _ => rfl
  | x :: l, n, m => by
    show topI (max (max n m) x) l = max (topI (max n x) l) m
    rw [show max (max n m) x = max (max n x) m by omega, topI_max l]
theorem topI_app (n : Int) (l : List Int) (x : Int) : topI n (l ++ [x]) = max (topI n l) x := by unfold topI; rw [List.foldl_append]; rfl
theorem topI_ge (l : List Int) : ∀ n, n ≤ topI n l := fun n => by
  induction l generalizing n with
  | nil => exact Int.le_refl _
  | cons x l ih => have := ih (max n x); show n ≤ topI (max n x) l; omega
theorem topI_mem {l : List Int} {x : Int} (h : x ∈ l) : ∀ n, x ≤ topI n l := fun n => by
  induction l generalizing n with
  | nil => cases h
  | cons y l ih =>
    rcases List.mem_cons.1 h with rfl | h
    · have := topI_ge l (max n x); show x ≤ topI (max n x) l; omega
    · exact ih h (max n y)
theorem made_ints (n : Nat) : (madeCells (Value.int .i64 0).cells (n * 1)).toList = ivs (List.replicate n 0) := by
  rw [Nat.mul_one]
  refine List.ext_getElem? fun j => ?_
  by_cases hj : j < n
  · unfold madeCells
    rw [Array.getElem?_toList, Array.getElem?_map, Array.getElem?_eq_getElem (by simpa using hj)]
    simp [ivs, hj, Value.cells, Nat.mod_one]
  · rw [List.getElem?_eq_none (by simp [madeCells]; omega), List.getElem?_eq_none (by simp [ivs]; omega)]
theorem fillI {v : List Mk} {k : Nat} {m : Mk} (h : v[k]? = some m) : (ivs ((v.take k).map kc ++ List.replicate (v.length - k) 0)).set k (.int .i64 (kc m)) = ivs ((v.take (k + 1)).map kc ++ List.replicate (v.length - (k + 1)) 0) := by
  have hk := (List.getElem?_eq_some_iff.1 h).1
  have e : v.length - k = (v.length - (k + 1)) + 1 := by omega
  unfold ivs
  rw [← List.map_set, e, List.replicate_succ, List.take_add_one, h, List.set_append_right _ _ (by simp; omega)]
  simp [show k - min k v.length = 0 by omega]

set_option maxHeartbeats 4000000 in
theorem kcounters_c (A : Option Addr) (cap : Nat) (v : List Mk) (hl : v.length ≤ 100000) (w : World) (hc : At w w.heap.size A (kvs v)) :
    Calls Try.prog 73 #[.slice A v.length cap] w fun e w' => ∃ B cp, e = .returned (.slice B v.length cp) ∧ w'.ownsRow w.heap.size 3 1 (.slice B v.length cp) v.length (ivs (v.map kc)) ∧ Below w.heap.size w w' := by
  obtain ⟨i0, hi, hz0, hz1, hz2⟩ := info_parts Try.info3
  have HC := Lib.hid hc
  have hbx : i0.bytes * v.length ≤ 281474976710656 := by rw [hz2]; omega
  have hmx : v.length ≤ maxLen := by unfold maxLen; omega
  clear hc
  go_enter Try.func73, Try.ntmps73
  go_wp2_with (at_make; refine wpList_make_full _ rfl _ _ 47 rfl w.heap.size 3 i0 _ 1 Try.underlying47 hi hz0 hz1 .i64 .i64 _ _ v.length rfl rfl rfl rfl hbx hmx (Nat.le_refl _) ?_; intro w1 hown1 hgrow1)
  rw [made_ints] at hown1
  have HO1 := Lib.hid hown1
  have HG1 := Lib.hid ((Below.refl w.heap.size w).grown hgrow1 (Nat.le_refl _) (fun k hk => by cases hk))
  clear hown1 hgrow1
  go_wp2_with fail
  go_loopw [11] (fun i wr => ∃ k : Nat, i = .int .i64 (k : Int) ∧ k ≤ v.length ∧ wr.ownsRow w.heap.size 3 1 (.slice (some ⟨w.heap.size, 0, none⟩) v.length v.length) v.length (ivs ((v.take k).map kc ++ List.replicate (v.length - k) 0)) ∧ Below w.heap.size w wr) (fun i _ => v.length - (intOf i).toNat)
  case atStart => exact ⟨0, rfl, Nat.zero_le _, by simpa using HO1.out, HG1.out⟩
  case round =>
    obtain ⟨k, rfl, hk, hown, hbw⟩ := hrel
    have HOW := Lib.hid hown
    have HBW := Lib.hid hbw
    clear hown hbw
    by_cases hlt : k < v.length
    · obtain ⟨m, hm⟩ := some_at hlt
      obtain ⟨b0, o0, rfl, hb0, c0, c1⟩ := mark_cells (HC.out.below HBW.out) hm
      have hki : (0 : Int) ≤ (k : Int) := by omega
      have hkl : (k : Int) < (v.length : Int) := by omega
      have HX := Lib.hid hm
      obtain ⟨W, hW⟩ : ∃ W, W = wr.alloc (.cells #[.int .i64 (kr m), .int .i64 (kc m)] 70) := ⟨_, rfl⟩
      have hbr : Below wr.heap.size wr W := by rw [hW]; exact (Below.refl _ _).alloc (Nat.le_refl _) _
      have hI : Is W wr.heap.size 70 [.int .i64 (kr m), .int .i64 (kc m)] := by rw [hW]; exact is_new wr 70 _
      obtain ⟨G, hG⟩ : ∃ G, G = wr.heap.size := ⟨_, rfl⟩
      rw [← hG] at hI
      have q1 : W.cell? ⟨G, 1, none⟩ = some (.int .i64 (kc m)) := is_cell hI 1
      have hown2 := below_ownK HOW.out hbr
      obtain ⟨g, c2', hv, hg, -, -, hfz, hcl⟩ := own_some hown2 (show 0 < v.length by omega)
      cases hv
      have hlen : ((v.take k).map kc ++ List.replicate (v.length - k) 0).length = v.length := by simp; omega
      obtain ⟨y, hy⟩ := some_at (show k < ((v.take k).map kc ++ List.replicate (v.length - k) 0).length by rw [hlen]; exact hlt)
      have d0 := hcl _ _ (ivs_at hy)
      have f0 := hfz k
      have hset := own_setK hown2 (.int .i64 (kc m)) (i := k)
      rw [fillI hm] at hset
      have HS := Lib.hid hset
      have HBZ := Lib.hid ((HBW.out.trans (hbr.mono HBW.out.size)).setCell (p := ⟨w.heap.size, k, none⟩) (Nat.le_refl _) (.int .i64 (kc m)))
      have HWW := Lib.hid hW
      have HGG := Lib.hid hG
      have hmx2 : G ≠ w.heap.size ∨ True := .inr trivial
      clear hm hown2 hset hcl hfz hy hlen hbr hI hW hG
      rw [HWW.out, HGG.out] at q1
      rw [HWW.out] at d0 f0
      go_wp2_with fail
      rw [← HWW.out]
      go_roundw
      case rel => exact ⟨k + 1, by go_num, by omega, HS.out, HBZ.out⟩
      case measure => simp only [intOf]; omega
    · obtain rfl : k = v.length := by omega
      go_wp2_with fail
      go_ret
      have h := HOW.out
      rw [List.take_length, Nat.sub_self, List.replicate_zero, List.append_nil] at h
      exact ⟨_, _, rfl, h, HBW.out⟩

set_option maxHeartbeats 2000000 in
theorem kgreatest_c (A : Option Addr) (cap : Nat) (l : List Int) (hl : l.length ≤ maxLen) (w : World) (hc : At w w.heap.size A (ivs l)) :
    Calls Try.prog 72 #[.slice A l.length cap] w fun e w' => e = .returned (.int .i64 (topI 0 l)) ∧ w = w' := by
  unfold maxLen at hl
  have HC := Lib.hid hc
  clear hc
  go_enter Try.func72, Try.ntmps72
  go_wp2_with fail
  go_loopw [3, 8] (fun n i wr => ∃ k : Nat, i = .int .i64 (k : Int) ∧ k ≤ l.length ∧ n = .int .i64 (topI 0 (l.take k)) ∧ wr = w) (fun _ i _ => l.length - (intOf i).toNat)
  case atStart => exact ⟨0, rfl, Nat.zero_le _, rfl, rfl⟩
  case round =>
    obtain ⟨k, rfl, hk, rfl, rfl⟩ := hrel
    by_cases hlt : k < l.length
    · obtain ⟨x, hx⟩ := some_at hlt
      obtain ⟨b0, o0, rfl, hb0, c0⟩ := HC.out k _ (ivs_at hx)
      have hki : (0 : Int) ≤ (k : Int) := by omega
      have hkl : (k : Int) < (l.length : Int) := by omega
      have HT := Lib.hid (topI_take (n := 0) hx)
      obtain ⟨z, hz⟩ : ∃ z, topI 0 (l.take k) = z := ⟨_, rfl⟩
      rw [hz] at HT ⊢
      clear hx hz
      go_wp2_with fail
      go_roundw
      case rel => exact ⟨k + 1, by go_num, by omega, by rw [HT.out]; congr 1; split <;> omega, by first | rfl | trivial⟩
      case measure => simp only [intOf]; omega
    · obtain rfl : k = l.length := by omega
      rw [List.take_length]
      go_wp2_with fail
      go_ret
      exact ⟨rfl, rfl⟩

/-- the next time, told -/
def nextV (n r : Int) : Value := if 4611686018427387903 ≤ n ∨ r < 1 ∨ 255 < r then .tuple #[.agg #[.int .i64 0, .int .i64 0], .bool false] else .tuple #[.agg #[.int .i64 (n + 1), .int .i64 r], .bool true]
def nextN (v : List Mk) (f : Int) : Int := topI 0 (v.map kc ++ [f])
theorem int_one (l : List Int) (x : Int) : ivs (l ++ [x]) = ivs l ++ [.int .i64 x] := by simp [ivs]
theorem cell1_new (w : World) (v : Value) (t : TypeId) : ∀ j u, [v][j]? = some u → (w.alloc (.cells #[v] t)).cell? ((⟨w.heap.size, 0, none⟩ : Addr).add j) = some u := by
  intro j u hu
  rw [Addr.add_lit, Nat.zero_add]
  exact (is_cell (is_new w t [v]) j).trans hu
theorem cell1_keep {W W' : World} {v : Value} {t : TypeId} (h : Below (W.alloc (.cells #[v] t)).drew.heap.size (W.alloc (.cells #[v] t)).drew W') : ∀ j u, [v][j]? = some u → W'.cell? ((⟨W.heap.size, 0, none⟩ : Addr).add j) = some u := by
  intro j u hu
  have h1 : (W.alloc (.cells #[v] t)).drew.cell? ((⟨W.heap.size, 0, none⟩ : Addr).add j) = some u := cell1_new W v t j u hu
  rw [Addr.add_lit] at h1 ⊢
  exact keep_cell h h1
theorem sMakeB {w0 w1 : World} {p : Addr} {v : Value} {o : Obj} (h : w0.cell? p = some v) (hp : p.block < w0.heap.size) (hb : Below w0.heap.size (w0.alloc o).drew w1) : w1.cell? p = some v ∧ Below w0.heap.size w0 w1 :=
  have hX : Below w0.heap.size w0 (w0.alloc o).drew := ((Below.refl _ _).alloc (Nat.le_refl _) o).drew
  ⟨((hX.trans hb).cell hp).trans h, hX.trans hb⟩
theorem sCell1 {p : Addr} {v : Value} {w w' : World} (h : w'.cell? p = some v ∧ Below w.heap.size w w') : Below w.heap.size w w' := h.2

theorem kgreatest_k {B n : Nat} {A : Option Addr} {cap : Nat} {v : List Mk} {c N : Int} {W : World} (h : W.ownsRow B 3 1 (.slice A n cap) n (ivs (v.map kc) ++ [.int .i64 c])) (hN : topI 0 (v.map kc ++ [c]) = N) (hn : n ≤ 60000) :
    Calls Try.prog 72 #[.slice A n cap] W fun e w' => e = .returned (.int .i64 N) ∧ W = w' := by
  subst hN
  have hl := h.1
  obtain ⟨A', c', hv, ha, -, -⟩ := own_at h
  cases hv
  rw [← int_one] at ha
  have hnl : n = (v.map kc ++ [c]).length := by
    rw [← int_one] at hl
    simp [ivs] at hl ⊢
    omega
  subst hnl
  exact kgreatest_c A cap _ (by unfold maxLen; omega) W ha
set_option maxHeartbeats 8000000 in
theorem knext_c (A : Option Addr) (cap : Nat) (v : List Mk) (c r r2 : Int) (hl : v.length ≤ 50000) (w : World) (hc : At w w.heap.size A (kvs v)) :
    Calls Try.prog 38 #[.slice A v.length cap, .agg #[.int .i64 c, .int .i64 r2], .int .i64 r] w fun e w' => e = .returned (nextV (nextN v c) r) ∧ Below w.heap.size w w' := by
  obtain ⟨i0, hi, hz0, hz1, hz2⟩ := info_parts Try.info3
  obtain ⟨w0, hw0⟩ : ∃ w0, w0 = (w.alloc (.cells #[.int .i64 c, .int .i64 r2] 35)).alloc (.cells #[.int .i64 0, .int .i64 0] 35) := ⟨_, rfl⟩
  have hb0 : Below w.heap.size w w0 := by rw [hw0]; exact ((Below.refl _ _).alloc (Nat.le_refl _) _).alloc (by simp) _
  have hI0 : Is (w.alloc (.cells #[.int .i64 c, .int .i64 r2] 35)) w.heap.size 35 [.int .i64 c, .int .i64 r2] := is_new w 35 _
  have t0 : w0.cell? ⟨w.heap.size, 0, none⟩ = some (.int .i64 c) := by rw [hw0]; exact keep_cell ((Below.refl _ _).alloc (Nat.le_refl _) _) (is_cell hI0 0)
  have hI1 : Is w0 (w.heap.size + 1) 35 [.int .i64 0, .int .i64 0] := by
    have := is_new (w.alloc (.cells #[.int .i64 c, .int .i64 r2] 35)) 35 [.int .i64 0, .int .i64 0]
    rw [World.size_alloc] at this
    rw [hw0]; exact this
  have HC := Lib.hid (hc.keep hb0)
  have HW := Lib.hid hw0
  have HB0 := Lib.hid hb0
  have HI1 := Lib.hid hI1
  have hGl : w.heap.size < w0.heap.size := by rw [hw0]; simp; omega
  have hnn : 0 ≤ nextN v c := topI_ge _ 0
  have HNN := Lib.hid (show topI 0 (v.map kc ++ [c]) = nextN v c from rfl)
  obtain ⟨n, hn⟩ : ∃ n, nextN v c = n := ⟨_, rfl⟩
  rw [hn] at hnn HNN ⊢
  have HC1 := Lib.hid hnn
  clear hw0 hb0 hI0 hI1 hc hn hnn
  go_enter Try.func38, Try.ntmps38
  go_wp2_with fail
  rw [← HW.out]
  go_region_held_law (fun w' => w'.cell? ⟨w.heap.size, 0, none⟩ = some (.int .i64 c) ∧ Below w0.heap.size w0 w')
    (first
      | (exact sKeep hGl (by assumption) hbn)
      | (exact hsw)
      | (exact sAlloc hGl (Nat.le_refl _) (by assumption) _)
      | (exact sAllocD hGl (Nat.le_refl _) (by assumption) _)
      | (exact ⟨t0, (Below.refl _ _).drew⟩)
      | go_keep)
    (first
      | (go_at_call 73; refine (kcounters_c A cap v (by omega) _ (HC.out.keep (sCell1 (by assumption)))).mono ?_; rintro e w1 ⟨E1, f1, rfl, hown1, hbx⟩; have hcx := cell1_keep hbx; have hsw := sMakeB (o := .cells #[.int .i64 c] 3) t0 hGl (hbx.mono (show w0.heap.size ≤ _ by simp)); have hbn := hbx)
      | (go_at_call 73; refine (kcounters_c A cap v (by omega) _ (HC.out.keep (sCell1 (by assumption)))).mono ?_; rintro e w1 ⟨E1, f1, rfl, hown1, hbn⟩)
      | (refine step_append_own rfl _ _ 47 rfl w0.heap.size 3 i0 (.int .i64 0) 1 8 Try.underlying47 hi hz0 hz1 hz2 rfl (by decide) (.slice E1 v.length f1) v.length (ivs (v.map kc)) rfl (hown1.alloc (.cells #[.int .i64 c] 3)) ⟨w1.heap.size, 0, none⟩ 1 1 [.int .i64 c] rfl rfl (cell1_new w1 _ _) (by simp [Value.oneCell']) (by unfold maxLen; omega) (by omega) (Nat.le_trans hbn.size (by simp)) ?_; intro v2 w2 hown2 hgrow2; have hbn := below_own2 (Below.refl _ _) (Nat.le_trans hbn.size (by simp)) (hown1.alloc (.cells #[.int .i64 c] 3)) hgrow2; obtain ⟨A2, c2, rfl, -, -, -⟩ := own_at hown2)
      | (refine step_append_own rfl _ _ 47 rfl w0.heap.size 3 i0 (.int .i64 0) 1 8 Try.underlying47 hi hz0 hz1 hz2 rfl (by decide) (.slice E1 v.length f1) v.length (ivs (v.map kc)) rfl (own_lowK hown1 (by simp)) ⟨w0.heap.size, 0, none⟩ 1 1 [.int .i64 c] rfl rfl hcx (by simp [Value.oneCell']) (by unfold maxLen; omega) (by omega) hsw.2.size ?_; intro v2 w2 hown2 hgrow2; have hbn := below_own2 (Below.refl _ _) hsw.2.size (own_lowK hown1 (by simp)) hgrow2; obtain ⟨A2, c2, rfl, -, -, -⟩ := own_at hown2)
      | (go_at_call 72; refine (kgreatest_k hown2 HNN.out (by omega)).mono ?_; rintro e w3 ⟨rfl, rfl⟩; have hbn := Below.refl w2.heap.size w2))
  all_goals
    have hbw : Below w0.heap.size w0 w2 := sBelow (by assumption)
    have hI2 := is_below HI1.out hbw (is_lt HI1.out)
    have hbz := HB0.out.trans (hbw.mono HB0.out.size)
    have HBZ := Lib.hid hbz
    have HI2 := Lib.hid hI2
    have u0 : w2.cell? ⟨w.heap.size + 1, 0, none⟩ = some (.int .i64 0) := is_cell hI2 0
    have u1 : w2.cell? ⟨w.heap.size + 1, 1, none⟩ = some (.int .i64 0) := is_cell hI2 1
    have k0 := is_free hI2 0
    have k1 := is_free hI2 1
    have k1b : (w2.setCell ⟨w.heap.size + 1, 0, none⟩ (.int .i64 (n + 1))).frozen? ⟨w.heap.size + 1, 1, none⟩ = false := is_free (is_set hI2 0 _) 1
    have k1c : (w2.setCell ⟨w.heap.size + 1, 0, none⟩ (.int .i64 0)).frozen? ⟨w.heap.size + 1, 1, none⟩ = false := is_free (is_set hI2 0 _) 1
    have hn0 := HC1.out
    clear hown1 hown2 hgrow2 hbn hbw hI2 hbz t0
    by_cases g1 : 4611686018427387903 ≤ n
    · have e1 : decide (4611686018427387903 ≤ n) = true := decide_eq_true g1
      have hz := Lib.hid ((HBZ.out.setCell (p := ⟨w.heap.size + 1, 0, none⟩) (Nat.le_succ _) (.int .i64 0)).setCell (p := ⟨w.heap.size + 1, 1, none⟩) (Nat.le_succ _) (.int .i64 0))
      have z0 : (w2.setCell ⟨w.heap.size + 1, 0, none⟩ (.int .i64 0)).cell? ⟨w.heap.size + 1, 0, none⟩ = some (.int .i64 0) := is_cell (is_set HI2.out 0 (.int .i64 0)) 0
      have z1 : ((w2.setCell ⟨w.heap.size + 1, 0, none⟩ (.int .i64 0)).setCell ⟨w.heap.size + 1, 1, none⟩ (.int .i64 0)).cell? ⟨w.heap.size + 1, 1, none⟩ = some (.int .i64 0) := is_cell (is_set (is_set HI2.out 0 (.int .i64 0)) 1 (.int .i64 0)) 1
      go_wp2_with fail
      refine bodyPost_ret (v := .tuple #[.agg #[.int .i64 0, .int .i64 0], .bool false]) (by simp [results, Try.f38, go_sem, z0, z1]) rfl ?_
      exact ⟨by unfold nextV; rw [if_pos (.inl g1)], hz.out⟩
    have e1 : decide (4611686018427387903 ≤ n) = false := decide_eq_false g1
    by_cases g2 : r < 1
    · have e2 : decide (r < 1) = true := decide_eq_true g2
      have hz := Lib.hid ((HBZ.out.setCell (p := ⟨w.heap.size + 1, 0, none⟩) (Nat.le_succ _) (.int .i64 0)).setCell (p := ⟨w.heap.size + 1, 1, none⟩) (Nat.le_succ _) (.int .i64 0))
      have z0 : (w2.setCell ⟨w.heap.size + 1, 0, none⟩ (.int .i64 0)).cell? ⟨w.heap.size + 1, 0, none⟩ = some (.int .i64 0) := is_cell (is_set HI2.out 0 (.int .i64 0)) 0
      have z1 : ((w2.setCell ⟨w.heap.size + 1, 0, none⟩ (.int .i64 0)).setCell ⟨w.heap.size + 1, 1, none⟩ (.int .i64 0)).cell? ⟨w.heap.size + 1, 1, none⟩ = some (.int .i64 0) := is_cell (is_set (is_set HI2.out 0 (.int .i64 0)) 1 (.int .i64 0)) 1
      go_wp2_with fail
      refine bodyPost_ret (v := .tuple #[.agg #[.int .i64 0, .int .i64 0], .bool false]) (by simp [results, Try.f38, go_sem, z0, z1]) rfl ?_
      exact ⟨by unfold nextV; rw [if_pos (.inr (.inl g2))], hz.out⟩
    have e2 : decide (r < 1) = false := decide_eq_false g2
    by_cases g3 : 255 < r
    · have e3 : decide (255 < r) = true := decide_eq_true g3
      have hz := Lib.hid ((HBZ.out.setCell (p := ⟨w.heap.size + 1, 0, none⟩) (Nat.le_succ _) (.int .i64 0)).setCell (p := ⟨w.heap.size + 1, 1, none⟩) (Nat.le_succ _) (.int .i64 0))
      have z0 : (w2.setCell ⟨w.heap.size + 1, 0, none⟩ (.int .i64 0)).cell? ⟨w.heap.size + 1, 0, none⟩ = some (.int .i64 0) := is_cell (is_set HI2.out 0 (.int .i64 0)) 0
      have z1 : ((w2.setCell ⟨w.heap.size + 1, 0, none⟩ (.int .i64 0)).setCell ⟨w.heap.size + 1, 1, none⟩ (.int .i64 0)).cell? ⟨w.heap.size + 1, 1, none⟩ = some (.int .i64 0) := is_cell (is_set (is_set HI2.out 0 (.int .i64 0)) 1 (.int .i64 0)) 1
      go_wp2_with fail
      refine bodyPost_ret (v := .tuple #[.agg #[.int .i64 0, .int .i64 0], .bool false]) (by simp [results, Try.f38, go_sem, z0, z1]) rfl ?_
      exact ⟨by unfold nextV; rw [if_pos (.inr (.inr g3))], hz.out⟩
    have e3 : decide (255 < r) = false := decide_eq_false g3
    have hwr : IntKind.i64.wrap (n + 1) = n + 1 := by rw [IntKind.wrap_i64]; omega
    have hz := Lib.hid ((HBZ.out.setCell (p := ⟨w.heap.size + 1, 0, none⟩) (Nat.le_succ _) (.int .i64 (n + 1))).setCell (p := ⟨w.heap.size + 1, 1, none⟩) (Nat.le_succ _) (.int .i64 r))
    have z0 : (w2.setCell ⟨w.heap.size + 1, 0, none⟩ (.int .i64 (n + 1))).cell? ⟨w.heap.size + 1, 0, none⟩ = some (.int .i64 (n + 1)) := is_cell (is_set HI2.out 0 (.int .i64 (n + 1))) 0
    have z1 : ((w2.setCell ⟨w.heap.size + 1, 0, none⟩ (.int .i64 (n + 1))).setCell ⟨w.heap.size + 1, 1, none⟩ (.int .i64 r)).cell? ⟨w.heap.size + 1, 1, none⟩ = some (.int .i64 r) := is_cell (is_set (is_set HI2.out 0 (.int .i64 (n + 1))) 1 (.int .i64 r)) 1
    go_wp2_with fail
    refine bodyPost_ret (v := .tuple #[.agg #[.int .i64 (n + 1), .int .i64 r], .bool true]) (by simp [results, Try.f38, go_sem, z0, z1]) rfl ?_
    exact ⟨by unfold nextV; rw [if_neg (by omega)], hz.out⟩

set_option maxHeartbeats 8000000 in
theorem rknext_c (A : Option Addr) (cap : Nat) (v : List Mk) (c r r2 : Int) (hl : v.length ≤ 50000) (w : World) (hc : At w w.heap.size A (kvs v)) :
    Calls Try.prog 39 #[.slice A v.length cap, .agg #[.int .i64 c, .int .i64 r2], .int .i64 r] w fun e w' => e = .returned (nextV (nextN v c) r) ∧ Below w.heap.size w w' := by
  obtain ⟨w0, hw0⟩ : ∃ w0, w0 = (w.alloc (.cells #[.int .i64 c, .int .i64 r2] 35)).alloc (.cells #[.int .i64 0, .int .i64 0] 35) := ⟨_, rfl⟩
  have hb0 : Below w.heap.size w w0 := by rw [hw0]; exact ((Below.refl _ _).alloc (Nat.le_refl _) _).alloc (by simp) _
  have hI0 : Is (w.alloc (.cells #[.int .i64 c, .int .i64 r2] 35)) w.heap.size 35 [.int .i64 c, .int .i64 r2] := is_new w 35 _
  have t0 : w0.cell? ⟨w.heap.size, 0, none⟩ = some (.int .i64 c) := by rw [hw0]; exact keep_cell ((Below.refl _ _).alloc (Nat.le_refl _) _) (is_cell hI0 0)
  have hI2 : Is w0 (w.heap.size + 1) 35 [.int .i64 0, .int .i64 0] := by
    have := is_new (w.alloc (.cells #[.int .i64 c, .int .i64 r2] 35)) 35 [.int .i64 0, .int .i64 0]
    rw [World.size_alloc] at this
    rw [hw0]; exact this
  have HC := Lib.hid (hc.keep hb0)
  have HW := Lib.hid hw0
  have HBZ := Lib.hid hb0
  have HI2 := Lib.hid hI2
  have hnn : 0 ≤ nextN v c := topI_ge _ 0
  have hnx : nextN v c = topI (max 0 c) (v.map kc) := by
    unfold nextN
    rw [topI_app, topI_max]
  have u0 : w0.cell? ⟨w.heap.size + 1, 0, none⟩ = some (.int .i64 0) := is_cell hI2 0
  have u1 : w0.cell? ⟨w.heap.size + 1, 1, none⟩ = some (.int .i64 0) := is_cell hI2 1
  have k0 := is_free hI2 0
  have k1 := is_free hI2 1
  have k1b : ∀ z, (w0.setCell ⟨w.heap.size + 1, 0, none⟩ (.int .i64 z)).frozen? ⟨w.heap.size + 1, 1, none⟩ = false := fun z => is_free (is_set hI2 0 _) 1
  obtain ⟨n, hn⟩ : ∃ n, nextN v c = n := ⟨_, rfl⟩
  rw [hn] at hnn hnx ⊢
  have HC1 := Lib.hid hnn
  have HNX := Lib.hid hnx
  have hmx : (if (0 : Int) < c then c else 0) = max 0 c := by split <;> omega
  have HMX := Lib.hid hmx
  rw [hw0] at t0
  clear hw0 hb0 hI0 hI2 hc hn hnn hnx hmx
  go_enter Try.func39, Try.ntmps39
  go_wp2_with fail
  all_goals
    rw [← HW.out]
    go_loopw [8, 9] (fun z i wr => ∃ k : Nat, i = .int .i64 (k : Int) ∧ k ≤ v.length ∧ z = .int .i64 (topI (max 0 c) ((v.map kc).take k)) ∧ wr = w0) (fun _ i _ => v.length - (intOf i).toNat)
    case atStart => exact ⟨0, rfl, Nat.zero_le _, by show _ = Value.int .i64 (max 0 c); congr 1; omega, rfl⟩
    case round =>
      obtain ⟨k, rfl, hk, rfl, rfl⟩ := hrel
      by_cases hlt : k < v.length
      · obtain ⟨x, hx⟩ := some_at hlt
        obtain ⟨b0, o0, rfl, hb0, c0, c1⟩ := mark_cells HC.out hx
        have hki : (0 : Int) ≤ (k : Int) := by omega
        have hkl : (k : Int) < (v.length : Int) := by omega
        have hxk : (v.map kc)[k]? = some (kc x) := by rw [List.getElem?_map, hx]; rfl
        have HT := Lib.hid (topI_take (n := max 0 c) hxk)
        obtain ⟨z, hz⟩ : ∃ z, topI (max 0 c) ((v.map kc).take k) = z := ⟨_, rfl⟩
        rw [hz] at HT ⊢
        clear hx hz hxk
        go_wp2_with fail
        go_roundw
        case rel => exact ⟨k + 1, by go_num, by omega, by rw [HT.out]; congr 1; split <;> omega, by first | rfl | trivial⟩
        case measure => simp only [intOf]; omega
      · obtain rfl : k = v.length := by omega
        rw [show (v.map kc).take v.length = v.map kc by rw [List.take_of_length_le (by simp)], ← HNX.out]
        have hn0 := HC1.out
        clear t0
        by_cases g1 : 4611686018427387903 ≤ n
        · have e1 : decide (4611686018427387903 ≤ n) = true := decide_eq_true g1
          have hz := Lib.hid ((HBZ.out.setCell (p := ⟨w.heap.size + 1, 0, none⟩) (Nat.le_succ _) (.int .i64 0)).setCell (p := ⟨w.heap.size + 1, 1, none⟩) (Nat.le_succ _) (.int .i64 0))
          have z0 : (wr.setCell ⟨w.heap.size + 1, 0, none⟩ (.int .i64 0)).cell? ⟨w.heap.size + 1, 0, none⟩ = some (.int .i64 0) := is_cell (is_set HI2.out 0 (.int .i64 0)) 0
          have z1 : ((wr.setCell ⟨w.heap.size + 1, 0, none⟩ (.int .i64 0)).setCell ⟨w.heap.size + 1, 1, none⟩ (.int .i64 0)).cell? ⟨w.heap.size + 1, 1, none⟩ = some (.int .i64 0) := is_cell (is_set (is_set HI2.out 0 (.int .i64 0)) 1 (.int .i64 0)) 1
          go_wp2_with fail
          refine bodyPost_ret (v := .tuple #[.agg #[.int .i64 0, .int .i64 0], .bool false]) (by simp [results, Try.f39, go_sem, z0, z1]) rfl ?_
          exact ⟨by unfold nextV; rw [if_pos (.inl g1)], hz.out⟩
        have e1 : decide (4611686018427387903 ≤ n) = false := decide_eq_false g1
        by_cases g2 : r < 1
        · have e2 : decide (r < 1) = true := decide_eq_true g2
          have hz := Lib.hid ((HBZ.out.setCell (p := ⟨w.heap.size + 1, 0, none⟩) (Nat.le_succ _) (.int .i64 0)).setCell (p := ⟨w.heap.size + 1, 1, none⟩) (Nat.le_succ _) (.int .i64 0))
          have z0 : (wr.setCell ⟨w.heap.size + 1, 0, none⟩ (.int .i64 0)).cell? ⟨w.heap.size + 1, 0, none⟩ = some (.int .i64 0) := is_cell (is_set HI2.out 0 (.int .i64 0)) 0
          have z1 : ((wr.setCell ⟨w.heap.size + 1, 0, none⟩ (.int .i64 0)).setCell ⟨w.heap.size + 1, 1, none⟩ (.int .i64 0)).cell? ⟨w.heap.size + 1, 1, none⟩ = some (.int .i64 0) := is_cell (is_set (is_set HI2.out 0 (.int .i64 0)) 1 (.int .i64 0)) 1
          go_wp2_with fail
          refine bodyPost_ret (v := .tuple #[.agg #[.int .i64 0, .int .i64 0], .bool false]) (by simp [results, Try.f39, go_sem, z0, z1]) rfl ?_
          exact ⟨by unfold nextV; rw [if_pos (.inr (.inl g2))], hz.out⟩
        have e2 : decide (r < 1) = false := decide_eq_false g2
        by_cases g3 : 255 < r
        · have e3 : decide (255 < r) = true := decide_eq_true g3
          have hz := Lib.hid ((HBZ.out.setCell (p := ⟨w.heap.size + 1, 0, none⟩) (Nat.le_succ _) (.int .i64 0)).setCell (p := ⟨w.heap.size + 1, 1, none⟩) (Nat.le_succ _) (.int .i64 0))
          have z0 : (wr.setCell ⟨w.heap.size + 1, 0, none⟩ (.int .i64 0)).cell? ⟨w.heap.size + 1, 0, none⟩ = some (.int .i64 0) := is_cell (is_set HI2.out 0 (.int .i64 0)) 0
          have z1 : ((wr.setCell ⟨w.heap.size + 1, 0, none⟩ (.int .i64 0)).setCell ⟨w.heap.size + 1, 1, none⟩ (.int .i64 0)).cell? ⟨w.heap.size + 1, 1, none⟩ = some (.int .i64 0) := is_cell (is_set (is_set HI2.out 0 (.int .i64 0)) 1 (.int .i64 0)) 1
          go_wp2_with fail
          refine bodyPost_ret (v := .tuple #[.agg #[.int .i64 0, .int .i64 0], .bool false]) (by simp [results, Try.f39, go_sem, z0, z1]) rfl ?_
          exact ⟨by unfold nextV; rw [if_pos (.inr (.inr g3))], hz.out⟩
        have e3 : decide (255 < r) = false := decide_eq_false g3
        have hwr : IntKind.i64.wrap (n + 1) = n + 1 := by rw [IntKind.wrap_i64]; omega
        have hz := Lib.hid ((HBZ.out.setCell (p := ⟨w.heap.size + 1, 0, none⟩) (Nat.le_succ _) (.int .i64 (n + 1))).setCell (p := ⟨w.heap.size + 1, 1, none⟩) (Nat.le_succ _) (.int .i64 r))
        have z0 : (wr.setCell ⟨w.heap.size + 1, 0, none⟩ (.int .i64 (n + 1))).cell? ⟨w.heap.size + 1, 0, none⟩ = some (.int .i64 (n + 1)) := is_cell (is_set HI2.out 0 (.int .i64 (n + 1))) 0
        have z1 : ((wr.setCell ⟨w.heap.size + 1, 0, none⟩ (.int .i64 (n + 1))).setCell ⟨w.heap.size + 1, 1, none⟩ (.int .i64 r)).cell? ⟨w.heap.size + 1, 1, none⟩ = some (.int .i64 r) := is_cell (is_set (is_set HI2.out 0 (.int .i64 (n + 1))) 1 (.int .i64 r)) 1
        go_wp2_with fail
        refine bodyPost_ret (v := .tuple #[.agg #[.int .i64 (n + 1), .int .i64 r], .bool true]) (by simp [results, Try.f39, go_sem, z0, z1]) rfl ?_
        exact ⟨by unfold nextV; rw [if_neg (by omega)], hz.out⟩
end Go.Proofs.Ytbhejaokkkggjaa
