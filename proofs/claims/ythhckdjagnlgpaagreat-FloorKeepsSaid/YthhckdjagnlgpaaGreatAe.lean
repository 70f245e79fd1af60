/-
 A mark that is laid into marks of the call's own (slices.Insert).
-/
import Derived.Test.YthhckdjagnlgpaaGreatAd
import Derived.Deep.RegionLaw
namespace Go.Proofs.YthhckdjagnlgpaaGreat
open Go.RowKit Go.IntWalk
set_option maxRecDepth 100000
attribute [local go_sem] Oper.semAt_some
theorem cell_sameK {w w' : World} {b : Nat} (h : w'.heap[b]? = w.heap[b]?) (i : Nat) : w'.cell? ⟨b, i, none⟩ = w.cell? ⟨b, i, none⟩ := by simp only [World.cell?, h]
theorem own_noneK {w : World} {B n size : Nat} {e : TypeId} {A : Option Addr} {cap : Nat} {xs : List Value} (h : w.ownsRow B e size (.slice A n cap) n xs) : A = none → cap = 0 := fun hA => by
 subst hA
 rcases h.2 with ⟨hz, _⟩ | ⟨g, c2, cur, hv, _⟩
 ·exact (Value.slice.inj hz).2.2
 ·cases hv
/-- marks of the call's own that are told -/
def InsK (B : Nat) (N : List Mk) (w : World) (e : Ending) (w' : World) : Prop :=
 ∃ A c, e = .returned (.slice A N.length c) ∧ w'.ownsRow B 105 2 (.slice A N.length c) N.length (kvs N) ∧ Below B w w'
theorem size_mark (w : World) : (Go.sizeOf 105).run Tryz.prog w = .ok 2 w := by kernel_rfl
theorem shape_is {w : World} {g : Nat} {t : TypeId} {l : List Value} (h : Is w g t l) : w.shape? g = some (t, l.length) := by
 unfold Is at h
 simp [World.shape?, h]
theorem cells_is {w : World} {g : Nat} {t : TypeId} {l : List Value} (h : Is w g t l) : ∀ j u, l[j]? = some u → w.cell? ((⟨g, 0, none⟩ : Addr).add j) = some u := by
 intro j u hu
 rw [Addr.add_lit, Nat.zero_add]
 exact (is_cell h j).trans hu
theorem isOver {w : World} {g vb o lb cb : Nat} {x : Mk} {cur : Array Value} (hv : Is w vb 105 (kcs x)) (hvg : vb ≠ g) (hg : w.heap[g]? = some (.cells cur 105 (0, 0))) (hc : cur.size ≠ 0) :
  (callFunc 207 #[.slice (some ⟨vb, 0, none⟩) 1 1, .slice (some ⟨g, o, none⟩) lb cb]).run Tryz.prog w = .ok (.value (.bool false)) w := by
 rw [run_callFunc_extern Tryz.func207 (by kernel_rfl) (by kernel_rfl) (by kernel_rfl) (e := Extern.SlicesOverlaps.overlaps #[53, 53] #[4]) (by kernel_rfl),
  Lib.run_overlaps_apart w 53 4 105 Tryz.underlying53 2 size_mark ⟨vb, 0, none⟩ ⟨g, o, none⟩ 1 1 lb cb hvg 105 105 2 cur.size (shape_is hv) (by simp [World.shape?, hg]) hc (is_free hv 0) (is_free hv 2)]
 rfl
theorem mark_size : (Tryz.prog.info? 105).map (·.size) = some 2 := by
 obtain ⟨i0, hi, hz0, hz1, hz2⟩ := info_parts Tryz.info105
 rw [hi]; simp [hz1]
set_option maxHeartbeats 8000000 in
theorem kinsert_room (B g cap i vb : Nat) (l : List Mk) (x : Mk) (hl : l.length ≤ 100000) (hi : i < l.length) (hroom : l.length + 1 ≤ cap) (w : World) (hown : w.ownsRow B 105 2 (.slice (some ⟨g, 0, none⟩) l.length cap) l.length (kvs l)) (hv : Is w vb 105 (kcs x)) (hvg : vb ≠ g) :
  Calls Tryz.prog 162 #[.slice (some ⟨g, 0, none⟩) l.length cap, .int .i64 (i : Int), .slice (some ⟨vb, 0, none⟩) 1 1] w (InsK B (l.take i ++ x :: l.drop i) w) := by
 obtain ⟨hlen, ⟨hz, _⟩ | ⟨g', cap', cur, hve, hB, hg, hn, hm, hs, ht⟩⟩ := hown
 ·cases hz
 cases hve
 have hB2 : Below B w w.drew := (Below.refl _ _).drew
 obtain ⟨CUR, hCUR⟩ : ∃ CUR, CUR = cur.toList := ⟨_, rfl⟩
 have hg0 : w.heap[g]? = some (.cells CUR.toArray 105 (0, 0)) := by rw [hCUR]; simpa using hg
 have hover := fun o lb cb => isOver (o := o) (lb := lb) (cb := cb) hv hvg hg (by omega)
 have hCl : CUR.length = cap * 2 := by rw [hCUR]; simpa using hs
 have hCt : CUR.take (l.length * 2) = kvs l := by rw [hCUR]; exact ht
 have hsplit : CUR = kvs (l.take i) ++ kvs (l.drop i) ++ CUR.drop (l.length * 2) := by
  rw [← kvs_append, List.take_append_drop, ← hCt, List.take_append_drop]
 have ha : (kvs (l.take i)).length = i * 2 := by rw [kvs_len, List.length_take]; omega
 have hb : (kvs (l.drop i)).length = (l.length - i) * 2 := by rw [kvs_len, List.length_drop]
 obtain ⟨a, haa⟩ : ∃ a, kvs (l.take i) = a := ⟨_, rfl⟩
 obtain ⟨b, hbb⟩ : ∃ b, kvs (l.drop i) = b := ⟨_, rfl⟩
 obtain ⟨X, hX⟩ : ∃ X, CUR.drop (l.length * 2) = X := ⟨_, rfl⟩
 have hXl : 2 ≤ X.length := by rw [← hX, List.length_drop, hCl]; omega
 have hfin := shift2 (a := a) (b := b) (X := X) (v := kcs x) rfl hXl
 have hone : ∀ v ∈ b, v.oneCell' = true := by rw [← hbb]; exact kvs_one _
 rw [haa] at hsplit ha
 rw [hbb] at hsplit hb
 rw [hX] at hsplit
 rw [← hsplit] at hfin
 have hsrc : ∀ (W : World), W.heap = w.heap → ∀ j v, b[j]? = some v → W.cell? ((⟨g, i * 2, none⟩ : Addr).add j) = some v := fun W hW j v hj => by
  have h1 : CUR[i * 2 + j]? = some v := by
   rw [hsplit, List.append_assoc, List.getElem?_append_right (by omega), ha, show i * 2 + j - i * 2 = j by omega, List.getElem?_append_left (List.getElem?_eq_some_iff.1 hj).1, hj]
  have h2 : W.heap[g]? = some (.cells CUR.toArray 105 (0, 0)) := by rw [hW]; exact hg0
  have h3 := cell_of_row W g (i * 2 + j) CUR.toArray 105 (0, 0) h2
  rw [Addr.add_lit, h3]
  simpa using h1
 have HS := Lib.hid hsrc
 have HG := Lib.hid hg0
 have HV := Lib.hid hv
 have HFIN := Lib.hid hfin
 have HONE := Lib.hid hone
 have HOV := Lib.hid hover
 have HBG := Lib.hid hB
 have HCL := Lib.hid hCl
 have HM := Lib.hid hm
 have HA := Lib.hid (And.intro ha hb)
 have HAB := Lib.hid (And.intro haa hbb)
 unfold maxLen at hm
 have hk0 : (0 : Int) ≤ (i : Int) := by omega
 have hkl : (i : Int) ≤ (l.length : Int) := by omega
 have hne : ¬ ((i : Int) = (l.length : Int)) := by omega
 have hkc : (i : Int) ≤ (cap : Int) := by omega
 have hq1 : ¬ ((l.length : Int) + 1 > (cap : Int)) := by omega
 have hq2 : (l.length : Int) + 1 ≤ (cap : Int) := by omega
 have hq3 : (0 : Int) ≤ (i : Int) + 1 := by omega
 have hq4 : (i : Int) + 1 ≤ (l.length : Int) + 1 := by omega
 have hc1 : ¬ (cap = i) := by omega
 have hc2 : ¬ (cap = i + 1) := by omega
 have hw1 : IntKind.i64.wrap ((i : Int) + 1) = (i : Int) + 1 := by rw [IntKind.wrap_i64]; omega
 have htn : ((i : Int) + 1).toNat = i + 1 := by omega
 have hb3 : (i : Int) ≤ (l.length : Int) + 1 := by omega
 have hin : i ≤ l.length := by omega
 clear hsrc hg0 hv hfin hone hover hB hCl ha hb haa hbb hsplit hCt hX ht hs hg hlen hCUR hn
 go_enter Tryz.func162, Tryz.ntmps162
 go_wp2_with (simp only [HOV.out])
 go_region_law (refine step_copy2 rfl (.tmp 73) (.tmp 76) 53 53 rfl 105 Tryz.underlying53 mark_size (some ⟨g, (i + 1) * 2, none⟩) (some ⟨g, i * 2, none⟩) (l.length - i) (cap - (i + 1)) (l.length + 1 - i) (cap - i) (by simp [Act.eval, Act.put]) (by simp [Act.eval, Act.put]) g ((i + 1) * 2) (l.length - i) (by simp only [Nat.min_def]; split <;> omega) CUR 105 HG.out b HA.out.2 (fun _ => ⟨rfl, _, rfl, HS.out _ rfl⟩) (by rw [HA.out.2, HCL.out]; omega) HONE.out B w hB2 HBG.out ?_; intro w4 hg4 hb4)
 have hI4 := Lib.hid (show Is w4 vb 105 (kcs x) from (hb4.out.2 vb hvg).trans HV.out)
 have hx2 : (kcs x).length = 1 * 2 := rfl
 have hf2 : i * 2 + (kcs x).length ≤ (splice CUR ((i + 1) * 2) b).length := by rw [length_splice _ _ _ (by rw [HA.out.2, HCL.out]; omega), HCL.out]; show i * 2 + 2 ≤ _; omega
 have ho2 : ∀ v ∈ kcs x, v.oneCell' = true := fun v hv => kvs_one [x] v (by simpa [kvs] using hv)
 have hp2 : 0 < 1 → (some ⟨g, i * 2, none⟩ : Option Addr) = some ⟨g, i * 2, none⟩ ∧ ∃ ad, (some ⟨vb, 0, none⟩ : Option Addr) = some ad ∧ ∀ j v, (kcs x)[j]? = some v → w4.cell? (ad.add j) = some v := fun _ => ⟨rfl, _, rfl, cells_is hI4.out⟩
 have hm2 : 1 = Nat.min 1 (l.length + 1 - i) := by simp only [Nat.min_def]; split <;> omega
 have HP := Lib.hid (And.intro hx2 (And.intro hf2 (And.intro ho2 (And.intro hp2 hm2))))
 clear hx2 hf2 ho2 hp2 hm2
 go_wp2_with (with_reducible refine wpList_copy2 rfl (.tmp 80) (.tmp 81) 53 53 rfl 105 Tryz.underlying53 mark_size (some ⟨g, i * 2, none⟩) (some ⟨vb, 0, none⟩) (l.length + 1 - i) (cap - i) 1 1 (by simp [Act.eval]) (by simp [Act.eval]) g (i * 2) 1 HP.out.2.2.2.2 (splice CUR ((i + 1) * 2) b) 105 hg4.out (kcs x) HP.out.1 HP.out.2.2.2.1 HP.out.2.1 HP.out.2.2.1 B w hb4.out.1 HBG.out ?_; intro w5 hg5 hb5)
 go_wp2_with fail
 go_ret
 have hN : (l.take i ++ x :: l.drop i).length = l.length + 1 := by rw [List.length_append, List.length_cons, List.length_take, List.length_drop]; omega
 refine ⟨some ⟨g, 0, none⟩, cap, by rw [hN]; rfl, own_of_row HBG.out hg5.out rfl (by omega) HM.out ?_ ?_, hb5.out.1⟩
 ·rw [length_splice _ _ _ (by rw [length_splice _ _ _ (by rw [HA.out.2, HCL.out]; omega), HCL.out]; show i * 2 + 2 ≤ _; omega), length_splice _ _ _ (by rw [HA.out.2, HCL.out]; omega), HCL.out]
 ·have h1 := HFIN.out
  rw [HA.out.1, HA.out.2] at h1
  rw [hN, show (l.length + 1) * 2 = i * 2 + 2 + (l.length - i) * 2 by omega, show (i + 1) * 2 = i * 2 + 2 by omega, h1, kvs_append, HAB.out.1, ← HAB.out.2, List.append_assoc]
  rfl
set_option maxHeartbeats 8000000 in
theorem kinsert_grow (B g cap i vb : Nat) (l : List Mk) (x : Mk) (hl : l.length ≤ 100000) (hi : i < l.length) (hroom : ¬ l.length + 1 ≤ cap) (w : World) (hB0 : B ≤ w.heap.size) (hown : w.ownsRow B 105 2 (.slice (some ⟨g, 0, none⟩) l.length cap) l.length (kvs l)) (hv : Is w vb 105 (kcs x)) :
  Calls Tryz.prog 162 #[.slice (some ⟨g, 0, none⟩) l.length cap, .int .i64 (i : Int), .slice (some ⟨vb, 0, none⟩) 1 1] w (InsK B (l.take i ++ x :: l.drop i) w) := by
 obtain ⟨i0, hi0, hz0, hzs, hzb⟩ := info_parts Tryz.info105
 have hcells := hown.cells (g := g) rfl
 obtain ⟨hlen, ⟨hz, _⟩ | ⟨g', cap', cur, hve, hB, hg, hn, hm, hs, ht⟩⟩ := hown
 ·cases hz
 cases hve
 have hgw : g < w.heap.size := (Array.getElem?_eq_some_iff.1 hg).1
 have hvw : vb < w.heap.size := is_lt hv
 have ha : (kvs (l.take i)).length = i * 2 := by rw [kvs_len, List.length_take]; omega
 have hb : (kvs (l.drop i)).length = (l.length - i) * 2 := by rw [kvs_len, List.length_drop]
 have hkk : (l.length : Int) + 1 - (i : Int) = ((l.length + 1 - i : Nat) : Int) := by omega
 have hik : i + (l.length + 1 - i) = l.length + 1 := by omega
 have hold : (Builtin.firstCells i0.size i (.slice (some ⟨g, 0, none⟩) i cap)).run Tryz.prog w.drew = .ok (kvs (l.take i)).toArray w.drew := by
  rw [hzs]
  refine run_firstCells_some (P := Tryz.prog) (w := w.drew) 2 i ⟨g, 0, none⟩ i cap (kvs (l.take i)) ha (fun j v hj => ?_)
  rw [kvs_take, List.getElem?_take] at hj
  split at hj
  ·exact hcells j v hj
  ·cases hj
 have hrz : ∀ ty, (Builtin.append_ #[53, 3] ty #[.slice (some ⟨g, 0, none⟩) i cap, .int .i64 ((l.length : Int) + 1 - (i : Int))]).run Tryz.prog w =
   .ok (.slice (some ⟨w.heap.size, 0, none⟩) (l.length + 1) (grownCap w (l.length + 1) cap 105)) (w.drew.alloc (.cells ((kvs (l.take i)).toArray ++ Builtin.zeroCells (Value.agg #[.int .i64 0, .int .i64 0]).cells (l.length + 1 - i) ++ Builtin.zeroCells (Value.agg #[.int .i64 0, .int .i64 0]).cells (grownCap w (l.length + 1) cap 105 - (l.length + 1))) 105)) := fun ty => by
  have h := Lib.run_append_grow_zeros w 53 3 ty 105 i0 _ .i64 .i64 Tryz.underlying53 Tryz.underlying3 hi0 hz0 (some ⟨g, 0, none⟩) i cap (kvs (l.take i)) hold (l.length + 1 - i) (by omega) (by omega) (by omega) (by omega) (by rw [hzb]; omega) (by rw [hzb, hik]; exact growslice_fits (by omega) (by omega))
  rw [hik] at h
  rw [hkk]
  exact h
 have hGn : l.length + 1 ≤ grownCap w (l.length + 1) cap 105 := grownCap_ge w _ _ _
 have hGm : grownCap w (l.length + 1) cap 105 ≤ maxLen := grownCap_le_maxLen w (l.length + 1) cap 105 (by unfold maxLen; omega)
 obtain ⟨G, hG⟩ : ∃ G, grownCap w (l.length + 1) cap 105 = G := ⟨_, rfl⟩
 rw [hG] at hrz hGn hGm
 obtain ⟨Z, hZ⟩ : ∃ Z : Array Value, Builtin.zeroCells (Value.agg #[.int .i64 0, .int .i64 0]).cells (l.length + 1 - i) ++ Builtin.zeroCells (Value.agg #[.int .i64 0, .int .i64 0]).cells (G - (l.length + 1)) = Z := ⟨_, rfl⟩
 have hZl : Z.size = (G - i) * 2 := by
  rw [← hZ]
  simp only [Builtin.zeroCells, Value.cells, Array.size_append, Array.size_map, Array.size_range]
  simp
  omega
 obtain ⟨a, haa⟩ : ∃ a, kvs (l.take i) = a := ⟨_, rfl⟩
 obtain ⟨b, hbb⟩ : ∃ b, kvs (l.drop i) = b := ⟨_, rfl⟩
 have hone : ∀ v ∈ b, v.oneCell' = true := by rw [← hbb]; exact kvs_one _
 have hfin := grow2 (a := a) (b := b) (Z := Z.toList) (v := kcs x) rfl (by rw [show Z.toList.length = (G - i) * 2 by simpa using hZl, ← hbb, hb]; omega)
 rw [haa] at hrz ha
 rw [hbb] at hb
 obtain ⟨W1, hW1⟩ : ∃ W1, w.drew.alloc (.cells (a ++ Z.toList).toArray 105) = W1 := ⟨_, rfl⟩
 have hrz2 : ∀ ty, (Builtin.append_ #[53, 3] ty #[.slice (some ⟨g, 0, none⟩) i cap, .int .i64 ((l.length : Int) + 1 - (i : Int))]).run Tryz.prog w = .ok (.slice (some ⟨w.heap.size, 0, none⟩) (l.length + 1) G) W1 := fun ty => by
  rw [hrz ty, Array.append_assoc, hZ, ← hW1]
  congr 3
  simp
 have hI1 : Is W1 w.heap.size 105 (a ++ Z.toList) := by rw [← hW1]; exact is_new w.drew 105 _
 have hbW : Below w.heap.size w W1 := by rw [← hW1]; exact (Below.refl _ _).drew.alloc (Nat.le_refl _) _
 have hV1 := is_below hv hbW hvw
 have hG1 : W1.heap[g]? = some (.cells cur 105 (0, 0)) := (hbW.block g hgw).trans hg
 have hsrc : ∀ (W : World), W.heap[g]? = W1.heap[g]? → ∀ j v, b[j]? = some v → W.cell? ((⟨g, i * 2, none⟩ : Addr).add j) = some v := fun W hW j v hj => by
  have h1 : (kvs l)[i * 2 + j]? = some v := by rw [← hbb, kvs_drop, List.getElem?_drop] at hj; exact hj
  have h2 := hcells _ _ h1
  rw [Addr.add_lit, Nat.zero_add] at h2
  rw [Addr.add_lit]
  have h3 : W.heap[g]? = w.heap[g]? := by rw [hW, hG1, hg]
  exact (cell_sameK h3 _).trans h2
 have hBN : Below B w W1 := hbW.mono hB0
 have HS := Lib.hid hsrc
 have HI := Lib.hid (show W1.heap[w.heap.size]? = some (.cells (a ++ Z.toList).toArray 105 (0, 0)) from hI1)
 have HV := Lib.hid hV1
 have HFIN := Lib.hid hfin
 have HONE := Lib.hid hone
 have HBN := Lib.hid hBN
 have HA := Lib.hid (And.intro ha hb)
 have HAB := Lib.hid (And.intro haa hbb)
 have HZL := Lib.hid hZl
 have HRZ := Lib.hid hrz2
 have HM := Lib.hid hGm
 have HL := Lib.hid (show (a ++ Z.toList).length = G * 2 by rw [List.length_append, ha, Array.length_toList, hZl]; omega)
 have HNE := Lib.hid (And.intro (show g ≠ w.heap.size by omega) (show vb ≠ w.heap.size by omega))
 unfold maxLen at hGm hm
 have hk0 : (0 : Int) ≤ (i : Int) := by omega
 have hkl : (i : Int) ≤ (l.length : Int) := by omega
 have hne : ¬ ((i : Int) = (l.length : Int)) := by omega
 have hkc : (i : Int) ≤ (cap : Int) := by omega
 have hq1 : (l.length : Int) + 1 > (cap : Int) := by omega
 have hq1b : (cap : Int) < (l.length : Int) + 1 := by omega
 have hq3 : (0 : Int) ≤ (i : Int) + 1 := by omega
 have hq4 : (i : Int) + 1 ≤ (l.length : Int) + 1 := by omega
 have hc1 : ¬ (cap = i) := by omega
 have hc2 : ¬ (G = i + 1) := by omega
 have hc3 : ¬ (G = i) := by omega
 have hw1 : IntKind.i64.wrap ((i : Int) + 1) = (i : Int) + 1 := by rw [IntKind.wrap_i64]; omega
 have htn : ((i : Int) + 1).toNat = i + 1 := by omega
 have hb3 : (i : Int) ≤ (l.length : Int) + 1 := by omega
 have hin : i ≤ l.length := by omega
 have hx2 : (kcs x).length = 1 * 2 := rfl
 have hf2 : i * 2 + (kcs x).length ≤ (a ++ Z.toList).length := by rw [HL.out]; show i * 2 + 2 ≤ _; omega
 have ho2 : ∀ v ∈ kcs x, v.oneCell' = true := fun v hv => kvs_one [x] v (by simpa [kvs] using hv)
 have hp2 : 0 < 1 → (some ⟨w.heap.size, i * 2, none⟩ : Option Addr) = some ⟨w.heap.size, i * 2, none⟩ ∧ ∃ ad, (some ⟨vb, 0, none⟩ : Option Addr) = some ad ∧ ∀ j v, (kcs x)[j]? = some v → W1.cell? (ad.add j) = some v := fun _ => ⟨rfl, _, rfl, cells_is hV1⟩
 have hm2 : 1 = Nat.min 1 (l.length + 1 - i) := by simp only [Nat.min_def]; split <;> omega
 have HP := Lib.hid (And.intro hx2 (And.intro hf2 (And.intro ho2 (And.intro hp2 hm2))))
 have HBS := Lib.hid hB0
 clear hsrc hI1 hV1 hfin hone hBN ha hb haa hbb hZl hrz2 hrz hZ hG hW1 hbW hG1 hx2 hf2 ho2 hp2 hm2 hcells hlen ht hs hg hold hi0 hz0 hzs hzb hkk hik hB hB0 hv hroom hgw hvw hn
 go_enter Tryz.func162, Tryz.ntmps162
 go_wp2_with (first
  | (at_builtin; refine Lib.wpList_append_run _ rfl _ _ _ _ rfl _ _ rfl rfl _ _ (HRZ.out _) ?_)
  | (with_reducible refine wpList_copy2 rfl (.tmp 43) (.tmp 44) 53 53 rfl 105 Tryz.underlying53 mark_size (some ⟨w.heap.size, i * 2, none⟩) (some ⟨vb, 0, none⟩) (l.length + 1 - i) (G - i) 1 1 (by simp [Act.eval]) (by simp [Act.eval]) w.heap.size (i * 2) 1 HP.out.2.2.2.2 (a ++ Z.toList) 105 HI.out (kcs x) HP.out.1 HP.out.2.2.2.1 HP.out.2.1 HP.out.2.2.1 B w HBN.out HBS.out ?_; intro w5 hg5 hb5))
 have hGG : w5.drew.heap[g]? = W1.heap[g]? := hb5.out.2 g HNE.out.1
 go_region_law (refine step_copy2 rfl (.tmp 50) (.tmp 53) 53 53 rfl 105 Tryz.underlying53 mark_size (some ⟨w.heap.size, (i + 1) * 2, none⟩) (some ⟨g, i * 2, none⟩) (l.length - i) (G - (i + 1)) (l.length - i) (cap - i) (by simp [Act.eval, Act.put]) (by simp [Act.eval, Act.put]) w.heap.size ((i + 1) * 2) (l.length - i) (by simp only [Nat.min_def]; split <;> omega) (splice (a ++ Z.toList) (i * 2) (kcs x)) 105 hg5.out b HA.out.2 (fun _ => ⟨rfl, _, rfl, HS.out _ hGG⟩) (by rw [length_splice _ _ _ HP.out.2.1, HL.out, HA.out.2]; omega) HONE.out B w hb5.out.1.drew HBS.out ?_; intro w4 hg4 hb4)
 go_wp2_with fail
 go_ret
 have hN : (l.take i ++ x :: l.drop i).length = l.length + 1 := by rw [List.length_append, List.length_cons, List.length_take, List.length_drop]; omega
 refine ⟨some ⟨w.heap.size, 0, none⟩, G, by rw [hN]; rfl, own_of_row HBS.out hg4.out rfl (by omega) HM.out ?_ ?_, hb4.out.1⟩
 ·rw [length_splice _ _ _ (by rw [length_splice _ _ _ HP.out.2.1, HL.out, HA.out.2]; omega), length_splice _ _ _ HP.out.2.1, HL.out]
 ·have h1 := HFIN.out
  rw [HA.out.1, HA.out.2] at h1
  rw [hN, show (l.length + 1) * 2 = i * 2 + 2 + (l.length - i) * 2 by omega, show (i + 1) * 2 = i * 2 + 2 by omega, h1, kvs_append, HAB.out.1, ← HAB.out.2, List.append_assoc]
  rfl
set_option maxHeartbeats 8000000 in
theorem kinsert_end (B vb : Nat) (l : List Mk) (x : Mk) (A : Option Addr) (cap : Nat) (hl : l.length ≤ 100000) (w : World) (hB0 : B ≤ w.heap.size) (hown : w.ownsRow B 105 2 (.slice A l.length cap) l.length (kvs l)) (hv : Is w vb 105 (kcs x)) :
  Calls Tryz.prog 162 #[.slice A l.length cap, .int .i64 (l.length : Int), .slice (some ⟨vb, 0, none⟩) 1 1] w (InsK B (l ++ [x]) w) := by
 have hAt : At w w.heap.size (some ⟨vb, 0, none⟩) (kvs [x]) := fun i v hi => ⟨vb, 0, rfl, is_lt hv, by rw [Nat.zero_add]; exact (is_cell hv i).trans (by simpa [kvs] using hi)⟩
 have HAT := Lib.hid hAt
 have HO := Lib.hid hown
 have HBS := Lib.hid hB0
 obtain ⟨A0, c0, hv0, -, -, hcap⟩ := own_at hown
 cases hv0
 have hkc : (l.length : Int) ≤ (cap : Int) := by omega
 have hcm : cap ≤ 9223372036854775807 := by
  rcases hown.2 with ⟨hz, _⟩ | ⟨g, c2, cur, hve, hb, hg, hn, hm, _⟩
  ·injection hz; omega
  ·injection hve with _ _ e3; unfold maxLen at hm; omega
 clear hAt hown hv hB0
 cases A with
 | none =>
  obtain rfl : cap = 0 := own_noneK HO.out rfl
  obtain rfl : l = [] := List.eq_nil_of_length_eq_zero (by omega)
  go_enter Tryz.func162, Tryz.ntmps162
  go_wp2_with (at_builtin; refine append_optK _ rfl _ _ rfl B _ _ _ rfl HO.out (some ⟨vb, 0, none⟩) 1 [x] rfl (fun h => by cases h) (by simp) w.heap.size HAT.out (by simp) HBS.out ?_)
  intro v' w1 hown1 hgrow
  have hb1 := below_own (Below.refl B w) HBS.out HO.out hgrow
  obtain ⟨A', cap', rfl, -, -, -⟩ := own_at hown1
  have HO1 := Lib.hid hown1
  clear hown1 hgrow
  go_wp2_with fail
  go_ret
  exact ⟨A', cap', rfl, HO1.out, hb1⟩
 | some a =>
  obtain ⟨b0, o0, s0⟩ := a
  go_enter Tryz.func162, Tryz.ntmps162
  go_wp2_with (at_builtin; refine append_optK _ rfl _ _ rfl B _ _ _ rfl HO.out (some ⟨vb, 0, none⟩) 1 [x] rfl (fun h => by cases h) (by simp) w.heap.size HAT.out (by simp; omega) HBS.out ?_)
  all_goals
   intro v' w1 hown1 hgrow
   have hb1 := below_own (Below.refl B w) HBS.out HO.out hgrow
   obtain ⟨A', cap', rfl, -, -, -⟩ := own_at hown1
   have HO1 := Lib.hid hown1
   clear hown1 hgrow
   go_wp2_with fail
   go_ret
   exact ⟨A', cap', by rw [List.length_append]; rfl, by rw [List.length_append]; exact HO1.out, hb1⟩
end Go.Proofs.YthhckdjagnlgpaaGreat
