/-
 Kids, of the program: sort.SliceStable over kids, and the walk.
-/
import Derived.Test.YtkobmnbjeppnaaaGreatXu
import Derived.Test.YtkobmnbjeppnaaaGreatQa
import Derived.Test.YtkobmnbjeppnaaaGreatTh
import Derived.Test.YtkobmnbjeppnaaaGreatChecked
import Derived.Shelf.GgSortMore.Stable
namespace Go.Proofs.YtkobmnbjeppnaaaGreat
open Go.RowKit Go.IntWalk Go.Sort Go.Shelf
set_option maxRecDepth 100000
def stableA_ren : Go.Shelf.Ren := ⟨fun | 8 => 52 | 13 => 70 | 14 => 71 | 16 => 73 | 15 => 72 | 29 => 104 | 30 => 105 | 42 => 128 | 49 => 136 | n => n, fun | 20 => 20 | 26 => 68 | 36 => 87 | 0 => 0 | 38 => 89 | 42 => 93 | 3 => 3 | 4 => 4 | 47 => 98 | 17 => 17 | 33 => 84 | 34 => 85 | 89 => 160 | 12 => 12 | 56 => 128 | 82 => 153 | 5 => 5 | 83 => 154 | 84 => 155 | 85 => 156 | 86 => 157 | 87 => 158 | n => n, fun | n => n⟩
theorem stableA : LaysGt.n8 Tryz.prog stableA_ren where
 mixed := by kernel_rfl
 f8 := Tryz.func52.trans (congrArg some (by kernel_rfl))
 f13 := Tryz.func70.trans (congrArg some (by kernel_rfl))
 f14 := Tryz.func71.trans (congrArg some (by kernel_rfl))
 f15 := Tryz.func72.trans (congrArg some (by kernel_rfl))
 f16 := Tryz.func73.trans (congrArg some (by kernel_rfl))
 f29 := Tryz.func104.trans (congrArg some (by kernel_rfl))
 f30 := Tryz.func105.trans (congrArg some (by kernel_rfl))
 f42 := Tryz.func128.trans (congrArg some (by kernel_rfl))
 f49 := Tryz.func136.trans (congrArg some (by kernel_rfl))
 t0 := Tryz.underlying0
 a0 := Tryz.isAgg0
 z0 := Tryz.sizeOf0
 v0 := Tryz.zeroValue0
 i0 := by kernel_rfl
 t3 := Tryz.underlying3
 a3 := Tryz.isAgg3
 z3 := Tryz.sizeOf3
 v3 := Tryz.zeroValue3
 i3 := by kernel_rfl
 t4 := Tryz.underlying4
 a4 := Tryz.isAgg4
 z4 := Tryz.sizeOf4
 v4 := Tryz.zeroValue4
 i4 := by kernel_rfl
 t5 := Tryz.underlying5
 a5 := Tryz.isAgg5
 z5 := Tryz.sizeOf5
 v5 := Tryz.zeroValue5
 i5 := by kernel_rfl
 t12 := Tryz.underlying12
 a12 := Tryz.isAgg12
 z12 := Tryz.sizeOf12
 v12 := Tryz.zeroValue12
 i12 := by kernel_rfl
 t17 := Tryz.underlying17
 a17 := Tryz.isAgg17
 z17 := Tryz.sizeOf17
 v17 := Tryz.zeroValue17
 i17 := by kernel_rfl
 t20 := Tryz.underlying20
 a20 := Tryz.isAgg20
 z20 := Tryz.sizeOf20
 v20 := Tryz.zeroValue20
 i20 := by kernel_rfl
 t26 := Tryz.underlying68
 a26 := Tryz.isAgg68
 z26 := Tryz.sizeOf68
 v26 := Tryz.zeroValue68
 i26 := by kernel_rfl
 t33 := Tryz.underlying84
 a33 := Tryz.isAgg84
 z33 := Tryz.sizeOf84
 v33 := Tryz.zeroValue84
 i33 := by kernel_rfl
 t34 := Tryz.underlying85
 a34 := Tryz.isAgg85
 z34 := Tryz.sizeOf85
 v34 := Tryz.zeroValue85
 i34 := by kernel_rfl
 t36 := Tryz.underlying87
 a36 := Tryz.isAgg87
 z36 := Tryz.sizeOf87
 v36 := Tryz.zeroValue87
 i36 := by kernel_rfl
 t38 := Tryz.underlying89
 a38 := Tryz.isAgg89
 z38 := Tryz.sizeOf89
 v38 := Tryz.zeroValue89
 i38 := by kernel_rfl
 t42 := Tryz.underlying93
 a42 := Tryz.isAgg93
 z42 := Tryz.sizeOf93
 v42 := Tryz.zeroValue93
 i42 := by kernel_rfl
 t47 := Tryz.underlying98
 a47 := Tryz.isAgg98
 z47 := Tryz.sizeOf98
 v47 := Tryz.zeroValue98
 i47 := by kernel_rfl
 t56 := Tryz.underlying128
 a56 := Tryz.isAgg128
 z56 := Tryz.sizeOf128
 v56 := Tryz.zeroValue128
 i56 := by kernel_rfl
 t82 := Tryz.underlying153
 a82 := Tryz.isAgg153
 z82 := Tryz.sizeOf153
 v82 := Tryz.zeroValue153
 i82 := by kernel_rfl
 t83 := Tryz.underlying154
 a83 := Tryz.isAgg154
 z83 := Tryz.sizeOf154
 v83 := Tryz.zeroValue154
 i83 := by kernel_rfl
 t84 := Tryz.underlying155
 a84 := Tryz.isAgg155
 z84 := Tryz.sizeOf155
 v84 := Tryz.zeroValue155
 i84 := by kernel_rfl
 t85 := Tryz.underlying156
 a85 := Tryz.isAgg156
 z85 := Tryz.sizeOf156
 v85 := Tryz.zeroValue156
 i85 := by kernel_rfl
 t86 := Tryz.underlying157
 a86 := Tryz.isAgg157
 z86 := Tryz.sizeOf157
 v86 := Tryz.zeroValue157
 i86 := by kernel_rfl
 t87 := Tryz.underlying158
 a87 := Tryz.isAgg158
 z87 := Tryz.sizeOf158
 v87 := Tryz.zeroValue158
 i87 := by kernel_rfl
 t89 := Tryz.underlying160
 a89 := Tryz.isAgg160
 z89 := Tryz.sizeOf160
 v89 := Tryz.zeroValue160
 i89 := by kernel_rfl
namespace Kk
open Fl
attribute [local go_sem] Oper.semAt_some
noncomputable def rowsI : TypeInfo := (Tryz.prog.info? 22).get (by kernel_rfl)
theorem svK (n : Nat) (h2 : 2 ≤ n) : Lib.swapperK n rowI 25 = 9 := by
 have a : rowI.hasPointers = true := by kernel_rfl
 have b : rowI.bytes = 40 := by kernel_rfl
 have c : (n == 0) = false := by simp; omega
 have d : (n == 1) = false := by simp; omega
 simp [Lib.swapperK, a, b, c, d]
theorem below_grow (w : World) (os : Array Obj) : Below w.heap.size w (grow w os) :=
 ⟨rfl, rfl, rfl, by rw [size_grow]; omega, fun i hi => by show (w.heap ++ os)[i]? = _; exact Array.getElem?_append_left hi⟩
set_option maxHeartbeats 2000000 in
theorem sliceStable_c (B g n cap kb : Nat) (L : List Rw) (h2 : 2 ≤ n) (hn : n ≤ 100000) (w : World) (h : KIn w B g n cap kb L w) :
  Calls Tryz.prog 52 #[.iface 22 (.slice (some ⟨g, 0, none⟩) n cap), .func (.func 53) #[] #[.pointer (some ⟨kb, 0, none⟩)]] w (StEnd w B g n cap kb L) := by
 refine (Any.sort_SliceStable_of_stable stableA 22 28 rowsI rowI (by kernel_rfl) (by kernel_rfl) (by kernel_rfl) (by kernel_rfl) 25 (fun _ => by kernel_rfl) (some ⟨g, 0, none⟩) n cap (by omega) 103 (by rw [svK _ h2]; kernel_rfl) (.func 53) #[] #[.pointer (some ⟨kb, 0, none⟩)] w (fun w' => ∃ L', Chg L L' 0 n ∧ AscT L' 0 n ∧ KIn w B g n cap kb L' w') ?_).mono (fun e w' h => h)
 have hB : sliceBound Tryz.prog 28 rowI 25 (some ⟨g, 0, none⟩) n cap = #[.slice (some ⟨g, 0, none⟩) n cap, typeHandle Tryz.prog 28] := by
  unfold sliceBound; rw [if_neg (swapperK_gt _ _ _ h2)]
 rw [hB]
 have hbW : Below w.heap.size w (stableWorld Tryz.prog stableA_ren 22 (some ⟨g, 0, none⟩) n cap w) := by
  unfold stableWorld
  exact ((Below.refl _ _).alloc (Nat.le_refl _) _).alloc (by simp) _
 have hK := h.keep hbW
 refine (stable_c B g n cap kb L hn _ hK.start).mono ?_
 rintro e w' ⟨rfl, L', h3, h4, h5⟩
 exact ⟨rfl, L', h3, h4, h5.since hK.grown⟩
theorem sliceStable_few (p : Option Addr) (n cap : Nat) (hn : n ≤ 1) (kb : Nat) (w : World) :
  Calls Tryz.prog 52 #[.iface 22 (.slice p n cap), .func (.func 53) #[] #[.pointer (some ⟨kb, 0, none⟩)]] w fun e w' => e = .returned (.tuple #[]) ∧ Below w.heap.size w w' := by
 have hk : ∃ f, Tryz.prog.funcs.findIdx? (·.name == "internal/reflectlite" ++ ".Swapper$" ++ toString (Lib.swapperK n rowI 25)) = some f := by
  match n, hn with
  | 0, _ => exact ⟨95, by kernel_rfl⟩
  | 1, _ => exact ⟨96, by kernel_rfl⟩
 obtain ⟨f, hf⟩ := hk
 refine (Any.sort_SliceStable_tiny stableA 22 28 rowsI rowI (by kernel_rfl) (by kernel_rfl) (by kernel_rfl) (by kernel_rfl) 25 (fun _ => by kernel_rfl) p n cap hn f hf (.func 53) #[] #[.pointer (some ⟨kb, 0, none⟩)] w).mono ?_
 rintro e w' ⟨rfl, os, rfl⟩
 exact ⟨rfl, below_grow w os⟩
/-- behind an append to the kids in the box p -/
theorem kids_app {W w2 : World} {p n m : Nat} {o o2 : Obj} {v v' : Value} {xs ys : List Value} (hv : Boxed W p 22 v) (hrow : W.ownsRow (p + 1) 28 4 v n xs) (hown' : w2.ownsRow (p + 1) 28 4 v' m ys) (hgrow : ((W.alloc o).alloc o2).grownBy w2 v.ownBlock) (hp : p + 1 ≤ W.heap.size) :
  Boxed w2 p 22 v ∧ Boxed (w2.setCell ⟨p, 0, none⟩ v') p 22 v' ∧ (w2.setCell ⟨p, 0, none⟩ v').ownsRow (p + 1) 28 4 v' m ys ∧ Below p W (w2.setCell ⟨p, 0, none⟩ v') := by
 have b1 := ((hv.alloc o).alloc o2).kept hgrow (fun e => by have := (hrow.lt p e.symm).1; omega)
 refine ⟨b1, b1.set v', hown'.kept (grownBy_setCell' w2 p v') (.inr fun e => by have := (hown'.lt p e).1; omega), ?_⟩
 refine ((((Below.refl p W).alloc (by omega) o).alloc (by simp; omega) o2).grown hgrow (by simp; omega) fun k hk => ?_).setCell (by simp) v'
 have := (hrow.lt k hk).1
 omega
theorem at_new2 (W : World) (r : Rw) : At ((W.alloc (.cells #[.int .i64 (ch r), .int .i64 (pa r), .string (ba (nm r)), .float .f64 (rk r)] 28)).alloc (.cells #[.int .i64 (ch r), .int .i64 (pa r), .string (ba (nm r)), .float .f64 (rk r)] 28)) (W.heap.size + 2) (some ⟨W.heap.size + 1, 0, none⟩) (tvs [r]) := by
 intro i v hv
 refine ⟨W.heap.size + 1, 0, rfl, by omega, ?_⟩
 have h := is_cell (is_new (W.alloc (.cells #[.int .i64 (ch r), .int .i64 (pa r), .string (ba (nm r)), .float .f64 (rk r)] 28)) 28 (rcs r)) i
 rw [World.size_alloc] at h
 rw [show tvs [r] = rcs r by simp [tvs]] at hv
 rw [← hv, Nat.zero_add]
 exact h
/-- the kids met so far -/
def met (l : List Rw) (p : Int) (k : Nat) : List Rw := (l.take k).filter fun r => decide (pa r = p)
theorem met_len (l : List Rw) (p : Int) (k : Nat) : (met l p k).length ≤ k := by
 unfold met
 exact Nat.le_trans (List.length_filter_le _ _) (by rw [List.length_take]; omega)
theorem met_yes {l : List Rw} {p : Int} {k : Nat} {r : Rw} (h : l[k]? = some r) (hp : pa r = p) : met l p (k + 1) = met l p k ++ [r] := by
 unfold met
 rw [List.take_add_one, h, List.filter_append]
 simp [hp]
theorem met_no {l : List Rw} {p : Int} {k : Nat} {r : Rw} (h : l[k]? = some r) (hp : pa r ≠ p) : met l p (k + 1) = met l p k := by
 unfold met
 rw [List.take_add_one, h, List.filter_append]
 simp [hp]
set_option maxHeartbeats 4000000 in
theorem kids_c (A : Option Addr) (cap : Nat) (l : List Rw) (p : Int) (hl : l.length ≤ 10000) (h64 : S64 l) (w : World) (hc : At w w.heap.size A (tvs l)) :
  Calls Tryz.prog 29 #[.slice A l.length cap, .int .i64 p] w (Told_ (kidsR l p) w) := by
 have HC := Lib.hid hc
 have H64 := Lib.hid h64
 clear hc h64
 go_enter Tryz.func29, Tryz.ntmps29
 go_wp2_with fail
 go_loopw [10] (fun i wr => ∃ (k : Nat) (v : Value), i = .int .i64 (k : Int) ∧ k ≤ l.length ∧ Boxed wr w.heap.size 22 v ∧ wr.ownsRow (w.heap.size + 1) 28 4 v (met l p k).length (tvs (met l p k)) ∧ w.heap.size + 1 ≤ wr.heap.size ∧ Below w.heap.size w wr) (fun i _ => l.length - (Go.RowKit.intOf i).toNat)
 case atStart => exact ⟨0, _, rfl, Nat.zero_le _, Boxed.new w _ _, ⟨rfl, .inl ⟨rfl, rfl⟩⟩, by simp, (Below.refl _ _).alloc (Nat.le_refl _) _⟩
 case round =>
  obtain ⟨k, v, rfl, hk, hbx, hown, hsz, hbw⟩ := hrel
  have HBX := Lib.hid hbx
  have HOWN := Lib.hid hown
  have hcell := hbx.cell
  clear hown hbx
  by_cases hlt : k < l.length
  ·obtain ⟨r, hr⟩ := some_at hlt
   have hcw := HC.out.keep hbw
   obtain ⟨b0, o0, rfl, hb0, c0, c1, c2, c3⟩ := row_cells hcw hr
   have hki : (0 : Int) ≤ (k : Int) := by omega
   have hkl : (k : Int) < (l.length : Int) := by omega
   have HX := Lib.hid hr
   clear hr hcw
   by_cases hp : pa r = p
   ·have hpe : (pa r == p) = true := by simpa using hp
    have HP := Lib.hid hp
    have hml := met_len l p k
    clear hp
    have hcell1 : (wr.alloc (.cells #[.int .i64 (ch r), .int .i64 (pa r), .string (ba (nm r)), .float .f64 (rk r)] 28)).cell? ⟨w.heap.size, 0, none⟩ = some v := (HBX.out.alloc _).cell
    have hat : At ((wr.alloc (.cells #[.int .i64 (ch r), .int .i64 (pa r), .string (ba (nm r)), .float .f64 (rk r)] 28)).alloc (.cells #[.int .i64 (ch r), .int .i64 (pa r), .string (ba (nm r)), .float .f64 (rk r)] 28)) (wr.heap.size + 2) (some ⟨wr.heap.size + 1, 0, none⟩) (tvs [r]) := at_new2 wr r
    go_wp2_with (at_builtin; refine append_optR _ rfl _ _ rfl (w.heap.size + 1) _ _ _ rfl ((HOWN.out.alloc (.cells #[.int .i64 (ch r), .int .i64 (pa r), .string (ba (nm r)), .float .f64 (rk r)] 28)).alloc (.cells #[.int .i64 (ch r), .int .i64 (pa r), .string (ba (nm r)), .float .f64 (rk r)] 28)) (some ⟨wr.heap.size + 1, 0, none⟩) 1 [r] (by first | rfl | simp) (fun h => by cases h) (Nat.le_refl _) (wr.heap.size + 2) hat (by have := met_len l p k; simp; omega) (by simp; omega) ?_; intro v' w2 hown' hgrow; obtain ⟨g', cap', rfl⟩ := ownsRow_succ (k := (met l p k).length) hown'; obtain ⟨hb1, hb2, hr2, hbl⟩ := kids_app HBX.out HOWN.out hown' hgrow hsz; have f0 := hb1.cell; have f1 := hb1.frozen)
    go_roundw
    case rel =>
     have hm := met_yes HX.out HP.out
     refine ⟨k + 1, _, by go_num, by omega, hb2, ?_, Nat.le_trans hsz hbl.size, hbw.trans (hbl.mono (Nat.le_refl _))⟩
     rw [hm, List.length_append]
     exact hr2
    case measure => simp only [Go.RowKit.intOf]; omega
   ·have hpe : (pa r == p) = false := by simpa using hp
    have HP := Lib.hid hp
    clear hp
    go_wp2_with fail
    go_roundw
    case rel =>
     have hm := met_no HX.out HP.out
     refine ⟨k + 1, v, by go_num, by omega, HBX.out.alloc _, ?_, by simp; omega, hbw.alloc hbw.size _⟩
     rw [hm]
     exact HOWN.out.alloc _
    case measure => simp only [Go.RowKit.intOf]; omega
  ·obtain rfl : k = l.length := by omega
   have hfin : met l p l.length = l.filter fun r => decide (pa r = p) := by unfold met; rw [List.take_length]
   have hml := met_len l p l.length
   have HM := Lib.hid hfin
   obtain ⟨L, hL⟩ : ∃ L, L = met l p l.length := ⟨_, rfl⟩
   rw [← hL] at HOWN HM hml
   clear hL hfin
   obtain ⟨A1, c1, rfl, hat1, hfr, hc1⟩ := own_at HOWN.out
   have HKF := Lib.hid (show ∀ Y, Flt L Y → AscT Y 0 Y.length → Y = kidsR l p from fun Y h1 h2 => kids_of H64.out (by rw [← HM.out]; exact h1) h2)
   have hS : S64 L := by rw [HM.out]; exact fun x hx => H64.out x (List.mem_filter.1 hx).1
   by_cases h2 : 2 ≤ L.length
   ·obtain ⟨g, c2, hv, hgB, -, -, -, -⟩ := own_some HOWN.out (show 0 < L.length by omega)
    cases hv
    have hK : KIn wr (w.heap.size + 1) g L.length c1 w.heap.size L wr := ⟨HOWN.out, hcell, by omega, HBX.out.lt, hS, grown_refl _ _⟩
    have HS := Lib.hid (sliceStable_c _ g L.length c1 w.heap.size L h2 (by omega) wr hK)
    clear hK hat1 hfr hc1 hS
    go_wp2_with fail
    refine HS.out.mono ?_
    rintro e w1 ⟨rfl, L', hchg, hasc, hk1⟩
    have hcell1 := hk1.box
    have HK1 := Lib.hid hk1
    have HLK := Lib.hid (HKF.out L' hchg.flt (by rw [hchg.len]; exact hasc))
    have hlen := hchg.len
    clear hk1 hchg hasc
    go_wp2_with fail
    go_ret
    have hl := HK1.out.lies
    have e := HLK.out
    rw [← e]
    have hl2 : w1.ownsRow (w.heap.size + 1) 28 4 (.slice (some ⟨g, 0, none⟩) L.length c1) L'.length (tvs L') := by rw [hlen]; exact hl
    exact own_toldR hl2 (hbw.grown HK1.out.grown hbw.size (fun k hk => by cases hk; omega))
   ·have HS := Lib.hid (sliceStable_few A1 L.length c1 (by omega) w.heap.size wr)
    have hLK := HKF.out L (Flt.refl _) (AscT.few (by omega))
    have HLK := Lib.hid hLK
    have HB0 := Lib.hid hbw
    clear hLK hS
    go_wp2_with fail
    refine HS.out.mono ?_
    rintro e w1 ⟨rfl, hb1⟩
    have hcell1 : w1.cell? ⟨w.heap.size, 0, none⟩ = some (.slice A1 L.length c1) := (hb1.cell (p := ⟨w.heap.size, 0, none⟩) HBX.out.lt).trans hcell
    have HB1 := Lib.hid hb1
    clear hb1
    go_wp2_with fail
    go_ret
    rw [← HLK.out]
    exact own_toldR (below_ownI HOWN.out HB1.out) (HB0.out.trans (HB1.out.mono HB0.out.size))
end Kk
end Go.Proofs.YtkobmnbjeppnaaaGreat
