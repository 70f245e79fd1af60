/-
 Who is reached: the program's.
-/
import Derived.Test.YtkobmnbjeppnaaaGreatQh
import Derived.Test.YtkobmnbjeppnaaaGreatXe
import Derived.Test.YtkobmnbjeppnaaaGreatTn
import Derived.Test.YtkobmnbjeppnaaaGreatQa
import Derived.Test.YtkobmnbjeppnaaaGreatSg
import Derived.Test.YtkobmnbjeppnaaaGreatChecked
import Derived.Laws.StructEq
import Derived.Shelf.SortM.Plain
import Derived.Sort.OwnSortedInts
import Derived.Shelf.SlicesG.In.CompactI
namespace Go.Proofs.YtkobmnbjeppnaaaGreat
open Go.RowKit Go.IntWalk Go.Maps Go.Sort Go.Shelf
open Fl Gr
set_option maxRecDepth 100000
def sortA_ren : Go.Shelf.Ren := ⟨fun | 5 => 55 | 8 => 79 | 7 => 78 | 19 => 117 | 20 => 118 | 10 => 108 | 11 => 109 | 12 => 110 | 13 => 111 | 14 => 112 | 15 => 113 | 16 => 114 | 17 => 115 | 18 => 116 | 30 => 130 | 31 => 131 | 32 => 132 | 33 => 133 | 34 => 134 | 35 => 91 | 40 => 137 | n => n, fun | 23 => 36 | 25 => 3 | 3 => 3 | 32 => 98 | 22 => 36 | 0 => 0 | 44 => 128 | 46 => 75 | 4 => 4 | 36 => 122 | 35 => 121 | 41 => 72 | 5 => 5 | 9 => 9 | 53 => 140 | 57 => 143 | 63 => 145 | 64 => 99 | n => n, fun | n => n⟩
theorem sortA : SlLaysM.n5 Tryz.prog sortA_ren where
 mixed := by kernel_rfl
 f5 := ⟨ "slices.Sort[[]int,int]", by decide, Tryz.func55.trans (congrArg some (by kernel_rfl))⟩
 f7 := ⟨ "slices.pdqsortOrdered[int]", by decide, Tryz.func78.trans (congrArg some (by kernel_rfl))⟩
 f8 := Tryz.func79.trans (congrArg some (by kernel_rfl))
 f10 := ⟨ "slices.insertionSortOrdered[int]", by decide, Tryz.func108.trans (congrArg some (by kernel_rfl))⟩
 f11 := ⟨ "slices.heapSortOrdered[int]", by decide, Tryz.func109.trans (congrArg some (by kernel_rfl))⟩
 f12 := ⟨ "slices.breakPatternsOrdered[int]", by decide, Tryz.func110.trans (congrArg some (by kernel_rfl))⟩
 f13 := ⟨ "slices.choosePivotOrdered[int]", by decide, Tryz.func111.trans (congrArg some (by kernel_rfl))⟩
 f14 := ⟨ "slices.reverseRangeOrdered[int]", by decide, Tryz.func112.trans (congrArg some (by kernel_rfl))⟩
 f15 := ⟨ "slices.partialInsertionSortOrdered[int]", by decide, Tryz.func113.trans (congrArg some (by kernel_rfl))⟩
 f16 := ⟨ "cmp.Less[int]", by decide, Tryz.func114.trans (congrArg some (by kernel_rfl))⟩
 f17 := ⟨ "slices.partitionEqualOrdered[int]", by decide, Tryz.func115.trans (congrArg some (by kernel_rfl))⟩
 f18 := ⟨ "slices.partitionOrdered[int]", by decide, Tryz.func116.trans (congrArg some (by kernel_rfl))⟩
 f19 := Tryz.func117.trans (congrArg some (by kernel_rfl))
 f20 := Tryz.func118.trans (congrArg some (by kernel_rfl))
 f30 := ⟨ "slices.siftDownOrdered[int]", by decide, Tryz.func130.trans (congrArg some (by kernel_rfl))⟩
 f31 := Tryz.func131.trans (congrArg some (by kernel_rfl))
 f32 := Tryz.func132.trans (congrArg some (by kernel_rfl))
 f33 := ⟨ "slices.medianAdjacentOrdered[int]", by decide, Tryz.func133.trans (congrArg some (by kernel_rfl))⟩
 f34 := ⟨ "slices.medianOrdered[int]", by decide, Tryz.func134.trans (congrArg some (by kernel_rfl))⟩
 f35 := ⟨ "cmp.isNaN[int]", by decide, Tryz.func91.trans (congrArg some (by kernel_rfl))⟩
 f40 := ⟨ "slices.order2Ordered[int]", by decide, Tryz.func137.trans (congrArg some (by kernel_rfl))⟩
 t0 := Tryz.underlying0
 a0 := Tryz.isAgg0
 z0 := Tryz.sizeOf0
 v0 := Tryz.zeroValue0
 t3 := Tryz.underlying3
 a3 := Tryz.isAgg3
 z3 := Tryz.sizeOf3
 v3 := Tryz.zeroValue3
 t4 := Tryz.underlying4
 a4 := Tryz.isAgg4
 z4 := Tryz.sizeOf4
 v4 := Tryz.zeroValue4
 t5 := Tryz.underlying5
 a5 := Tryz.isAgg5
 z5 := Tryz.sizeOf5
 v5 := Tryz.zeroValue5
 t9 := Tryz.underlying9
 a9 := Tryz.isAgg9
 z9 := Tryz.sizeOf9
 v9 := Tryz.zeroValue9
 t22 := Tryz.underlying36
 a22 := Tryz.isAgg36
 z22 := Tryz.sizeOf36
 v22 := Tryz.zeroValue36
 t23 := Tryz.underlying36
 a23 := Tryz.isAgg36
 z23 := Tryz.sizeOf36
 v23 := Tryz.zeroValue36
 t25 := Tryz.underlying3
 a25 := Tryz.isAgg3
 z25 := Tryz.sizeOf3
 v25 := Tryz.zeroValue3
 t32 := Tryz.underlying98
 a32 := Tryz.isAgg98
 z32 := Tryz.sizeOf98
 v32 := Tryz.zeroValue98
 t35 := Tryz.underlying121
 a35 := Tryz.isAgg121
 z35 := Tryz.sizeOf121
 v35 := Tryz.zeroValue121
 t36 := Tryz.underlying122
 a36 := Tryz.isAgg122
 z36 := Tryz.sizeOf122
 v36 := Tryz.zeroValue122
 t41 := Tryz.underlying72
 a41 := Tryz.isAgg72
 z41 := Tryz.sizeOf72
 v41 := Tryz.zeroValue72
 t44 := Tryz.underlying128
 a44 := Tryz.isAgg128
 z44 := Tryz.sizeOf128
 v44 := Tryz.zeroValue128
 t46 := Tryz.underlying75
 a46 := Tryz.isAgg75
 z46 := Tryz.sizeOf75
 v46 := Tryz.zeroValue75
 t53 := Tryz.underlying140
 a53 := Tryz.isAgg140
 z53 := Tryz.sizeOf140
 v53 := Tryz.zeroValue140
 t57 := Tryz.underlying143
 a57 := Tryz.isAgg143
 z57 := Tryz.sizeOf143
 v57 := Tryz.zeroValue143
 t63 := Tryz.underlying145
 a63 := Tryz.isAgg145
 z63 := Tryz.sizeOf145
 v63 := Tryz.zeroValue145
 t64 := Tryz.underlying99
 a64 := Tryz.isAgg99
 z64 := Tryz.sizeOf99
 v64 := Tryz.zeroValue99
def compactA_ren : Go.Shelf.Ren := ⟨fun | 43 => 56 | n => n, fun | 22 => 36 | 23 => 3 | 3 => 3 | 4 => 4 | 0 => 0 | n => n, fun | n => n⟩
theorem compactA : SlLaysN.n43 Tryz.prog compactA_ren where
 mixed := by kernel_rfl
 f43 := ⟨ "slices.Compact[[]int,int]", by decide, Tryz.func56.trans (congrArg some (by kernel_rfl))⟩
 t0 := Tryz.underlying0
 a0 := Tryz.isAgg0
 z0 := Tryz.sizeOf0
 v0 := Tryz.zeroValue0
 t3 := Tryz.underlying3
 a3 := Tryz.isAgg3
 z3 := Tryz.sizeOf3
 v3 := Tryz.zeroValue3
 t4 := Tryz.underlying4
 a4 := Tryz.isAgg4
 z4 := Tryz.sizeOf4
 v4 := Tryz.zeroValue4
 t22 := Tryz.underlying36
 a22 := Tryz.isAgg36
 z22 := Tryz.sizeOf36
 v22 := Tryz.zeroValue36
 t23 := Tryz.underlying3
 a23 := Tryz.isAgg3
 z23 := Tryz.sizeOf3
 v23 := Tryz.zeroValue3
 i23 := by kernel_rfl
attribute [local go_sem] Oper.semAt_some
theorem end_under : Tryz.prog.underlying 56 = some (.struct (Tryz.prog.fieldsOf 56)) := by kernel_rfl
theorem end_stood : Tryz.prog.stoodInHeld 56 = false := by kernel_rfl
theorem end_guard : Tryz.prog.eqGuardType Tryz.prog.depth 56 = false := by kernel_rfl
theorem eql_ends (v : Int × Bool) (w : World) : (binOp .eql 56 (.agg #[.int .i64 v.1, .bool v.2]) (.agg #[.int .i64 0, .bool true])).run Tryz.prog w = .ok (.bool (decide (v = (0, true)))) w := by
 obtain ⟨a, b⟩ := v
 rw [run_eql_struct, show (10000 : Nat) = 9999 + 1 from rfl, run_equalIn_agg w 9999 _ _ _ end_under end_stood]
 simp only [Program.fieldsOf, Tryz.underlying56]
 simp [Op.eqFields, go_sem, run_equalIn_int _ 9998 _ _ _ _ _ Tryz.underlying3]
 by_cases h1 : a = 0 <;> cases b <;> simp [h1, eq_comm]
attribute [-go_sem] run_eql_struct
/-- append of one whole number: in the row's own block, or in a new one -/
theorem append_dichI (w : World) {ops : Array Oper} {rest : List Oper} {o : Oper} {a : Act} {Q : Exit → Act → World → Prop}
  (hg : o.guard = none) (s x : Operand) (hop : o.op = Op.call { callee := Callee.builtin Builtin.append, args := #[s, x], argTypes := #[36, 36] })
  (base : Nat) (v : Value) (k : Nat) (us : List Int) (hs : a.eval s = v) (hown : w.ownsRow base 3 1 v k (ivs us)) (ad : Addr) (c : Nat) (m : Int) (hx : a.eval x = .slice (some ad) 1 c)
  (hc : ∀ j u, (ivs [m])[j]? = some u → w.cell? (ad.add j) = some u) (hlen : k + 1 ≤ 200000) (b3 : base ≤ w.heap.size)
  (hK : ∀ v' w', w'.ownsRow base 3 1 v' (k + 1) (ivs (us ++ [m])) → w.grownBy w' v.ownBlock → (v'.ownBlock = v.ownBlock ∨ v'.ownBlock = some w.heap.size) → wpList Tryz.prog ops Q rest (a.put o.dst v') w') :
  wpList Tryz.prog ops Q (o :: rest) a w := by
 obtain ⟨i0, hi, hz0, hz1, hz2⟩ := info_parts Tryz.info3
 have hone : ∀ u ∈ ivs [m], u.oneCell' = true := fun u hu => by simp [ivs] at hu; subst hu; rfl
 refine wpList_plain hg fun K hKK => ?_
 obtain ⟨v', w', hr, h2, h3, h4⟩ := run_append_own (P := Tryz.prog) w base 36 o.type 3 i0 _ 1 8 Tryz.underlying36 hi hz0 hz1 hz2 rfl (by decide) v k (ivs us) hown ad 1 c (ivs [m]) rfl hc hone (by unfold maxLen; omega) (by omega) b3
 have hd : v'.ownBlock = v.ownBlock ∨ v'.ownBlock = some w.heap.size := by
  have hl : (ivs [m]).length = 1 * i0.size := by rw [hz1]; rfl
  rcases hown.2 with ⟨rfl, rfl⟩ | ⟨g, cap, cur, rfl, hbg, hgc, hnc, hcm, hcs, htake⟩
  ·have h := run_append_nil (P := Tryz.prog) w 36 o.type 3 i0 _ Tryz.underlying36 hi hz0 ad 1 c (ivs [m]) hl hc (by omega) (by omega) (by rw [hz2]; omega)
   rw [hr] at h
   right
   have := (Result.ok.inj h).1
   rw [this]; rfl
  ·by_cases hroom : k + 1 ≤ cap
   ·have h := run_append_room (P := Tryz.prog) w 36 o.type 3 i0 Tryz.underlying36 hi g k cap cur hgc ad 1 c (ivs [m]) hl hc hone hroom (by rw [hz1, hcs]; show k * 1 + 1 ≤ cap * 1; omega)
    rw [hr] at h
    left
    have := (Result.ok.inj h).1
    rw [this]; rfl
   ·have holds : ∀ j u, (ivs us)[j]? = some u → w.cell? ((⟨g, 0, none⟩ : Addr).add j) = some u := hown.cells (g := g) rfl
    have h := run_append_grow (P := Tryz.prog) w 36 o.type 3 i0 _ Tryz.underlying36 hi hz0 ⟨g, 0, none⟩ k cap (ivs us) (by rw [hz1]; exact hown.1) holds ad 1 c (ivs [m]) hl hc (by omega) (by omega) (growslice_fits (by omega) (by rw [hz2]; omega))
    rw [hr] at h
    right
    have := (Result.ok.inj h).1
    rw [this]; rfl
 unfold Oper.wp execOp
 simp only [hop, resolve, invoke, builtin, Sem.run_bind, Sem.run_pure, Result.andThen_ok, List.map_toArray, List.map_cons, List.map_nil, hs, hx, hr]
 exact hKK _ _ (hK v' w' (by rw [show ivs (us ++ [m]) = ivs us ++ ivs [m] by simp [ivs]]; exact h2) h3 hd)
/-- those reached among the first k -/
def got (l : List Rw) (k : Nat) : List Int := ((l.take k).filter fun r => decide (endE l (ch r) = (0, true))).map ch
theorem got_len (l : List Rw) (k : Nat) : (got l k).length ≤ k := by
 unfold got
 rw [List.length_map]
 exact Nat.le_trans (List.length_filter_le _ _) (by rw [List.length_take]; omega)
theorem got_yes {l : List Rw} {k : Nat} {r : Rw} (h : l[k]? = some r) (hp : endE l (ch r) = (0, true)) : got l (k + 1) = got l k ++ [ch r] := by
 unfold got
 rw [List.take_add_one, h, List.filter_append, List.map_append]
 simp [hp]
theorem got_no {l : List Rw} {k : Nat} {r : Rw} (h : l[k]? = some r) (hp : endE l (ch r) ≠ (0, true)) : got l (k + 1) = got l k := by
 unfold got
 rw [List.take_add_one, h, List.filter_append, List.map_append]
 simp [hp]
theorem got_all (l : List Rw) : got l l.length = goodR l := by rw [goodR_end]; unfold got; rw [List.take_length]
/-- slices.Sort, then slices.Compact, of an own row of whole numbers -/
theorem sort_c {B g cap : Nat} {ss : List Int} {w : World} (h : w.ownsRow B 3 1 (.slice (some ⟨g, 0, none⟩) ss.length cap) ss.length (ivs ss)) (hn : 0 < ss.length) (hb : ss.length ≤ 2000) :
  Calls Tryz.prog 55 #[.slice (some ⟨g, 0, none⟩) ss.length cap] w fun e w' => e = .returned (.tuple #[]) ∧ w'.ownsRow B 3 1 (.slice (some ⟨g, 0, none⟩) ss.length cap) ss.length (ivs (ss.mergeSort fun x y => decide (x ≤ y))) ∧ w.grownBy w' (some g) := by
 obtain ⟨g', c', hv, hB, hnc, hcm, hfz, hcl⟩ := own_some h hn
 cases hv
 obtain ⟨-, ⟨h0, -⟩ | ⟨g2, c2, cur, hv2, h1, h2, h3, h4, h5, h6⟩⟩ := h
 ·cases h0
 cases hv2
 have hH : Holds (Value.int .i64) w g 0 ss.toArray := fun j hj => by
  have hj' : j < ss.length := by simpa using hj
  refine ⟨?_, hfz _⟩
  rw [Nat.zero_add]
  refine hcl j _ ?_
  unfold ivs
  rw [List.getElem?_map, List.getElem?_eq_getElem hj']
  simp [getElem!_pos, hj']
 refine (AnyM.slices_Sort_int sortA g 0 cap ss w hH (Array.getElem?_eq_some_iff.1 h2).1 (by omega)).mono ?_
 rintro e w' ⟨rfl, n, os, rfl⟩
 exact ⟨rfl, ownsRow_sortedI (by simp) h1 h2 h3 h4 h5, grownBy_sortedI _⟩
theorem compact_le (d : Array Int) : ∀ m, (Lib.compactUpTo d m).length ≤ m
 | 0 => by simp [Lib.compactUpTo]
 | m + 1 => by
  have := compact_le d m
  rw [Lib.compactUpTo_succ]
  split <;> simp <;> omega
theorem compact_c {B g cap : Nat} {ss : List Int} {w : World} (h : w.ownsRow B 3 1 (.slice (some ⟨g, 0, none⟩) ss.length cap) ss.length (ivs ss)) (hn : 0 < ss.length) :
  Calls Tryz.prog 56 #[.slice (some ⟨g, 0, none⟩) ss.length cap] w fun e w' => e = .returned (.slice (some ⟨g, 0, none⟩) (Lib.compact ss).length cap) ∧ At w' w'.heap.size (some ⟨g, 0, none⟩) (ivs (Lib.compact ss)) ∧ (Lib.compact ss).length ≤ cap ∧ w.grownBy w' (some g) := by
 obtain ⟨g', c', hv, hB, hnc, hcm, hfz, hcl⟩ := own_some h hn
 cases hv
 obtain ⟨-, ⟨h0, -⟩ | ⟨g2, c2, cur, hv2, h1, h2, h3, h4, h5, h6⟩⟩ := h
 ·cases h0
 cases hv2
 have hH : Holds (Value.int .i64) w g 0 ss.toArray := fun j hj => by
  have hj' : j < ss.length := by simpa using hj
  refine ⟨?_, hfz _⟩
  rw [Nat.zero_add]
  refine hcl j _ ?_
  unfold ivs
  rw [List.getElem?_map, List.getElem?_eq_getElem hj']
  simp [getElem!_pos, hj']
 have hcl2 : (Lib.compact ss).length ≤ ss.length := by
  have := compact_le ss.toArray ss.toArray.size
  simpa [Lib.compact] using this
 refine (calls_of_every_depth fun D => AnySG.slices_Compact_int_in compactA D g 0 cap ss w hH (by unfold maxLen at hcm; omega) hnc).mono ?_
 rintro e w' ⟨rfl, q, rfl⟩
 obtain ⟨ts, hts⟩ : ∃ ts, ts = Lib.compact ss ++ List.replicate (ss.length - (Lib.compact ss).length) 0 := ⟨_, rfl⟩
 have hlen : ts.length = ss.length := by rw [hts]; simp; omega
 rw [← hts]
 have hge : putRow (Value.int .i64) (Sort.ahead w q) g 0 ts.toArray = grow (putRow (Value.int .i64) (Sort.ahead w q) g 0 ts.toArray) #[] := by rw [grow_empty]
 have ho := ownsRow_sortedI (w := w) (base := B) (n := q) (os := #[]) hlen h1 h2 h3 h4 h5
 have hg : w.grownBy _ (some g) := grownBy_sortedI (w := w) (g := g) (n := q) (os := #[]) ts.toArray
 rw [← hge] at ho hg
 refine ⟨rfl, ?_, by omega, hg⟩
 obtain ⟨g3, c3, hv3, -, -, -, -, hcl3⟩ := own_some ho hn
 cases hv3
 intro i u hu
 refine ⟨g, 0, rfl, ?_, ?_⟩
 ·have := ho.lt g rfl
  omega
 ·rw [Nat.zero_add]
  refine hcl3 i u ?_
  rw [hts, List.map_append]
  have hi := (List.getElem?_eq_some_iff.1 hu).1
  rw [List.getElem?_append_left (by simpa [ivs] using hi)]
  exact hu
set_option maxHeartbeats 4000000 in
theorem reached_c (A : Option Addr) (cap : Nat) (l : List Rw) (hl : l.length ≤ 1000) (hi : ∀ r ∈ l, In64 (ch r) ∧ In64 (pa r)) (w : World) (hc : At w w.heap.size A (tvs l)) :
  Calls Tryz.prog 32 #[.slice A l.length cap] w (ToldI (reachR l) w) := by
 have HC := Lib.hid hc
 have HI := Lib.hid hi
 have hw0 : Below w.heap.size w (w.alloc (.cells #[.int .i64 0] 3)) := (Below.refl _ _).alloc (Nat.le_refl _) _
 have heg := end_guard
 have HE := Lib.hid (ends_c A cap l hl (ordOk_all (by omega)) hi _ (hc.keep hw0))
 clear hc hi
 go_enter Tryz.func32, Tryz.ntmps32
 go_wp2_with fail
 refine HE.out.mono ?_
 rintro e w2 ⟨b, D, n, K, rfl, hmap, hE, hKl, hb, hbl⟩
 rw [World.size_alloc] at hb
 have HMAP := Lib.hid hmap
 have HEK := Lib.hid (And.intro hE hKl)
 have HROW := Lib.hid (below_ownI (own_oneI w 0) hbl)
 have HB2 := Lib.hid (hw0.trans (hbl.mono hw0.size))
 clear hmap hE hKl hbl hw0 HE
 go_wp2_with fail
 go_loopw [3, 12] (fun v i wr => ∃ k : Nat, i = .int .i64 (k : Int) ∧ k ≤ l.length ∧ wr.ownsRow w.heap.size 3 1 v ((got l k).length + 1) (ivs (0 :: got l k)) ∧ wr.ownsMap Tryz.prog 3 RE b n D ∧ some b ≠ v.ownBlock ∧ Below w.heap.size w wr) (fun _ i _ => l.length - (Go.RowKit.intOf i).toNat)
 case atStart => exact ⟨0, rfl, Nat.zero_le _, HROW.out, HMAP.out, by simp [Value.ownBlock]; omega, HB2.out⟩
 case round =>
  clear HROW HMAP HB2
  obtain ⟨k, rfl, hk, hown, hmap, hne, hbw⟩ := hrel
  have hgl := got_len l k
  have HOWN := Lib.hid hown
  have HMAP := Lib.hid hmap
  obtain ⟨g, cp, rfl⟩ := ownsRow_succ hown
  clear hown hmap
  by_cases hlt : k < l.length
  ·obtain ⟨r, hr⟩ := some_at hlt
   have hcw := HC.out.keep hbw
   obtain ⟨b0, o0, rfl, hb0, c0, c1, c2, c3⟩ := row_cells hcw hr
   have hki : (0 : Int) ≤ (k : Int) := by omega
   have hkl : (k : Int) < (l.length : Int) := by omega
   have hlk := look_e1 (HMAP.out.alloc (.cells #[.int .i64 (ch r), .int .i64 (pa r), .string (ba (nm r)), .float .f64 (rk r)] 28)) HEK.out.1 (HI.out r (List.mem_of_getElem? hr)).1 (HEK.out.2 r (List.mem_of_getElem? hr))
   have hq : ∀ W, (binOp .eql 56 (ev (endE l (ch r))) (.agg #[.int .i64 0, .bool true])).run Tryz.prog W = .ok (.bool (decide (endE l (ch r) = (0, true)))) W := fun W => eql_ends _ W
   have HX := Lib.hid hr
   clear hr hcw
   by_cases hp : endE l (ch r) = (0, true)
   ·rw [decide_eq_true hp, hp] at hq
    rw [hp] at hlk
    have HP := Lib.hid hp
    clear hp
    simp only [ev] at hlk hq
    have hcell : ∀ j u, (ivs [ch r])[j]? = some u → ((wr.alloc (.cells #[.int .i64 (ch r), .int .i64 (pa r), .string (ba (nm r)), .float .f64 (rk r)] 28)).alloc (.cells #[.int .i64 (ch r)] 3)).cell? ((⟨wr.heap.size + 1, 0, none⟩ : Addr).add j) = some u := by
     intro j u hu
     have h := is_cell (is_new (wr.alloc (.cells #[.int .i64 (ch r), .int .i64 (pa r), .string (ba (nm r)), .float .f64 (rk r)] 28)) 3 [.int .i64 (ch r)]) j
     rw [World.size_alloc] at h
     rw [add_head, ← hu]
     exact h
    go_wp2_with (at_builtin; refine append_dichI _ rfl _ _ rfl w.heap.size _ _ _ rfl ((HOWN.out.alloc (.cells #[.int .i64 (ch r), .int .i64 (pa r), .string (ba (nm r)), .float .f64 (rk r)] 28)).alloc (.cells #[.int .i64 (ch r)] 3)) ⟨wr.heap.size + 1, 0, none⟩ 1 (ch r) (by first | rfl | simp) hcell (by omega) (by have := hbw.size; simp; omega) ?_; intro v' w3 hown' hgrow hd)
    go_roundw
    case rel =>
     have hm := got_yes HX.out HP.out
     have hb3 : b < wr.heap.size := HMAP.out.lt
     refine ⟨k + 1, by go_num, by omega, ?_, ((HMAP.out.alloc (.cells #[.int .i64 (ch r), .int .i64 (pa r), .string (ba (nm r)), .float .f64 (rk r)] 28)).alloc (.cells #[.int .i64 (ch r)] 3)).kept hgrow hne, ?_, ?_⟩
     ·rw [hm, List.length_append]
      exact hown'
     ·rcases hd with hd | hd
      ·rw [hd]; exact hne
      ·rw [hd]; simp; omega
     ·refine ((hbw.alloc hbw.size _).alloc (by have := hbw.size; simp; omega) _).grown hgrow (by have := hbw.size; simp; omega) fun j hj => ?_
      exact (HOWN.out.lt j hj).1
    case measure => simp only [Go.RowKit.intOf]; omega
   ·rw [decide_eq_false hp] at hq
    have HP := Lib.hid hp
    clear hp
    obtain ⟨v1, v2, hv⟩ : ∃ v1 v2, endE l (ch r) = (v1, v2) := ⟨_, _, rfl⟩
    rw [hv] at hlk hq
    clear hv
    simp only [ev] at hlk hq
    go_wp2_with fail
    go_roundw
    case rel =>
     have hm := got_no HX.out HP.out
     refine ⟨k + 1, by go_num, by omega, ?_, HMAP.out.alloc _, hne, hbw.alloc hbw.size _⟩
     rw [hm]
     exact HOWN.out.alloc _
    case measure => simp only [Go.RowKit.intOf]; omega
  ·obtain rfl : k = l.length := by omega
   have hga := got_all l
   obtain ⟨ss, hss⟩ : ∃ ss, ss = 0 :: got l l.length := ⟨_, rfl⟩
   have hsl : (got l l.length).length + 1 = ss.length := by rw [hss]; rfl
   have hre : Lib.compact (ss.mergeSort fun x y => decide (x ≤ y)) = reachR l := reachR_sorted (by rw [hss, hga])
   rw [← hss, hsl] at HOWN
   rw [hsl] at hne ⊢
   obtain ⟨tt, htt⟩ : ∃ tt, tt = ss.mergeSort fun x y => decide (x ≤ y) := ⟨_, rfl⟩
   have htl : tt.length = ss.length := by rw [htt]; simp
   rw [← htt] at hre
   have hs0 : 0 < ss.length := by omega
   have hgB := (HOWN.out.lt g rfl).1
   have HS := Lib.hid (sort_c HOWN.out hs0 (by omega))
   rw [← htt] at HS
   have HRE := Lib.hid hre
   have HTL := Lib.hid htl
   have HB0 := Lib.hid hbw
   clear hss hsl hre htt htl hga hgl hbw hne
   go_wp2_with fail
   refine HS.out.mono ?_
   rintro e w3 ⟨rfl, hown3, hg3⟩
   have hown4 : w3.ownsRow w.heap.size 3 1 (.slice (some ⟨g, 0, none⟩) tt.length cp) tt.length (ivs tt) := by rw [HTL.out]; exact hown3
   have HCP := Lib.hid (compact_c hown4 (by rw [HTL.out]; exact hs0))
   rw [HTL.out] at HCP
   have HG3 := Lib.hid hg3
   clear hown3 hown4 hg3
   go_wp2_with fail
   refine HCP.out.mono ?_
   rintro e w4 ⟨rfl, hat4, hc4, hg4⟩
   have HAT := Lib.hid hat4
   have HG4 := Lib.hid hg4
   clear hat4 hg4
   go_wp2_with fail
   go_ret
   rw [← HRE.out]
   refine ⟨_, _, rfl, HAT.out, (fun h => by cases h), hc4, ?_⟩
   exact (HB0.out.grown HG3.out HB0.out.size (fun j hj => by cases hj; exact hgB)).grown HG4.out (by have := HG3.out.size; have := HB0.out.size; omega) (fun j hj => by cases hj; exact hgB)
end Go.Proofs.YtkobmnbjeppnaaaGreat
