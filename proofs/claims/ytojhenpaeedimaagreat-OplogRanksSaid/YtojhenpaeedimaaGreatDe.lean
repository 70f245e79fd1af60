/-
 delta's Sums, the document's Sums and Deltas.
 The document's Deltas; rising lists.
 The document's Rising; Encode and the document's.
-/
import Derived.Test.YtojhenpaeedimaaGreatDa
import Derived.Deep.RegionLaw
import Derived.Test.YtojhenpaeedimaaGreatMg
import Derived.Test.YtojhenpaeedimaaGreatBc
section
namespace Go.Proofs.YtojhenpaeedimaaGreat
namespace Dl
open Go.RowKit
open Pk
set_option maxRecDepth 100000
theorem own_snocI {w : World} {base : Nat} {v : Value} {xs : List Int} {x : Int} (h : w.ownsRow base 3 1 v (xs.length + 1) (ivs xs ++ [.int .i64 x])) : w.ownsRow base 3 1 v (xs ++ [x]).length (ivs (xs ++ [x])) := by
 rw [List.length_append]; simpa [ivs] using h
theorem below_ownI {B : Nat} {w w1 w2 : World} {v : Value} {o : Obj} {e : TypeId} {size n : Nat} {xs : List Value} (hb : Below B w w1) (hB : B ≤ w1.heap.size) (hown : w1.ownsRow B e size v n xs) (hg : (w1.alloc o).grownBy w2 v.ownBlock) : Below B w w2 :=
 (hb.alloc hB o).grown hg (by simp; omega) (fun k hk => (hown.lt k hk).1)
set_option maxHeartbeats 2000000 in
theorem sums_c (A : Option Addr) (cap : Nat) (xs : List Int) (hx : xs.length ≤ 100000) (w : World) (hc : At w w.heap.size A (ivs xs)) :
  Calls Tryz.prog 179 #[.slice A xs.length cap] w fun e w' => ∃ A' cap', e = .returned (.slice A' xs.length cap') ∧ xs.length ≤ cap' ∧ Fresh w.heap.size A' ∧ At w' w'.heap.size A' (ivs (sm 0 xs)) ∧ Below w.heap.size w w' := by
 obtain ⟨i0, hi, hz0, hz1, hz2⟩ := info_parts Tryz.info3
 have HC := Lib.hid hc
 clear hc
 have hbx : i0.bytes * xs.length ≤ 281474976710656 := by rw [hz2]; omega
 have hmx : xs.length ≤ maxLen := by unfold maxLen; omega
 go_enter Tryz.func179, Tryz.ntmps179
 go_wp2_with (at_make; refine wpList_make_own _ rfl _ _ 57 rfl w.heap.size 3 i0 (.int .i64 0) 1 Tryz.underlying57 hi hz0 hz1 .i64 .i64 _ xs.length rfl rfl rfl hbx hmx (Nat.le_refl _) ?_; intro w1 hown1 hgrow1)
 have hb1 : Below w.heap.size w w1 := (Below.refl _ w).grown hgrow1 (Nat.le_refl _) (fun k e => by cases e)
 clear hbx hmx hgrow1
 go_loopw [3, 4, 12] (fun v a i wr => ∃ (k : Nat) (acc : Int) (out : List Int), i = .int .i64 (k : Int) ∧ a = .int .i64 acc ∧ k ≤ xs.length ∧ out.length = k ∧ out ++ sm acc (xs.drop k) = sm 0 xs ∧ wr.ownsRow w.heap.size 3 1 v out.length (ivs out) ∧ Below w.heap.size w wr)
  (fun _ _ i _ => xs.length - (Go.RowKit.intOf i).toNat)
 case atStart => exact ⟨0, 0, [], rfl, rfl, Nat.zero_le _, rfl, rfl, hown1, hb1⟩
 case round =>
  clear hown1 hb1
  obtain ⟨k, acc, out, rfl, rfl, hk, hol, heq, hown, hb⟩ := hrel
  have HE := Lib.hid heq
  have HOL := Lib.hid hol
  have hb0 := hb.size
  have hle : out.length ≤ 100000 := by omega
  clear heq hol
  by_cases hlt : k < xs.length
  ·obtain ⟨x, hxk⟩ := some_at hlt
   obtain ⟨b, off, rfl, hbl, hcell⟩ := (HC.out.below hb) k _ (ivs_at hxk)
   have HX := Lib.hid hxk
   clear hxk
   go_wp2_with (at_builtin; refine wpList_append_own _ rfl _ _ 57 rfl w.heap.size 3 i0 (.int .i64 0) 1 8 Tryz.underlying57 hi hz0 hz1 hz2 rfl (by decide) _ _ _ rfl (hown.alloc _) ⟨wr.heap.size, 0, none⟩ 1 1 [.int .i64 (wrap64 (acc + x))] rfl rfl (cell_one_new _ _ _) (by simp [Value.oneCell']) (by unfold maxLen; omega) (by omega) (by simp; omega) ?_; intro v' w2 hown' hgrow _)
   have hb2 := below_ownI hb hb0 hown hgrow
   have ho2 := own_snocI hown'
   clear hown hown' hgrow hb
   go_wp2
   go_roundw
   case rel => exact ⟨k + 1, wrap64 (acc + x), out ++ [wrap64 (acc + x)], by go_num, rfl, by omega, by simp [HOL.out], by rw [← HE.out, drop_at_cons HX.out]; simp [sm, w64, wrap64], ho2, hb2⟩
   case measure => simp only [Go.RowKit.intOf]; omega
  ·obtain rfl : k = xs.length := by omega
   obtain ⟨A', cap', rfl, ha, hfr, hcp⟩ := own_at hown
   have hfin : out = sm 0 xs := by rw [← HE.out, List.drop_length]; simp [sm]
   rw [HOL.out]
   go_wp2
   go_ret
   rw [← hfin]
   exact ⟨_, _, rfl, by have := HOL.out; omega, hfr, ha, hb⟩
theorem wrap_w64 (x : Int) : wrap64 x = w64 x := by unfold wrap64 w64; rfl
/-- a sum on the unsigned side -/
theorem usum (acc : Nat) (x : Int) : ∃ u : Nat, u < 18446744073709551616 ∧ IntKind.u64.wrap ((acc : Int) + IntKind.u64.wrap x) = (u : Int) ∧ w64 (u : Int) = w64 (w64 (acc : Int) + x) := by
 refine ⟨(((acc : Int) + x % 18446744073709551616) % 18446744073709551616).toNat, by omega, by rw [IntKind.wrap_u64, IntKind.wrap_u64]; omega, ?_⟩
 unfold w64
 omega
set_option maxHeartbeats 2000000 in
theorem rsums_c (A : Option Addr) (cap : Nat) (xs : List Int) (hx : xs.length ≤ 100000) (hxi : Ints xs) (w : World) (hc : At w w.heap.size A (ivs xs)) :
  Calls Tryz.prog 132 #[.slice A xs.length cap] w fun e w' => ∃ A' cap', e = .returned (.slice A' xs.length cap') ∧ xs.length ≤ cap' ∧ Fresh w.heap.size A' ∧ At w' w'.heap.size A' (ivs (sm 0 xs)) ∧ Below w.heap.size w w' := by
 obtain ⟨i0, hi, hz0, hz1, hz2⟩ := info_parts Tryz.info3
 have HC := Lib.hid hc
 have HI := Lib.hid hxi
 clear hc hxi
 go_enter Tryz.func132, Tryz.ntmps132
 go_wp2
 go_loopw [3, 4, 5] (fun v a i wr => ∃ (k : Nat) (acc : Nat) (out : List Int), i = .int .i64 (k : Int) ∧ a = .int .u64 (acc : Int) ∧ acc < 18446744073709551616 ∧ k ≤ xs.length ∧ out.length = k ∧ out ++ sm (w64 acc) (xs.drop k) = sm 0 xs ∧ wr.ownsRow w.heap.size 3 1 v out.length (ivs out) ∧ Below w.heap.size w wr)
  (fun _ _ i _ => xs.length - (Go.RowKit.intOf i).toNat)
 case atStart => exact ⟨0, 0, [], rfl, rfl, by omega, Nat.zero_le _, rfl, rfl, World.ownsRow_nil _ _ _ _, Below.refl _ _⟩
 case round =>
  obtain ⟨k, acc, out, rfl, rfl, hacc, hk, hol, heq, hown, hb⟩ := hrel
  have HE := Lib.hid heq
  have HOL := Lib.hid hol
  have hb0 := hb.size
  have hle : out.length ≤ 100000 := by omega
  clear heq hol
  by_cases hlt : k < xs.length
  ·obtain ⟨x, hxk⟩ := some_at hlt
   obtain ⟨b, off, rfl, hbl, hcell⟩ := (HC.out.below hb) k _ (ivs_at hxk)
   have HX := Lib.hid hxk
   have hx64 := HI.out x (mem_at hxk)
   unfold In64 at hx64
   obtain ⟨hx1, hx2⟩ := hx64
   clear hxk hx1 hx2
   obtain ⟨u, hu, hw1, hw2⟩ := usum acc x
   have hw3 := wrap_w64 (u : Int)
   have HW := Lib.hid hw2
   clear hw2
   go_wp2_with (at_builtin; refine wpList_append_own _ rfl _ _ 57 rfl w.heap.size 3 i0 (.int .i64 0) 1 8 Tryz.underlying57 hi hz0 hz1 hz2 rfl (by decide) _ _ _ rfl (hown.alloc _) ⟨wr.heap.size, 0, none⟩ 1 1 [.int .i64 (w64 (u : Int))] rfl rfl (cell_one_new _ _ _) (by simp [Value.oneCell']) (by unfold maxLen; omega) (by omega) (by simp; omega) ?_; intro v' w2 hown' hgrow _)
   have hb2 := below_ownI hb hb0 hown hgrow
   have ho2 := own_snocI hown'
   clear hown hown' hgrow hb hw1 hw3
   go_wp2
   go_roundw
   case rel => exact ⟨k + 1, u, out ++ [w64 (u : Int)], by go_num, rfl, hu, by omega, by simp [HOL.out], by rw [← HE.out, drop_at_cons HX.out]; simp [sm, HW.out], ho2, hb2⟩
   case measure => simp only [Go.RowKit.intOf]; omega
  ·obtain rfl : k = xs.length := by omega
   obtain ⟨A', cap', rfl, ha, hfr, hcp⟩ := own_at hown
   have hfin : out = sm 0 xs := by rw [← HE.out, List.drop_length]; simp [sm]
   rw [HOL.out]
   go_wp2
   go_ret
   rw [← hfin]
   exact ⟨_, _, rfl, by have := HOL.out; omega, hfr, ha, hb⟩
end Dl
end Go.Proofs.YtojhenpaeedimaaGreat
end
section
namespace Go.Proofs.YtojhenpaeedimaaGreat
namespace Dl
open Go.RowKit Go.IntWalk
open Pk
set_option maxRecDepth 100000
/-- append to a row of the call's own, as one step of a region that draws -/
theorem step_append_own {P : Program} {ops : Array Oper} {o : Oper} {a : Act} {w : World} {K : Act → World → Prop} {Q : Exit → Act → World → Prop} {E : Prop} (hgd : o.guard = none) (s x : Operand) (t : TypeId)
  (ho : o.op = .call { callee := .builtin .append, args := #[s, x], argTypes := #[t, t] })
  (base : Nat) (e : TypeId) (i : TypeInfo) (z : Value) (size bytes : Nat) (ht : P.underlying t = some (.slice e)) (hi : P.info? e = some i) (hz : i.zero = some z)
  (hsize : i.size = size) (hby : i.bytes = bytes) (hzs : z.cells.size = size) (hsz : 0 < size)
  (v : Value) (n : Nat) (xs : List Value) (hs : a.eval s = v) (hown : w.ownsRow base e size v n xs)
  (ad : Addr) (m c : Nat) (news : List Value) (hx : a.eval x = .slice (some ad) m c) (hl : news.length = m * size) (hnews : ∀ j u, news[j]? = some u → w.cell? (ad.add j) = some u) (h1 : ∀ u ∈ news, u.oneCell' = true)
  (h63 : n + m ≤ maxLen) (hbytes : (n + m) * bytes ≤ 140737488355328) (hbase : base ≤ w.heap.size)
  (h : ∀ v' w', w'.ownsRow base e size v' (n + m) (xs ++ news) → w.grownBy w' v.ownBlock → K (a.put o.dst v') w') :
  if Region.wanted o (yielded ops a.tmps) = true then Oper.wp P o a w K Q else E := by
 have hw : Region.wanted o (yielded ops a.tmps) = true := by simp [Region.wanted, hgd]
 rw [if_pos hw]
 exact wp_append_own w s x t ho base e i z size bytes ht hi hz hsize hby hzs hsz v n xs hs hown ad m c news hx hl hnews h1 h63 hbytes hbase fun v' w' h2 h3 _ => h v' w' h2 h3
theorem own_drew {w : World} {base : Nat} {e : TypeId} {size : Nat} {v : Value} {n : Nat} {xs : List Value} (h : w.ownsRow base e size v n xs) : w.drew.ownsRow base e size v n xs := h
/-- a difference on the unsigned side -/
theorem udiff (x a : Int) : wrap64 (IntKind.u64.wrap (IntKind.u64.wrap x - IntKind.u64.wrap a)) = w64 (x - a) := by
 rw [IntKind.wrap_u64, IntKind.wrap_u64, IntKind.wrap_u64]
 unfold wrap64 w64
 omega
set_option maxHeartbeats 4000000 in
theorem rdeltas_c (A : Option Addr) (cap : Nat) (xs : List Int) (hx : xs.length ≤ 100000) (hxi : Ints xs) (w : World) (hc : At w w.heap.size A (ivs xs)) :
  Calls Tryz.prog 99 #[.slice A xs.length cap] w fun e w' => ∃ A' cap', e = .returned (.slice A' xs.length cap') ∧ xs.length ≤ cap' ∧ Fresh w.heap.size A' ∧ At w' w'.heap.size A' (ivs (dl 0 xs)) ∧ Below w.heap.size w w' := by
 obtain ⟨i0, hi, hz0, hz1, hz2⟩ := info_parts Tryz.info3
 have HC := Lib.hid hc
 have HI := Lib.hid hxi
 clear hc hxi
 go_enter Tryz.func99, Tryz.ntmps99
 go_wp2
 go_loopw [3, 4] (fun v i wr => ∃ (k : Nat) (ahead : Int) (out : List Int), i = .int .i64 (k : Int) ∧ k ≤ xs.length ∧ out.length = k ∧ out ++ dl ahead (xs.drop k) = dl 0 xs ∧ (k = 0 → ahead = 0) ∧ (0 < k → xs[k - 1]? = some ahead) ∧ wr.ownsRow w.heap.size 3 1 v out.length (ivs out) ∧ Below w.heap.size w wr)
  (fun _ i _ => xs.length - (Go.RowKit.intOf i).toNat)
 case atStart => exact ⟨0, 0, [], rfl, Nat.zero_le _, rfl, rfl, fun _ => rfl, fun h => by omega, World.ownsRow_nil _ _ _ _, Below.refl _ _⟩
 case round =>
  obtain ⟨k, ahead, out, rfl, hk, hol, heq, hz, hp, hown, hb⟩ := hrel
  have HE := Lib.hid heq
  have HOL := Lib.hid hol
  have hb0 := hb.size
  have hle : out.length ≤ 100000 := by omega
  clear heq hol
  by_cases hlt : k < xs.length
  ·obtain ⟨x, hxk⟩ := some_at hlt
   have HX := Lib.hid hxk
   by_cases h0 : k = 0
   ·subst h0
    have ha0 : ahead = 0 := hz rfl
    have hxid := w64_id (HI.out x (mem_at hxk))
    obtain ⟨b, off, rfl, hbl, hcell⟩ := (HC.out.below hb) 0 _ (ivs_at hxk)
    rw [Nat.add_zero] at hcell
    have HW := Lib.hid hxid
    have HA := Lib.hid ha0
    clear hxk hxid ha0 hz hp
    go_wp2_with (at_builtin; refine wpList_append_own _ rfl _ _ 57 rfl w.heap.size 3 i0 (.int .i64 0) 1 8 Tryz.underlying57 hi hz0 hz1 hz2 rfl (by decide) _ _ _ rfl (hown.alloc _) ⟨wr.heap.size, 0, none⟩ 1 1 [.int .i64 x] rfl rfl (cell_one_new _ _ _) (by simp [Value.oneCell']) (by unfold maxLen; omega) (by omega) (by simp; omega) ?_; intro v' w2 hown' hgrow _)
    have hb2 := below_ownI hb hb0 hown hgrow
    have ho2 := own_snocI hown'
    clear hown hown' hgrow hb
    go_wp2
    go_roundw
    case rel => exact ⟨1, x, out ++ [x], by go_num, by omega, by simp [HOL.out], by rw [← HE.out, drop_at_cons HX.out, HA.out, dl_cons, Int.sub_zero, HW.out]; simp, fun h => by omega, fun _ => HX.out, ho2, hb2⟩
    case measure => simp only [Go.RowKit.intOf]; omega
   ·have hpk := hp (by omega)
    have hxw := udiff x ahead
    have hbd := hb.drew
    obtain ⟨b, off, rfl, hbl, hcell⟩ := (HC.out.below hb) k _ (ivs_at hxk)
    obtain ⟨b', off', hbe, _, hcell2⟩ := (HC.out.below hb) (k - 1) _ (ivs_at hpk)
    cases hbe
    obtain ⟨j, hj⟩ : ∃ j, k = j + 1 := ⟨k - 1, by omega⟩
    subst hj
    have hjs : (0 : Int) ≤ (j : Int) + 1 := by omega
    have hjl : j < xs.length := by omega
    have hjw : IntKind.i64.wrap (j : Int) = (j : Int) := by rw [i64_left]; exact wrap64_in _ (by omega)
    rw [Nat.add_sub_cancel] at hcell2 hpk
    have HWR := Lib.hid hxw
    clear hz hp hpk hxw hxk h0
    go_wp2
    have hown2 := own_drew hown
    go_region_law (refine step_append_own rfl _ _ 57 rfl w.heap.size 3 i0 (.int .i64 0) 1 8 Tryz.underlying57 hi hz0 hz1 hz2 rfl (by decide) _ _ _ rfl (hown2.alloc _) ⟨wr.heap.size, 0, none⟩ 1 1 [.int .i64 (IntKind.i64.wrap (IntKind.u64.wrap (IntKind.u64.wrap x - IntKind.u64.wrap ahead)))] rfl rfl (cell_one_new wr.drew _ _) (by simp [Value.oneCell']) (by unfold maxLen; omega) (by omega) (by simp; omega) ?_; intro v' w2 hown' hgrow)
    all_goals
     have hb2 := below_ownI hb.drew (B := w.heap.size) (by simp; omega) hown2 hgrow
     have ho2 := own_snocI hown'
     rw [i64_left, HWR.out] at ho2
     clear hown hown' hgrow hb hown2 hbd
     go_wp2
     go_roundw
     case rel => exact ⟨j + 1 + 1, x, out ++ [w64 (x - ahead)], by go_num, by omega, by simp [HOL.out], by rw [← HE.out, drop_at_cons HX.out]; simp [dl_cons], fun h => by omega, fun _ => HX.out, ho2, hb2⟩
     case measure => simp only [Go.RowKit.intOf]; omega
  ·obtain rfl : k = xs.length := by omega
   obtain ⟨A', cap', rfl, ha, hfr, hcp⟩ := own_at hown
   have hfin : out = dl 0 xs := by rw [← HE.out, List.drop_length]; simp [dl, prs]
   rw [HOL.out]
   clear hz hp
   go_wp2
   go_ret
   rw [← hfin]
   exact ⟨_, _, rfl, by have := HOL.out; omega, hfr, ha, hb⟩
end Dl
end Go.Proofs.YtojhenpaeedimaaGreat
end
section
namespace Go.Proofs.YtojhenpaeedimaaGreat
namespace Dl
open Go.RowKit Go.IntWalk
open Pk
set_option maxRecDepth 100000
theorem but_cell {B b : Nat} {w w' : World} (h : But B b w w') {p : Addr} (hp : p.block < B) (hne : p.block ≠ b) : w'.cell? p = w.cell? p := World.cell?_of_block (h.block _ hp hne)
set_option maxHeartbeats 2000000 in
theorem encode_c (A : Option Addr) (cap : Nat) (xs : List Int) (hx : xs.length ≤ 100000) (w : World) (hc : At w w.heap.size A (ivs xs)) :
  Calls Tryz.prog 43 #[.slice A xs.length cap] w fun e w' => e = .returned (.string (ba (encL xs))) ∧ Below w.heap.size w w' := by
 have hdi := dl_in 0 xs
 have hdl := dl_len 0 xs
 have hel := (encL_len xs).2
 unfold encL at hel ⊢
 have HC := Lib.hid hc
 have HDI := Lib.hid hdi
 clear hc hdi
 go_enter Tryz.func43, Tryz.ntmps43
 go_wp2_with fail
 have h0 : Below w.heap.size w (w.alloc (.cells #[.pointer none, .slice none 0 0] 111)) := (Below.refl _ _).alloc (Nat.le_refl _) _
 refine (deltas_c A cap xs hx _ ((HC.out.below h0).mono (by simp))).mono ?_
 rintro e w1 ⟨A', cap', rfl, -, hfr, hat, hb1⟩
 have hbld0 := bld_grown (bld_new w w1.heap.size) hb1
 have hbb : But w1.heap.size w.heap.size w1 w1 := But.refl _ _ _
 rw [World.size_alloc] at hfr hb1
 have hb01 := h0.trans (hb1.mono (Nat.le_succ _))
 have hsz1 : w.heap.size < w1.heap.size := by have := hb1.size; simp at this; omega
 obtain ⟨D, hD⟩ : ∃ D, D = dl 0 xs := ⟨_, rfl⟩
 have hdl2 : D.length = xs.length := by rw [hD]; exact hdl
 rw [← hD] at hat HDI hel
 have HD := Lib.hid hD
 have HAT := Lib.hid hat
 have HFR := Lib.hid hfr
 have HEL := Lib.hid hel
 have HDL := Lib.hid hdl2
 clear hD hat hfr hel hdl hdl2 h0 hb1
 go_wp2_with fail
 go_loopw [9] (fun i wr => ∃ k : Nat, i = .int .i64 (k : Int) ∧ k ≤ xs.length ∧ Bld wr w1.heap.size w.heap.size (encD (D.take k)) ∧ But w1.heap.size w.heap.size w1 wr) (fun i _ => xs.length - (Go.RowKit.intOf i).toNat)
 case atStart => exact ⟨0, rfl, Nat.zero_le _, hbld0, hbb⟩
 case round =>
  clear hbld0 hbb
  obtain ⟨k, rfl, hk, hbld, hbut⟩ := hrel
  by_cases hlt : k < xs.length
  ·obtain ⟨x, hxk⟩ := some_at (show k < D.length by rw [HDL.out]; exact hlt)
   obtain ⟨b, off, rfl, hbl, hcell⟩ := HAT.out k _ (ivs_at hxk)
   have hne : b ≠ w.heap.size := by have := HFR.out _ rfl; simp at this; omega
   have hcell2 : wr.cell? ⟨b, off + k, none⟩ = some (.int .i64 x) := (but_cell hbut (p := ⟨b, off + k, none⟩) hbl hne).trans hcell
   have hx64 := HDI.out x (mem_at hxk)
   have hzl := zig_lt hx64.1 (by have := hx64.2; omega)
   obtain ⟨hx1, hx2⟩ := hx64
   have hpl := put_len10 hzl
   have hde := (encD_len (D.take k) (fun y hy => HDI.out y (List.mem_of_mem_take hy))).2
   rw [List.length_take] at hde
   have hle : (encD (D.take k)).length + (put (zig x)).length ≤ 140737488355328 := by omega
   have hws := hbut.size
   have HX := Lib.hid hxk
   clear hcell hxk hpl hde
   go_wp2_with fail
   refine (zig_c x hx1 (by omega) _).mono ?_
   rintro e wz ⟨rfl, rfl⟩
   go_wp2_with fail
   refine (put_c (zig x) hzl _).mono ?_
   rintro e w2 ⟨rfl, hb2⟩
   have hbld2 := bld_grown hbld hb2
   have hbut2 := hbut.trans (but_below (b := w.heap.size) (hb2.mono hws))
   have hws2 := Nat.le_trans hws hb2.size
   clear hbld hbut hb2 hcell2
   go_wp2_with fail
   refine (write_b w1.heap.size w.heap.size _ (put (zig x)) _ hbld2 hle hws2).mono ?_
   rintro e w3 ⟨rfl, hbld3, hbut3⟩
   have hbut4 := hbut2.trans hbut3
   clear hbld2 hbut2 hbut3
   go_wp2_with fail
   go_roundw
   case rel => exact ⟨k + 1, by go_num, by omega, by rw [List.take_add_one, HX.out]; simpa [encD] using hbld3, hbut4⟩
   case measure => simp only [Go.RowKit.intOf]; omega
  ·obtain rfl : k = xs.length := by omega
   rw [← HDL.out, List.take_length] at hbld
   go_wp2_with fail
   refine (string_c w1.heap.size w.heap.size w.heap.size _ _ hbld (Nat.le_of_lt hsz1) (Nat.le_refl _)).mono ?_
   rintro e w3 ⟨rfl, hb3⟩
   go_wp2
   go_ret
   rw [← HD.out]
   exact ⟨rfl, (hb01.trans (hbut.below (Nat.le_of_lt hsz1) (Nat.le_refl _))).trans hb3⟩
theorem ba_append (a b : List UInt8) : ba a ++ ba b = ba (a ++ b) := by
 apply ByteArray.ext
 simp [ba]
theorem add_ba (a b : List UInt8) (h : a.length + b.length ≤ 9223372036854775807) (w : World) : (Op.stringOp .add (ba a) (ba b)).run Tryz.prog w = .ok (.string (ba (a ++ b))) w := by
 rw [run_string_add_sum w (ba a) (ba b) (by rw [ba_size, ba_size]; exact h), ba_append]
set_option maxHeartbeats 2000000 in
theorem rencode_c (A : Option Addr) (cap : Nat) (xs : List Int) (hx : xs.length ≤ 100000) (hxi : Ints xs) (w : World) (hc : At w w.heap.size A (ivs xs)) :
  Calls Tryz.prog 47 #[.slice A xs.length cap] w fun e w' => e = .returned (.string (ba (encL xs))) ∧ Below w.heap.size w w' := by
 have hdi := dl_in 0 xs
 have hdl := dl_len 0 xs
 have hel := (encL_len xs).2
 unfold encL at hel ⊢
 have HC := Lib.hid hc
 have HDI := Lib.hid hdi
 have HXI := Lib.hid hxi
 clear hc hdi hxi
 go_enter Tryz.func47, Tryz.ntmps47
 go_wp2_with fail
 refine (rdeltas_c A cap xs hx HXI.out _ HC.out).mono ?_
 rintro e w1 ⟨A', cap', rfl, -, -, hat, hb1⟩
 obtain ⟨D, hD⟩ : ∃ D, D = dl 0 xs := ⟨_, rfl⟩
 have hdl2 : D.length = xs.length := by rw [hD]; exact hdl
 rw [← hD] at hat HDI hel
 have HD := Lib.hid hD
 have HAT := Lib.hid hat
 have HDL := Lib.hid hdl2
 clear hD hat hel hdl hdl2
 go_wp2_with fail
 go_loopw [4, 5] (fun s i wr => ∃ k : Nat, s = .string (ba (encD (D.take k))) ∧ i = .int .i64 (k : Int) ∧ k ≤ xs.length ∧ Below w1.heap.size w1 wr) (fun _ i _ => xs.length - (Go.RowKit.intOf i).toNat)
 case atStart => exact ⟨0, rfl, rfl, Nat.zero_le _, Below.refl _ _⟩
 case round =>
  obtain ⟨k, rfl, rfl, hk, hb⟩ := hrel
  by_cases hlt : k < xs.length
  ·obtain ⟨x, hxk⟩ := some_at (show k < D.length by rw [HDL.out]; exact hlt)
   obtain ⟨b, off, rfl, hbl, hcell⟩ := (HAT.out.below hb) k _ (ivs_at hxk)
   have hx64 := HDI.out x (mem_at hxk)
   have hzl := zig_lt hx64.1 (by have := hx64.2; omega)
   obtain ⟨hx1, hx2⟩ := hx64
   have hpl := put_len10 hzl
   have hde := (encD_len (D.take k) (fun y hy => HDI.out y (List.mem_of_mem_take hy))).2
   rw [List.length_take] at hde
   have hadd := add_ba (encD (D.take k)) (put (zig x)) (by omega)
   have HX := Lib.hid hxk
   clear hxk hpl hde
   go_wp2_with fail
   refine (rZig_c x hx1 (by omega) _).mono ?_
   rintro e wz ⟨rfl, rfl⟩
   go_wp2_with fail
   refine (rPut_c (zig x) hzl _).mono ?_
   rintro e w2 ⟨rfl, hb2⟩
   have hb3 := hb.trans (hb2.mono hb.size)
   clear hb hb2 hcell
   go_wp2_with fail
   go_roundw
   case rel => exact ⟨k + 1, by rw [List.take_add_one, HX.out]; simp [encD], by go_num, by omega, hb3⟩
   case measure => simp only [Go.RowKit.intOf]; omega
  ·obtain rfl : k = xs.length := by omega
   rw [← HDL.out, List.take_length]
   go_wp2_with fail
   go_ret
   rw [← HD.out]
   exact ⟨rfl, hb1.trans (hb.mono hb1.size)⟩
end Dl
end Go.Proofs.YtojhenpaeedimaaGreat
end
