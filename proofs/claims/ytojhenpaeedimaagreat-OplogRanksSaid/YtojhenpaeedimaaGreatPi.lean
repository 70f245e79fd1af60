/-
 A flag that goes round in a closure; Lengths, the program's and the document's.
 Two lists of flags held against each other; how many are true.
 Lengths, the program's and the document's.
 Lengths, the document's.
 Encode of flags, the program's and the document's.
-/
import Derived.Test.YtojhenpaeedimaaGreatQh
import Derived.Test.YtojhenpaeedimaaGreatMs
import Derived.Test.YtojhenpaeedimaaGreatDg
import Derived.Test.YtojhenpaeedimaaGreatDe
import Derived.Sort.LoopGhostIn
import Derived.Test.YtojhenpaeedimaaGreatMg
section
namespace Go.Proofs.YtojhenpaeedimaaGreat
open Dl Ru
namespace Fg
open Go.RowKit Go.IntWalk
open Pk
set_option maxRecDepth 100000
attribute [local go_sem] Oper.semAt_some
def bvs (l : List Bool) : List Value := l.map Value.bool
theorem bvs_at {l : List Bool} {k : Nat} {x : Bool} (h : l[k]? = some x) : (bvs l)[k]? = some (.bool x) := by simp [bvs, h]
theorem bvs_snoc (l : List Bool) (x : Bool) : bvs (l ++ [x]) = bvs l ++ [.bool x] := by simp [bvs]
theorem Tryz.info4 : (Tryz.prog.info? 4).map (fun i => (i.zero, i.size, i.bytes)) = some (some (.bool false), 1, 1) := by kernel_rfl
theorem grown_set (w : World) (b : Nat) (u : Value) : w.grownBy (w.setCell ⟨b, 0, none⟩ u) (some b) :=
 ⟨rfl, rfl, rfl, by simp [World.setCell], fun k _ hk => Below.heap_setCell _ _ _ _ (fun e => hk (by simp [e]))⟩
theorem turns_c (w : World) : Calls Tryz.prog 172 #[] w fun e w' =>
  e = .returned (.func (.func 208) #[] #[.pointer (some ⟨w.heap.size, 0, none⟩)]) ∧ w' = w.alloc (.cells #[.bool true] 4) := by
 have hmf : ∀ (fn : Fn) (first cap : Array Value) (w : World), (Instr.makeFunc fn first cap).run Tryz.prog w = .ok (.func fn first cap) w := fun _ _ _ _ => rfl
 go_enter Tryz.func172, Tryz.ntmps172
 go_wp2
 go_ret
 exact ⟨rfl, rfl⟩
theorem flip_c (b : Nat) (x : Bool) (w : World) (h : Is w b 4 [.bool x]) : Calls Tryz.prog 208 #[.pointer (some ⟨b, 0, none⟩)] w fun e w' =>
  e = .returned (.bool (!x)) ∧ Is w' b 4 [.bool (!x)] ∧ w.grownBy w' (some b) := by
 have hc := is_cell h 0
 have hf := is_free h 0
 have hlt := is_lt h
 have hset := is_set h 0 (.bool (!x))
 have hg := grown_set w b (.bool (!x))
 simp only [List.getElem?_cons_zero, List.set_cons_zero] at hc hset
 clear h
 have hnot : ∀ (x : Bool) (w : World), (Op.unary .not (.bool x)).run Tryz.prog w = .ok (.bool (!x)) w := fun _ _ => rfl
 go_enter Tryz.func208, Tryz.ntmps208
 go_wp2
 go_ret
 exact ⟨rfl, hset, hg⟩
end Fg
end Go.Proofs.YtojhenpaeedimaaGreat
end
section
namespace Go.Proofs.YtojhenpaeedimaaGreat
open Dl Ru
namespace Fg
open Go.RowKit Go.IntWalk
open Pk
set_option maxRecDepth 100000
attribute [local go_sem] Oper.semAt_some
/-- how many are true -/
def cnt (l : List Bool) : Nat := l.count true
theorem cnt_le (l : List Bool) : cnt l ≤ l.length := List.count_le_length
theorem cnt_take {l : List Bool} {k : Nat} {x : Bool} (h : l[k]? = some x) : cnt (l.take (k + 1)) = cnt (l.take k) + (if x then 1 else 0) := by
 unfold cnt
 rw [List.take_add_one, h, List.count_append]
 cases x <;> simp
theorem count_c (A : Option Addr) (cap : Nat) (l : List Bool) (hx : l.length ≤ 100000) (w : World) (hc : At w w.heap.size A (bvs l)) :
  Calls Tryz.prog 144 #[.slice A l.length cap] w fun e w' => e = .returned (.int .i64 (cnt l : Int)) ∧ w' = w := by
 have HC := Lib.hid hc
 clear hc
 go_enter Tryz.func144, Tryz.ntmps144
 go_wp2_with fail
 go_loopw [3, 8] (fun c i wr => ∃ k : Nat, c = .int .i64 (cnt (l.take k) : Int) ∧ i = .int .i64 (k : Int) ∧ k ≤ l.length ∧ wr = w) (fun _ i _ => l.length - (Go.RowKit.intOf i).toNat)
 case atStart => exact ⟨0, rfl, rfl, Nat.zero_le _, rfl⟩
 case round =>
  obtain ⟨k, rfl, rfl, hk, rfl⟩ := hrel
  have hcl := cnt_le (l.take k)
  rw [List.length_take] at hcl
  by_cases hlt : k < l.length
  ·obtain ⟨x, hxk⟩ := some_at hlt
   obtain ⟨b, off, rfl, _, hcell⟩ := HC.out k _ (bvs_at hxk)
   have HT := Lib.hid (cnt_take hxk)
   clear hxk
   have hc1 : cnt (l.take k) ≤ 100000 := by omega
   clear hcl
   cases x
   ·go_wp2_with fail
    go_roundw
    case rel => exact ⟨k + 1, by rw [HT.out]; rfl, by go_num, by omega, trivial⟩
    case measure => simp only [Go.RowKit.intOf]; omega
   ·go_wp2_with fail
    go_roundw
    case rel => exact ⟨k + 1, by rw [HT.out]; go_num, by go_num, by omega, trivial⟩
    case measure => simp only [Go.RowKit.intOf]; omega
  ·obtain rfl : k = l.length := by omega
   rw [List.take_length]
   go_wp2_with fail
   go_ret
   exact ⟨rfl, rfl⟩
theorem rcount_c (A : Option Addr) (cap : Nat) (l : List Bool) (hx : l.length ≤ 100000) (w : World) (hc : At w w.heap.size A (bvs l)) :
  Calls Tryz.prog 81 #[.slice A l.length cap] w fun e w' => e = .returned (.int .i64 (cnt l : Int)) ∧ w' = w := by
 have HC := Lib.hid hc
 clear hc
 go_enter Tryz.func81, Tryz.ntmps81
 go_wp2_with fail
 go_loopw [3, 4] (fun c i wr => ∃ k : Nat, c = .int .i64 (cnt (l.take k) : Int) ∧ i = .int .i64 (k : Int) ∧ k ≤ l.length ∧ wr = w) (fun _ i _ => l.length - (Go.RowKit.intOf i).toNat)
 case atStart => exact ⟨0, rfl, rfl, Nat.zero_le _, rfl⟩
 case round =>
  obtain ⟨k, rfl, rfl, hk, rfl⟩ := hrel
  have hcl := cnt_le (l.take k)
  rw [List.length_take] at hcl
  by_cases hlt : k < l.length
  ·obtain ⟨x, hxk⟩ := some_at hlt
   obtain ⟨b, off, rfl, _, hcell⟩ := HC.out k _ (bvs_at hxk)
   have HT := Lib.hid (cnt_take hxk)
   clear hxk
   have hc1 : cnt (l.take k) ≤ 100000 := by omega
   clear hcl
   cases x
   ·go_wp2_with fail
    go_roundw
    case rel => exact ⟨k + 1, by rw [HT.out]; rfl, by go_num, by omega, trivial⟩
    case measure => simp only [Go.RowKit.intOf]; omega
   ·go_wp2_with fail
    go_roundw
    case rel => exact ⟨k + 1, by rw [HT.out]; go_num, by go_num, by omega, trivial⟩
    case measure => simp only [Go.RowKit.intOf]; omega
  ·obtain rfl : k = l.length := by omega
   rw [List.take_length]
   go_wp2_with fail
   go_ret
   exact ⟨rfl, rfl⟩
end Fg
end Go.Proofs.YtojhenpaeedimaaGreat
end
section
namespace Go.Proofs.YtojhenpaeedimaaGreat
open Dl Ru
namespace Fg
open Go.RowKit Go.IntWalk
open Pk
set_option maxRecDepth 100000
attribute [local go_sem] Oper.semAt_some
/-- lengths as ints -/
def lenI (l : List Bool) : List Int := (lens false l).map fun (n : Nat) => (n : Int)
theorem lenI_len (l : List Bool) : (lenI l).length ≤ l.length + 1 := by unfold lenI; rw [List.length_map]; exact lens_len _ _
theorem int_snoc (out : List Nat) (j : Nat) : ((out ++ [j]).map fun (n : Nat) => (n : Int)) = (out.map fun (n : Nat) => (n : Int)) ++ [(j : Int)] := by simp
/-- the flags so far, of one kind -/
theorem run_more {l : List Bool} {k j : Nat} {f : Bool} (h : l.drop k = List.replicate j f ++ l.drop (k + j)) (hx : l[k + j]? = some f) : l.drop k = List.replicate (j + 1) f ++ l.drop (k + (j + 1)) := by
 have : l.drop (k + j) = f :: l.drop (k + (j + 1)) := drop_at_cons hx
 rw [h, this, List.replicate_succ']; simp
theorem run_end {l : List Bool} {k j : Nat} {f : Bool} (hk : k < l.length) (h : l.drop k = List.replicate j f ++ l.drop (k + j)) (hx : l[k + j]? ≠ some f) : lens f (l.drop k) = j :: lens (!f) (l.drop (k + j)) := by
 rw [h, lens_run]
 ·rw [List.head?_drop]; exact hx
 ·by_cases hj : 1 ≤ j
  ·exact .inl hj
  ·refine .inr fun e => ?_
   have h0 : j = 0 := by omega
   subst h0
   have := congrArg List.length e
   simp at this
   omega
set_option maxHeartbeats 4000000 in
theorem lengths_c (A : Option Addr) (cap : Nat) (l : List Bool) (hx : l.length ≤ 100000) (w : World) (hc : At w w.heap.size A (bvs l)) :
  Calls Tryz.prog 111 #[.slice A l.length cap] w fun e w' => ∃ A' cap', e = .returned (.slice A' (lenI l).length cap') ∧ (lenI l).length ≤ cap' ∧ Fresh w.heap.size A' ∧ At w' w'.heap.size A' (ivs (lenI l)) ∧ Below w.heap.size w w' := by
 obtain ⟨i0, hi, hz0, hz1, hz2⟩ := info_parts Tryz.info3
 have HC := Lib.hid hc
 clear hc
 go_enter Tryz.func111, Tryz.ntmps111
 go_wp2_with fail
 refine (turns_c _).mono ?_
 rintro e w1 ⟨rfl, rfl⟩
 obtain ⟨q, hq⟩ : ∃ q, q = w.heap.size := ⟨_, rfl⟩
 have his : Is (w.alloc (.cells #[.bool true] 4)) q 4 [.bool (!false)] := by rw [hq]; exact is_new w _ _
 have hb1 : Below w.heap.size w (w.alloc (.cells #[.bool true] 4)) := (Below.refl _ _).alloc (Nat.le_refl _) _
 rw [← hq]
 have HQ := Lib.hid hq
 have hqs : w.heap.size = q := hq.symm
 have hsz : (w.alloc (.cells #[.bool true] 4)).heap.size = q + 1 := by rw [World.size_alloc, hq]
 obtain ⟨W, hW⟩ : ∃ W, W = w.alloc (.cells #[.bool true] 4) := ⟨_, rfl⟩
 rw [← hW] at his hb1 hsz ⊢
 clear hq hW
 go_wp2_with fail
 go_loopg [3, 5] (2 * l.length + 1) (fun m v i wr => ∃ (k : Nat) (f : Bool) (out : List Nat) (c : Nat), i = .int .i64 (k : Int) ∧ k ≤ l.length ∧ 2 * (l.length - k) + c ≤ m ∧ (c = 0 → l.length ≤ k ∨ l[k]? = some f) ∧ c ≤ 1 ∧ out ++ lens f (l.drop k) = lens false l ∧ (∃ A' cap', v = .slice A' out.length cap') ∧ wr.ownsRow (q + 1) 3 1 v out.length (ivs (out.map fun (n : Nat) => (n : Int))) ∧ Is wr q 4 [.bool (!f)] ∧ Below q w wr ∧ q + 1 ≤ wr.heap.size)
 case atStart => exact ⟨0, false, [], 1, rfl, Nat.zero_le _, by omega, by simp, by omega, rfl, ⟨_, _, rfl⟩, World.ownsRow_nil _ _ _ _, his, by rw [← hqs]; exact hb1, by omega⟩
 case round =>
  clear his hb1 hsz
  obtain ⟨k, f, out, c, rfl, hk, hm, hcf, hc1, hout, ⟨A0, cap0, rfl⟩, hown, his, hb, hwq⟩ := hrel
  have hol : out.length ≤ 200001 := by
   have h1 := congrArg List.length hout
   have h2 := lens_len false l
   rw [List.length_append] at h1
   omega
  have HOUT := Lib.hid hout
  have HCF := Lib.hid hcf
  clear hout hcf
  by_cases hlt : k < l.length
  ·go_wp2_with fail
   refine (flip_c q (!f) _ his).mono ?_
   rintro e w2 ⟨rfl, his2, hg2⟩
   rw [Bool.not_not] at his2 ⊢
   have hown2 := own_only hown hg2 (Nat.lt_succ_self q)
   have hb2 := below_only hb hg2 (by omega) (Nat.le_refl _)
   have hwq2 : q + 1 ≤ w2.heap.size := Nat.le_trans hwq hg2.size
   clear his hown hb hg2 hwq
   go_wp2_with fail
   go_loopg [6] (l.length - k) (fun m i wr2 => ∃ j : Nat, i = .int .i64 ((k + j : Nat) : Int) ∧ k + j ≤ l.length ∧ l.length - (k + j) ≤ m ∧ l.drop k = List.replicate j f ++ l.drop (k + j) ∧ wr2 = w2)
   case atStart => exact ⟨0, rfl, hk, Nat.le_refl _, by simp, rfl⟩
   case round =>
    obtain ⟨j, rfl, hkj, hmj, hdr, rfl⟩ := hrel
    have HDR := Lib.hid hdr
    clear hdr
    by_cases hgo : l[k + j]? = some f
    ·have hjl : k + j < l.length := (List.getElem?_eq_some_iff.1 hgo).1
     obtain ⟨b, off, rfl, hbl, hcell⟩ := (HC.out.below (by rw [hqs]; exact hb2)) (k + j) _ (bvs_at hgo)
     have ht : (f == f) = true := by simp
     have HT := Lib.hid hgo
     clear hgo
     go_wp2_with fail
     go_roundg (l.length - (k + (j + 1)))
     case measure => omega
     case rel => exact ⟨j + 1, by go_num, by omega, Nat.le_refl _, run_more HDR.out HT.out, rfl⟩
    ·have HR := Lib.hid (run_end hlt HDR.out hgo)
     have hcj : j = 0 → c = 1 := fun h0 => by
      apply Classical.byContradiction
      intro hc0
      rcases HCF.out (by omega) with h | h
      ·omega
      ·rw [h0] at hgo; exact hgo h
     have HN := Lib.hid (show l.length ≤ k + j ∨ l[k + j]? = some (!f) from by
      by_cases h : l.length ≤ k + j
      ·exact .inl h
      ·obtain ⟨x, hx⟩ := some_at (show k + j < l.length by omega)
       refine .inr ?_
       rw [hx] at hgo ⊢
       cases x <;> cases f <;> simp_all)
     have hee : (k : Int) + (j : Int) - (k : Int) = (j : Int) := by omega
     have hstep : out ++ lens f (l.drop k) = (out ++ [j]) ++ lens (!f) (l.drop (k + j)) := by rw [HR.out]; simp
     rw [HOUT.out] at hstep
     have HST := Lib.hid hstep
     have HEE := Lib.hid hee
     have HCJ := Lib.hid hcj
     clear hee hstep hcj
     have hmid : (out.map fun (n : Nat) => (n : Int)).length = out.length := List.length_map _
     rcases Nat.lt_or_ge (k + j) l.length with hjl | hjl
     ·obtain ⟨x, hxk⟩ := some_at hjl
      obtain ⟨b, off, rfl, hbl, hcell⟩ := (HC.out.below (by rw [hqs]; exact hb2)) (k + j) _ (bvs_at hxk)
      have ht : (x == f) = false := by
       rw [hxk] at hgo
       simpa using hgo
      clear hgo hxk
      go_wp2_with (at_builtin; refine wpList_append_own _ rfl _ _ 57 rfl (q + 1) 3 i0 (.int .i64 0) 1 8 Tryz.underlying57 hi hz0 hz1 hz2 rfl (by decide) _ _ _ rfl (hown2.alloc _) ⟨wr.heap.size, 0, none⟩ 1 1 [.int .i64 ((k : Int) + (j : Int) - (k : Int))] rfl rfl (cell_one_new _ _ _) (by simp [Value.oneCell']) (by unfold maxLen; omega) (by omega) (by simp; omega) ?_; intro v' w3 hown' hgrow _)
      have hb3 := Dl.below_ownI hb2 (by omega) (ownsRow_lower hown2 (Nat.le_succ q)) hgrow
      have his3 := is_grown (is_alloc his2 _) hgrow (fun e => by have := (hown2.lt q e.symm).1; omega)
      have hs3 := hgrow.size
      obtain ⟨g', cap', rfl⟩ := ownsRow_succ hown'
      rw [HEE.out] at hown'
      go_roundg (2 * (l.length - (k + j)))
      case measure => have := HCJ.out; omega
      case rel =>
       refine ⟨k + j, !f, out ++ [j], 0, by go_num, hkj, by omega, fun _ => HN.out, by omega, HST.out.symm, ⟨_, _, by rw [List.length_append]; rfl⟩, ?_, by rw [Bool.not_not]; exact his3, hb3, by simp at hs3; omega⟩
       rw [int_snoc, List.length_append]
       simpa [ivs] using hown'
     ·clear hgo
      go_wp2_with (at_builtin; refine wpList_append_own _ rfl _ _ 57 rfl (q + 1) 3 i0 (.int .i64 0) 1 8 Tryz.underlying57 hi hz0 hz1 hz2 rfl (by decide) _ _ _ rfl (hown2.alloc _) ⟨wr.heap.size, 0, none⟩ 1 1 [.int .i64 ((k : Int) + (j : Int) - (k : Int))] rfl rfl (cell_one_new _ _ _) (by simp [Value.oneCell']) (by unfold maxLen; omega) (by omega) (by simp; omega) ?_; intro v' w3 hown' hgrow _)
      have hb3 := Dl.below_ownI hb2 (by omega) (ownsRow_lower hown2 (Nat.le_succ q)) hgrow
      have his3 := is_grown (is_alloc his2 _) hgrow (fun e => by have := (hown2.lt q e.symm).1; omega)
      have hs3 := hgrow.size
      obtain ⟨g', cap', rfl⟩ := ownsRow_succ hown'
      rw [HEE.out] at hown'
      go_roundg (2 * (l.length - (k + j)))
      case measure => have := HCJ.out; omega
      case rel =>
       refine ⟨k + j, !f, out ++ [j], 0, by go_num, hkj, by omega, fun _ => HN.out, by omega, HST.out.symm, ⟨_, _, by rw [List.length_append]; rfl⟩, ?_, by rw [Bool.not_not]; exact his3, hb3, by simp at hs3; omega⟩
       rw [int_snoc, List.length_append]
       simpa [ivs] using hown'
  ·obtain rfl : k = l.length := by omega
   have hfin : out = lens false l := by have := HOUT.out; rw [List.drop_length] at this; simpa [lens] using this
   obtain ⟨A', cap', hA, ha, hfr, hcp⟩ := own_at hown
   cases hA
   clear hm hown his
   go_wp2_with fail
   go_ret
   have hln : out.length = (lenI l).length := by unfold lenI; rw [List.length_map, hfin]
   have hiv : ivs (out.map fun (n : Nat) => (n : Int)) = ivs (lenI l) := by unfold lenI; rw [hfin]
   rw [hiv] at ha
   exact ⟨_, _, by rw [hln]; rfl, by rw [← hln]; exact hcp, fun a h => by have := hfr a h; omega, ha, by rw [hqs]; exact hb⟩
end Fg
end Go.Proofs.YtojhenpaeedimaaGreat
end
section
namespace Go.Proofs.YtojhenpaeedimaaGreat
open Dl Ru
namespace Fg
open Go.RowKit Go.IntWalk
open Pk
set_option maxRecDepth 100000
attribute [local go_sem] Oper.semAt_some
set_option maxHeartbeats 4000000 in
theorem rlengths_c (A : Option Addr) (cap : Nat) (l : List Bool) (hx : l.length ≤ 100000) (w : World) (hc : At w w.heap.size A (bvs l)) :
  Calls Tryz.prog 117 #[.slice A l.length cap] w fun e w' => ∃ A' cap', e = .returned (.slice A' (lenI l).length cap') ∧ (lenI l).length ≤ cap' ∧ Fresh w.heap.size A' ∧ At w' w'.heap.size A' (ivs (lenI l)) ∧ Below w.heap.size w w' := by
 obtain ⟨i0, hi, hz0, hz1, hz2⟩ := info_parts Tryz.info3
 have hnot : ∀ (x : Bool) (w : World), (Op.unary .not (.bool x)).run Tryz.prog w = .ok (.bool (!x)) w := fun _ _ => rfl
 have HC := Lib.hid hc
 clear hc
 go_enter Tryz.func117, Tryz.ntmps117
 go_wp2_with fail
 go_loopg [3, 4, 5] (2 * l.length + 1) (fun m v nf i wr => ∃ (k : Nat) (f : Bool) (out : List Nat) (c : Nat), i = .int .i64 (k : Int) ∧ nf = .bool f ∧ k ≤ l.length ∧ 2 * (l.length - k) + c ≤ m ∧ (c = 0 → l.length ≤ k ∨ l[k]? = some f) ∧ c ≤ 1 ∧ out ++ lens f (l.drop k) = lens false l ∧ (∃ A' cap', v = .slice A' out.length cap') ∧ wr.ownsRow w.heap.size 3 1 v out.length (ivs (out.map fun (n : Nat) => (n : Int))) ∧ Below w.heap.size w wr)
 case atStart => exact ⟨0, false, [], 1, rfl, rfl, Nat.zero_le _, by omega, by simp, by omega, rfl, ⟨_, _, rfl⟩, World.ownsRow_nil _ _ _ _, Below.refl _ _⟩
 case round =>
  obtain ⟨k, f, out, c, rfl, rfl, hk, hm, hcf, hc1, hout, ⟨A0, cap0, rfl⟩, hown2, hb2⟩ := hrel
  have hb0 := hb2.size
  have hol : out.length ≤ 200001 := by
   have h1 := congrArg List.length hout
   have h2 := lens_len false l
   rw [List.length_append] at h1
   omega
  have HOUT := Lib.hid hout
  have HCF := Lib.hid hcf
  clear hout hcf
  by_cases hlt : k < l.length
  ·go_wp2_with fail
   go_loopg [5, 6] (l.length - k) (fun m i n wr2 => ∃ j : Nat, i = .int .i64 ((k + j : Nat) : Int) ∧ n = .int .i64 (j : Int) ∧ k + j ≤ l.length ∧ l.length - (k + j) ≤ m ∧ l.drop k = List.replicate j f ++ l.drop (k + j) ∧ wr2 = wr)
   case atStart => exact ⟨0, rfl, rfl, hk, Nat.le_refl _, by simp, rfl⟩
   case round =>
    obtain ⟨j, rfl, rfl, hkj, hmj, hdr, rfl⟩ := hrel
    have HDR := Lib.hid hdr
    clear hdr
    by_cases hgo : l[k + j]? = some f
    ·have hjl : k + j < l.length := (List.getElem?_eq_some_iff.1 hgo).1
     obtain ⟨b, off, rfl, hbl, hcell⟩ := (HC.out.below hb2) (k + j) _ (bvs_at hgo)
     have ht : (f == f) = true := by simp
     have HT := Lib.hid hgo
     clear hgo
     go_wp2_with fail
     go_roundg (l.length - (k + (j + 1)))
     case measure => omega
     case rel => exact ⟨j + 1, by go_num, by go_num, by omega, Nat.le_refl _, run_more HDR.out HT.out, rfl⟩
    ·have HR := Lib.hid (run_end hlt HDR.out hgo)
     have hcj : j = 0 → c = 1 := fun h0 => by
      apply Classical.byContradiction
      intro hc0
      rcases HCF.out (by omega) with h | h
      ·omega
      ·rw [h0] at hgo; exact hgo h
     have HN := Lib.hid (show l.length ≤ k + j ∨ l[k + j]? = some (!f) from by
      by_cases h : l.length ≤ k + j
      ·exact .inl h
      ·obtain ⟨x, hx⟩ := some_at (show k + j < l.length by omega)
       refine .inr ?_
       rw [hx] at hgo ⊢
       cases x <;> cases f <;> simp_all)
     have hstep : out ++ lens f (l.drop k) = (out ++ [j]) ++ lens (!f) (l.drop (k + j)) := by rw [HR.out]; simp
     rw [HOUT.out] at hstep
     have HST := Lib.hid hstep
     have HCJ := Lib.hid hcj
     clear hstep hcj
     rcases Nat.lt_or_ge (k + j) l.length with hjl | hjl
     ·obtain ⟨x, hxk⟩ := some_at hjl
      obtain ⟨b, off, rfl, hbl, hcell⟩ := (HC.out.below hb2) (k + j) _ (bvs_at hxk)
      have ht : (x == f) = false := by
       rw [hxk] at hgo
       simpa using hgo
      clear hgo hxk
      go_wp2_with (at_builtin; refine wpList_append_own _ rfl _ _ 57 rfl w.heap.size 3 i0 (.int .i64 0) 1 8 Tryz.underlying57 hi hz0 hz1 hz2 rfl (by decide) _ _ _ rfl (hown2.alloc _) ⟨wr.heap.size, 0, none⟩ 1 1 [.int .i64 (j : Int)] rfl rfl (cell_one_new _ _ _) (by simp [Value.oneCell']) (by unfold maxLen; omega) (by omega) (by simp; omega) ?_; intro v' w3 hown' hgrow _)
      have hb3 := Dl.below_ownI hb2 hb0 hown2 hgrow
      obtain ⟨g', cap', rfl⟩ := ownsRow_succ hown'
      go_roundg (2 * (l.length - (k + j)))
      case measure => have := HCJ.out; omega
      case rel =>
       refine ⟨k + j, !f, out ++ [j], 0, by go_num, rfl, hkj, by omega, fun _ => HN.out, by omega, HST.out.symm, ⟨_, _, by rw [List.length_append]; rfl⟩, ?_, hb3⟩
       rw [int_snoc, List.length_append]
       simpa [ivs] using hown'
     ·clear hgo
      go_wp2_with (at_builtin; refine wpList_append_own _ rfl _ _ 57 rfl w.heap.size 3 i0 (.int .i64 0) 1 8 Tryz.underlying57 hi hz0 hz1 hz2 rfl (by decide) _ _ _ rfl (hown2.alloc _) ⟨wr.heap.size, 0, none⟩ 1 1 [.int .i64 (j : Int)] rfl rfl (cell_one_new _ _ _) (by simp [Value.oneCell']) (by unfold maxLen; omega) (by omega) (by simp; omega) ?_; intro v' w3 hown' hgrow _)
      have hb3 := Dl.below_ownI hb2 hb0 hown2 hgrow
      obtain ⟨g', cap', rfl⟩ := ownsRow_succ hown'
      go_roundg (2 * (l.length - (k + j)))
      case measure => have := HCJ.out; omega
      case rel =>
       refine ⟨k + j, !f, out ++ [j], 0, by go_num, rfl, hkj, by omega, fun _ => HN.out, by omega, HST.out.symm, ⟨_, _, by rw [List.length_append]; rfl⟩, ?_, hb3⟩
       rw [int_snoc, List.length_append]
       simpa [ivs] using hown'
  ·obtain rfl : k = l.length := by omega
   have hfin : out = lens false l := by have := HOUT.out; rw [List.drop_length] at this; simpa [lens] using this
   obtain ⟨A', cap', hA, ha, hfr, hcp⟩ := own_at hown2
   cases hA
   clear hm hown2
   go_wp2_with fail
   go_ret
   have hln : out.length = (lenI l).length := by unfold lenI; rw [List.length_map, hfin]
   have hiv : ivs (out.map fun (n : Nat) => (n : Int)) = ivs (lenI l) := by unfold lenI; rw [hfin]
   rw [hiv] at ha
   exact ⟨_, _, by rw [hln]; rfl, by rw [← hln]; exact hcp, hfr, ha, hb2⟩
end Fg
end Go.Proofs.YtojhenpaeedimaaGreat
end
section
namespace Go.Proofs.YtojhenpaeedimaaGreat
open Dl Ru
namespace Fg
open Go.RowKit Go.IntWalk
open Pk
set_option maxRecDepth 100000
attribute [local go_sem] Oper.semAt_some
theorem encF_len {l : List Bool} (hl : l.length ≤ 100000) : (encF l).length ≤ 10 * (l.length + 1) := by
 have h1 := encN_len (lens_lt (f := false) (l := l) (by omega))
 have h2 := lens_len false l
 unfold encF; omega
theorem lenI_at {l : List Bool} {k : Nat} {x : Int} (h : (lenI l)[k]? = some x) : ∃ n : Nat, x = (n : Int) ∧ (lens false l)[k]? = some n ∧ n ≤ l.length := by
 unfold lenI at h
 rw [List.getElem?_map] at h
 cases hx : (lens false l)[k]? with
 | none => rw [hx] at h; simp at h
 | some n =>
  rw [hx] at h
  simp at h
  exact ⟨n, h.symm, rfl, lens_le (List.mem_of_getElem? hx)⟩
theorem encN_take_len {r : List Nat} (h : LtN r) (k : Nat) : (encN (r.take k)).length ≤ 10 * r.length := by
 have h1 := encN_len (r := r.take k) (fun x hx => h x (List.mem_of_mem_take hx))
 rw [List.length_take] at h1
 omega
set_option maxHeartbeats 4000000 in
theorem fencode_c (A : Option Addr) (cap : Nat) (l : List Bool) (hx : l.length ≤ 100000) (w : World) (hc : At w w.heap.size A (bvs l)) :
  Calls Tryz.prog 63 #[.slice A l.length cap] w fun e w' => e = .returned (.string (ba (encF l))) ∧ Below w.heap.size w w' := by
 have hll := lenI_len l
 have HLT := Lib.hid (lens_lt (f := false) (l := l) (by omega))
 have HDL := Lib.hid (lens_len false l)
 have HC := Lib.hid hc
 unfold encF
 go_enter Tryz.func63, Tryz.ntmps63
 go_wp2_with fail
 have h0 : Below w.heap.size w (w.alloc (.cells #[.pointer none, .slice none 0 0] 111)) := (Below.refl _ _).alloc (Nat.le_refl _) _
 refine (lengths_c A cap l hx _ ((HC.out.below h0).mono (by simp))).mono ?_
 rintro e w1 ⟨A', cap', rfl, -, hfr, hat, hb1⟩
 have hbld0 := bld_grown (bld_new w w1.heap.size) hb1
 have hbb : But w1.heap.size w.heap.size w1 w1 := But.refl _ _ _
 rw [World.size_alloc] at hfr hb1
 have hb01 := h0.trans (hb1.mono (Nat.le_succ _))
 have hsz1 : w.heap.size < w1.heap.size := by have := hb1.size; simp at this; omega
 obtain ⟨D, hD⟩ : ∃ D, D = lenI l := ⟨_, rfl⟩
 have hdl2 : D.length ≤ 100001 := by rw [hD]; omega
 have hDl : D.length = (lens false l).length := by rw [hD]; unfold lenI; rw [List.length_map]
 rw [← hD] at hat ⊢
 have HD := Lib.hid hD
 have HAT := Lib.hid hat
 have HFR := Lib.hid hfr
 have HDE := Lib.hid hDl
 clear hD hat hfr h0 hb1 hc hll hDl
 go_wp2_with fail
 go_loopw [9] (fun i wr => ∃ k : Nat, i = .int .i64 (k : Int) ∧ k ≤ D.length ∧ Bld wr w1.heap.size w.heap.size (encN ((lens false l).take k)) ∧ But w1.heap.size w.heap.size w1 wr) (fun i _ => D.length - (Go.RowKit.intOf i).toNat)
 case atStart => exact ⟨0, rfl, Nat.zero_le _, hbld0, hbb⟩
 case round =>
  clear hbld0 hbb
  obtain ⟨k, rfl, hk, hbld, hbut⟩ := hrel
  by_cases hlt : k < D.length
  ·obtain ⟨x, hxk⟩ := some_at hlt
   rw [HD.out] at hxk
   obtain ⟨n, rfl, hnk, hnl⟩ := lenI_at hxk
   have hnl2 : n ≤ 100000 := by omega
   obtain ⟨b, off, rfl, hbl, hcell0⟩ := HAT.out k _ (ivs_at (by rw [HD.out]; exact hxk))
   have hne : b ≠ w.heap.size := by have := HFR.out _ rfl; simp at this; omega
   have hcell : wr.cell? ⟨b, off + k, none⟩ = some (.int .i64 (n : Int)) := (but_cell hbut (p := ⟨b, off + k, none⟩) hbl hne).trans hcell0
   have hql := put_len10 (n := n) (by omega)
   have hde := encN_take_len HLT.out k
   have hdd := HDL.out
   have hle : (encN ((lens false l).take k)).length + (put n).length ≤ 140737488355328 := by omega
   have hws := hbut.size
   have hbR := bld_lt hbld
   have HX := Lib.hid hnk
   clear hcell0 hxk hql hde hdd hnk
   go_wp2_with fail
   refine (put_c n (by omega) _).mono ?_
   rintro e w4 ⟨rfl, hb4⟩
   have hbld4 := bld_grown hbld hb4
   have hbut4 := hbut.trans (but_below (b := w.heap.size) (hb4.mono hws))
   have hws4 : w1.heap.size ≤ w4.heap.size := hbut4.size
   clear hbld hbut hb4 hws hcell
   go_wp2_with fail
   refine (write_b w1.heap.size w.heap.size _ (put n) _ hbld4 hle hws4).mono ?_
   rintro e w5 ⟨rfl, hbld5, hbut5⟩
   have hbut6 := hbut4.trans hbut5
   clear hbld4 hbut4 hbut5 hws4
   go_wp2_with fail
   go_roundw
   case rel => exact ⟨k + 1, by go_num, by omega, by rw [encN_take HX.out]; exact hbld5, hbut6⟩
   case measure => simp only [Go.RowKit.intOf]; omega
  ·obtain rfl : k = D.length := by omega
   rw [HDE.out, List.take_length] at hbld
   go_wp2_with fail
   refine (string_c w1.heap.size w.heap.size w.heap.size _ _ hbld (Nat.le_of_lt hsz1) (Nat.le_refl _)).mono ?_
   rintro e w3 ⟨rfl, hb3⟩
   go_wp2
   go_ret
   exact ⟨rfl, (hb01.trans (hbut.below (Nat.le_of_lt hsz1) (Nat.le_refl _))).trans hb3⟩
set_option maxHeartbeats 4000000 in
theorem frencode_c (A : Option Addr) (cap : Nat) (l : List Bool) (hx : l.length ≤ 100000) (w : World) (hc : At w w.heap.size A (bvs l)) :
  Calls Tryz.prog 66 #[.slice A l.length cap] w fun e w' => e = .returned (.string (ba (encF l))) ∧ Below w.heap.size w w' := by
 have hll := lenI_len l
 have HLT := Lib.hid (lens_lt (f := false) (l := l) (by omega))
 have HDL := Lib.hid (lens_len false l)
 have HC := Lib.hid hc
 unfold encF
 go_enter Tryz.func66, Tryz.ntmps66
 go_wp2_with fail
 refine (rlengths_c A cap l hx _ HC.out).mono ?_
 rintro e w1 ⟨A', cap', rfl, -, -, hat, hb1⟩
 obtain ⟨D, hD⟩ : ∃ D, D = lenI l := ⟨_, rfl⟩
 have hdl2 : D.length ≤ 100001 := by rw [hD]; omega
 have hDl : D.length = (lens false l).length := by rw [hD]; unfold lenI; rw [List.length_map]
 rw [← hD] at hat ⊢
 have HD := Lib.hid hD
 have HAT := Lib.hid hat
 have HDE := Lib.hid hDl
 clear hD hat hc hll hDl
 go_wp2_with fail
 go_loopw [4, 5] (fun s i wr => ∃ k : Nat, s = .string (ba (encN ((lens false l).take k))) ∧ i = .int .i64 (k : Int) ∧ k ≤ D.length ∧ Below w1.heap.size w1 wr) (fun _ i _ => D.length - (Go.RowKit.intOf i).toNat)
 case atStart => exact ⟨0, rfl, rfl, Nat.zero_le _, Below.refl _ _⟩
 case round =>
  obtain ⟨k, rfl, rfl, hk, hb⟩ := hrel
  by_cases hlt : k < D.length
  ·obtain ⟨x, hxk⟩ := some_at hlt
   rw [HD.out] at hxk
   obtain ⟨n, rfl, hnk, hnl⟩ := lenI_at hxk
   have hnl2 : n ≤ 100000 := by omega
   have hqw : IntKind.u64.wrap (n : Int) = (n : Int) := by rw [IntKind.wrap_u64]; omega
   obtain ⟨b, off, rfl, hbl, hcell⟩ := (HAT.out.below hb) k _ (ivs_at (by rw [HD.out]; exact hxk))
   have hql := put_len10 (n := n) (by omega)
   have hde := encN_take_len HLT.out k
   have hdd := HDL.out
   have hadd := add_ba (encN ((lens false l).take k)) (put n) (by omega)
   have HX := Lib.hid hnk
   have HNL := Lib.hid (show n < 18446744073709551616 by omega)
   clear hxk hql hde hdd hnk
   go_wp2_with fail
   refine (rPut_c n HNL.out _).mono ?_
   rintro e w2 ⟨rfl, hm⟩
   have hb2 := hb.trans (hm.mono hb.size)
   clear hm hb hcell
   go_wp2_with fail
   go_roundw
   case rel => exact ⟨k + 1, by rw [encN_take HX.out], by go_num, by omega, hb2⟩
   case measure => simp only [Go.RowKit.intOf]; omega
  ·obtain rfl : k = D.length := by omega
   have hdr : (lens false l).take D.length = lens false l := by rw [HDE.out, List.take_length]
   rw [hdr]
   go_wp2_with fail
   go_ret
   exact ⟨rfl, hb1.trans (hb.mono hb1.size)⟩
end Fg
end Go.Proofs.YtojhenpaeedimaaGreat
end
