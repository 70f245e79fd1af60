/-
 Words of a list of texts, the document's; Pick, the program's and the document's.
 Pick, the program's and the document's.
 Two lists held against each other, of numbers and of runs.
 The contracts at written lengths; the live answers of runs.
 May these be Words of a list? the program's, and the document's.
-/
import Derived.Test.YtojhenpaeedimaaGreatQh
import Derived.Test.YtojhenpaeedimaaGreatDe
import Derived.Test.YtojhenpaeedimaaGreatJb
import Derived.Laws.StructEq
import Derived.Test.YtojhenpaeedimaaGreatQj
import Derived.Test.YtojhenpaeedimaaGreatDg
section
namespace Go.Proofs.YtojhenpaeedimaaGreat
open Dl Ru
namespace Dt
open Go.RowKit Go.IntWalk
open Pk Dc
set_option maxRecDepth 100000
attribute [local go_sem] Oper.semAt_some
set_option maxHeartbeats 8000000 in
theorem rwords_c (A : Option Addr) (cap : Nat) (l : List Tx) (hx : l.length ≤ 100000) (w : World) (hc : At w w.heap.size A (svs l)) :
  Calls Tryz.prog 102 #[.slice A l.length cap] w (WEnd l w) := by
 obtain ⟨i0, hi, hz0, hz1, hz2⟩ := info_parts Tryz.info9
 obtain ⟨j0, hj, hy0, hy1, hy2⟩ := info_parts Tryz.info62
 have HC := Lib.hid hc
 clear hc
 go_enter Tryz.func102, Tryz.ntmps102
 go_wp2_with fail
 go_loopw [4, 5, 6] (fun v a i wr => ∃ k : Nat, i = .int .i64 (k : Int) ∧ k ≤ l.length ∧ (∃ A2 c2, a = .slice A2 k c2) ∧ wr.ownsRow w.heap.size 62 1 a k (uvs (pl [] (l.take k))) ∧ (∃ A1 c1, v = .slice A1 (ws [] (l.take k)).length c1) ∧ wr.ownsRow w.heap.size 9 1 v (ws [] (l.take k)).length (svs (ws [] (l.take k))) ∧ Below w.heap.size w wr)
  (fun _ _ i _ => l.length - (Go.RowKit.intOf i).toNat)
 case atStart => exact ⟨0, rfl, Nat.zero_le _, ⟨none, 0, rfl⟩, World.ownsRow_nil _ _ _ _, ⟨none, 0, rfl⟩, World.ownsRow_nil _ _ _ _, Below.refl _ _⟩
 case round =>
  obtain ⟨k, rfl, hk, ⟨A2, c2, rfl⟩, ha, ⟨A1, c1, rfl⟩, hv, hb⟩ := hrel
  have hb0 := hb.size
  by_cases hlt : k < l.length
  ·obtain ⟨t, htk⟩ := some_at hlt
   obtain ⟨b', off, rfl, hbl, hcell⟩ := (HC.out.below hb) k _ (svs_at htk)
   have hwl := ws_len (l.take k) []
   rw [List.length_take, List.length_nil] at hwl
   have HW1 := Lib.hid (ws_take htk [])
   have HP1 := Lib.hid (pl_take htk [])
   obtain ⟨V, hV⟩ : ∃ V, V = ws [] (l.take k) := ⟨_, rfl⟩
   rw [← hV] at hv hwl HW1 HP1 ⊢
   have hVl : V.length ≤ 100000 := by omega
   have hkc : k ≤ 100000 := by omega
   have HTK := Lib.hid htk
   obtain ⟨A3, c3, hA3, hat3, -, -⟩ := own_at hv
   cases hA3
   have HAT3 := Lib.hid hat3
   have hile := ix_le t V
   clear hV hwl htk hat3
   go_wp2_with fail
   refine (place_c A1 c1 V t hVl _ HAT3.out).mono ?_
   rintro e wr ⟨rfl, rfl⟩
   have hwu : IntKind.u64.wrap (ix t V : Int) = (ix t V : Int) := by rw [IntKind.wrap_u64]; omega
   by_cases hin : t ∈ V
   ·have hil := (ix_mem hin).1
    have hne : ((ix t V : Int) == (V.length : Int)) = false := by simp only [beq_eq_false_iff_ne, ne_eq]; omega
    have HADD := Lib.hid (add_mem hin)
    clear hin
    go_wp2_with (at_builtin; refine wpList_append_own _ rfl _ _ 60 rfl w.heap.size 62 j0 (.int .u64 0) 1 8 Tryz.underlying60 hj hy0 hy1 hy2 rfl (by decide) _ _ _ rfl (ha.alloc _) ⟨wr.heap.size, 0, none⟩ 1 1 [.int .u64 (ix t V : Int)] rfl rfl (cell_one_new _ _ _) (by simp [Value.oneCell']) (by unfold maxLen; omega) (by omega) (by simp; omega) ?_; intro v' w2 ha2 hgrow2 _)
    have hb2 := Dl.below_ownI hb hb0 ha hgrow2
    have hv2 := row_beside (by decide) hv ha hgrow2
    obtain ⟨g', cap', rfl⟩ := ownsRow_succ ha2
    have R1 : ws [] (l.take (k + 1)) = V := by rw [HW1.out, HADD.out]
    have R2 : w2.ownsRow w.heap.size 62 1 (.slice (some ⟨g', 0, none⟩) (k + 1) cap') (k + 1) (uvs (pl [] (l.take (k + 1)))) := by rw [HP1.out, uvs_snoc]; exact ha2
    clear ha hv hb ha2 hgrow2
    go_roundw
    case rel => exact ⟨k + 1, by go_num, by omega, ⟨_, _, rfl⟩, R2, ⟨_, _, by rw [R1]⟩, by rw [R1]; exact hv2, hb2⟩
    case measure => simp only [Go.RowKit.intOf]; omega
   ·have hne : ((ix t V : Int) == (V.length : Int)) = true := by rw [ix_not hin]; simp
    have HADD := Lib.hid (add_not hin)
    have HIX := Lib.hid (ix_not hin)
    obtain ⟨b2, o2, hbe, _, hcell2⟩ := (HC.out.below hb) k _ (svs_at HTK.out)
    cases hbe
    rw [ix_not hin]
    rw [ix_not hin] at hne hwu
    clear hin hile
    go_wp2_with (first
     | (at_builtin; refine wpList_append_own _ rfl _ _ 64 rfl w.heap.size 9 i0 (.string ByteArray.empty) 1 16 Tryz.underlying64 hi hz0 hz1 hz2 rfl (by decide) _ _ _ rfl (hv.alloc _) ⟨wr.heap.size, 0, none⟩ 1 1 [.string (ba t)] rfl rfl (cell_one_new _ _ _) (by simp [Value.oneCell']) (by unfold maxLen; omega) (by omega) (by simp; omega) ?_; intro v' w3 hv3 hgr3 _; have ha3 := row_beside (by decide) ha hv hgr3; have hb3 := Dl.below_ownI hb hb0 hv hgr3; have hb30 := hb3.size)
     | (at_builtin; refine wpList_append_own _ rfl _ _ 60 rfl w.heap.size 62 j0 (.int .u64 0) 1 8 Tryz.underlying60 hj hy0 hy1 hy2 rfl (by decide) _ _ _ rfl (ha3.alloc _) ⟨w3.heap.size, 0, none⟩ 1 1 [.int .u64 (V.length : Int)] rfl rfl (cell_one_new _ _ _) (by simp [Value.oneCell']) (by unfold maxLen; omega) (by omega) (by simp; omega) ?_; intro v2 w4 ha4 hgr4 _))
    have hb4 := Dl.below_ownI hb3 hb30 ha3 hgr4
    have hv4 := row_beside (by decide) hv3 ha3 hgr4
    obtain ⟨g', cap', rfl⟩ := ownsRow_succ ha4
    obtain ⟨g2, cap2, rfl⟩ := ownsRow_succ hv3
    have R1 : ws [] (l.take (k + 1)) = V ++ [t] := by rw [HW1.out, HADD.out]
    have R2 : w4.ownsRow w.heap.size 62 1 (.slice (some ⟨g', 0, none⟩) (k + 1) cap') (k + 1) (uvs (pl [] (l.take (k + 1)))) := by rw [HP1.out, HIX.out, uvs_snoc]; exact ha4
    have R3 : w4.ownsRow w.heap.size 9 1 (.slice (some ⟨g2, 0, none⟩) (V.length + 1) cap2) (V ++ [t]).length (svs (V ++ [t])) := by rw [svs_snoc, List.length_append]; exact hv4
    clear ha hv hb hgr3 hgr4 hv3 ha3 ha4 hv4 hb3
    go_roundw
    case rel => exact ⟨k + 1, by go_num, by omega, ⟨_, _, rfl⟩, R2, ⟨_, _, by rw [R1, List.length_append]; rfl⟩, by rw [R1]; exact R3, hb4⟩
    case measure => simp only [Go.RowKit.intOf]; omega
  ·obtain rfl : k = l.length := by omega
   rw [List.take_length] at ha hv
   obtain ⟨A4, c4, hA4, hat4, hfr4, hcp4⟩ := own_at hv
   cases hA4
   obtain ⟨A3, c3, hA3, hat3, hfr3, hcp3⟩ := own_at ha
   cases hA3
   rw [List.take_length]
   clear ha hv
   go_wp2_with fail
   go_ret2
   exact ⟨_, _, _, _, rfl, hcp4, hcp3, hfr4, hfr3, hat4, hat3, hb⟩
end Dt
end Go.Proofs.YtojhenpaeedimaaGreat
end
section
namespace Go.Proofs.YtojhenpaeedimaaGreat
open Dl Ru
namespace Dt
open Go.RowKit Go.IntWalk
open Pk Dc
set_option maxRecDepth 100000
attribute [local go_sem] Oper.semAt_some
/-- a list of texts and one value more, as the answer of a call -/
def SEnd (l : List Tx) (t : Value) (w : World) (e : Ending) (w' : World) : Prop :=
 ∃ A cap, e = .returned (.tuple #[.slice A l.length cap, t]) ∧ l.length ≤ cap ∧ Fresh w.heap.size A ∧ At w' w'.heap.size A (svs l) ∧ Below w.heap.size w w'
theorem sEnd_nil {t : Value} {w w' : World} (hb : Below w.heap.size w w') : SEnd [] t w (.returned (.tuple #[.slice none 0 0, t])) w' :=
 ⟨none, 0, rfl, Nat.le_refl _, fun a ha => (by cases ha), At.nil _ _ _, hb⟩
set_option maxHeartbeats 8000000 in
theorem pick_c (A1 A2 : Option Addr) (c1 c2 : Nat) (words : List Tx) (at_ : List Nat) (hx1 : words.length ≤ 100000) (hx2 : at_.length ≤ 100000) (w : World) (h1 : At w w.heap.size A1 (svs words)) (h2 : At w w.heap.size A2 (uvs at_)) :
  Calls Tryz.prog 183 #[.slice A1 words.length c1, .slice A2 at_.length c2] w (SEnd (pk words [] at_).1 (.bool (pk words [] at_).2) w) := by
 obtain ⟨i0, hi, hz0, hz1, hz2⟩ := info_parts Tryz.info9
 have H1 := Lib.hid h1
 have H2 := Lib.hid h2
 clear h1 h2
 obtain ⟨res, hres⟩ : ∃ res, res = pk words [] at_ := ⟨_, rfl⟩
 have HR := Lib.hid hres
 rw [← hres]
 clear hres
 have hbx : i0.bytes * at_.length ≤ 281474976710656 := by rw [hz2]; omega
 have hmx : at_.length ≤ maxLen := by unfold maxLen; omega
 go_enter Tryz.func183, Tryz.ntmps183
 go_wp2_with (at_make; refine wpList_make_own _ rfl _ _ 64 rfl w.heap.size 9 i0 (.string ByteArray.empty) 1 Tryz.underlying64 hi hz0 hz1 .i64 .i64 _ at_.length rfl rfl rfl hbx hmx (Nat.le_refl _) ?_; intro w1 hown1 hgrow1)
 have hb1 : Below w.heap.size w w1 := (Below.refl _ w).grown hgrow1 (Nat.le_refl _) (fun k e => by cases e)
 have hgl := (hown1.lt w.heap.size rfl).2
 clear hgrow1 hbx hmx
 go_loopw [6, 14] (fun s i wr => ∃ (k : Nat) (out : List Tx), i = .int .i64 (k : Int) ∧ s = .slice (some ⟨w.heap.size, 0, none⟩) k at_.length ∧ k ≤ at_.length ∧ out.length = k ∧ pk words out (at_.drop k) = res ∧ wr.ownsRow w.heap.size 9 1 (.slice (some ⟨w.heap.size, 0, none⟩) k at_.length) k (svs out) ∧ Below w.heap.size w wr)
  (fun _ i _ => at_.length - (Go.RowKit.intOf i).toNat)
 case atStart => exact ⟨0, [], rfl, rfl, Nat.zero_le _, rfl, HR.out.symm, hown1, hb1⟩
 case round =>
  clear hown1 hb1
  obtain ⟨k, out, rfl, rfl, hk, hol, hpk, hown, hb⟩ := hrel
  have hb0 := hb.size
  have HPK := Lib.hid hpk
  have HOL := Lib.hid hol
  clear hpk hol
  by_cases hlt : k < at_.length
  ·obtain ⟨p, hpk⟩ := some_at hlt
   obtain ⟨b2, o2, rfl, _, hcp⟩ := (H2.out.below hb) k _ (uvs_at hpk)
   have HD := Lib.hid (drop_at_cons hpk)
   have HP := Lib.hid hpk
   clear hpk
   by_cases hin : p < words.length
   ·obtain ⟨t, ht⟩ := some_at hin
    obtain ⟨b1, o1, rfl, _, hct⟩ := (H1.out.below hb) p _ (svs_at ht)
    have hst : pk words (out ++ [t]) (at_.drop (k + 1)) = res := by rw [← pk_cons ht, ← HD.out]; exact HPK.out
    have HST := Lib.hid hst
    have hkc : k + 1 ≤ at_.length := by omega
    have hwl : (0 : Int) ≤ (words.length : Int) := by omega
    clear ht hst
    go_wp2_with (at_builtin; refine wpList_append_fits _ rfl _ _ 64 rfl w.heap.size 9 i0 1 Tryz.underlying64 hi hz1 w.heap.size k at_.length _ rfl (hown.alloc _) ⟨wr.heap.size, 0, none⟩ 1 1 [.string (ba t)] rfl rfl (cell_one_new _ _ _) (by simp [Value.oneCell']) hkc ?_; intro w2 hown2 hgrow2)
    have hb2 := Dl.below_ownI hb hb0 hown hgrow2
    refine ⟨⟨k + 1, out ++ [t], by go_num, rfl, by omega, by rw [List.length_append, HOL.out]; rfl, HST.out, by rw [svs_snoc]; exact hown2, hb2⟩, ?_⟩
    simp only [Go.RowKit.intOf]; omega
   ·have hres2 : res = ([], false) := by
     rw [← HPK.out, HD.out, pk_none (by omega)]
    have HRES := Lib.hid hres2
    have hin2 : (words.length : Int) ≤ (p : Int) := by omega
    clear hres2
    go_wp2_with fail
    go_ret2
    rw [HRES.out]
    exact sEnd_nil hb
  ·obtain rfl : k = at_.length := by omega
   have hres2 : res = (out, true) := by rw [← HPK.out, List.drop_length]; rfl
   obtain ⟨A3, c3, hA3, hat3, hfr3, hcp3⟩ := own_at hown
   cases hA3
   have HRES := Lib.hid hres2
   clear hres2 hown
   go_wp2_with fail
   go_ret2
   rw [HRES.out]
   have ho := HOL.out
   exact ⟨_, _, by rw [show ((out, true) : List Tx × Bool).1.length = at_.length from ho]; rfl, by rw [show ((out, true) : List Tx × Bool).1.length = at_.length from ho]; exact Nat.le_refl _, hfr3, hat3, hb⟩
set_option maxHeartbeats 8000000 in
theorem rpick_c (A1 A2 : Option Addr) (c1 c2 : Nat) (words : List Tx) (at_ : List Nat) (hx1 : words.length ≤ 100000) (hx2 : at_.length ≤ 100000) (w : World) (h1 : At w w.heap.size A1 (svs words)) (h2 : At w w.heap.size A2 (uvs at_)) :
  Calls Tryz.prog 135 #[.slice A1 words.length c1, .slice A2 at_.length c2] w (SEnd (pk words [] at_).1 (.bool (pk words [] at_).2) w) := by
 obtain ⟨i0, hi, hz0, hz1, hz2⟩ := info_parts Tryz.info9
 have H1 := Lib.hid h1
 have H2 := Lib.hid h2
 clear h1 h2
 obtain ⟨res, hres⟩ : ∃ res, res = pk words [] at_ := ⟨_, rfl⟩
 have HR := Lib.hid hres
 rw [← hres]
 clear hres
 go_enter Tryz.func135, Tryz.ntmps135
 go_wp2_with fail
 go_loopw [6, 7] (fun s i wr => ∃ (k : Nat) (out : List Tx), i = .int .i64 (k : Int) ∧ (∃ A' c', s = .slice A' k c') ∧ k ≤ at_.length ∧ out.length = k ∧ pk words out (at_.drop k) = res ∧ wr.ownsRow w.heap.size 9 1 s k (svs out) ∧ Below w.heap.size w wr)
  (fun _ i _ => at_.length - (Go.RowKit.intOf i).toNat)
 case atStart => exact ⟨0, [], rfl, ⟨none, 0, rfl⟩, Nat.zero_le _, rfl, HR.out.symm, World.ownsRow_nil _ _ _ _, Below.refl _ _⟩
 case round =>
  obtain ⟨k, out, rfl, ⟨A', c', rfl⟩, hk, hol, hpk, hown, hb⟩ := hrel
  have hb0 := hb.size
  have HPK := Lib.hid hpk
  have HOL := Lib.hid hol
  clear hpk hol
  by_cases hlt : k < at_.length
  ·obtain ⟨p, hpk⟩ := some_at hlt
   obtain ⟨b2, o2, rfl, _, hcp⟩ := (H2.out.below hb) k _ (uvs_at hpk)
   have HD := Lib.hid (drop_at_cons hpk)
   have HP := Lib.hid hpk
   clear hpk
   by_cases hin : p < words.length
   ·obtain ⟨t, ht⟩ := some_at hin
    obtain ⟨b1, o1, rfl, _, hct⟩ := (H1.out.below hb) p _ (svs_at ht)
    have hst : pk words (out ++ [t]) (at_.drop (k + 1)) = res := by rw [← pk_cons ht, ← HD.out]; exact HPK.out
    have HST := Lib.hid hst
    have hkc : k + 1 ≤ 100000 := by omega
    clear ht hst
    go_wp2_with (at_builtin; refine wpList_append_own _ rfl _ _ 64 rfl w.heap.size 9 i0 (.string ByteArray.empty) 1 16 Tryz.underlying64 hi hz0 hz1 hz2 rfl (by decide) _ _ _ rfl (hown.alloc _) ⟨wr.heap.size, 0, none⟩ 1 1 [.string (ba t)] rfl rfl (cell_one_new _ _ _) (by simp [Value.oneCell']) (by unfold maxLen; omega) (by omega) (by simp; omega) ?_; intro v' w2 hown2 hgrow2 _)
    have hb2 := Dl.below_ownI hb hb0 hown hgrow2
    obtain ⟨g', cap', rfl⟩ := ownsRow_succ hown2
    clear hown hgrow2 hb
    go_roundw
    case rel => exact ⟨k + 1, out ++ [t], by go_num, ⟨_, _, rfl⟩, by omega, by rw [List.length_append, HOL.out]; rfl, HST.out, by rw [svs_snoc]; exact hown2, hb2⟩
    case measure => simp only [Go.RowKit.intOf]; omega
   ·have hres2 : res = ([], false) := by
     rw [← HPK.out, HD.out, pk_none (by omega)]
    have HRES := Lib.hid hres2
    have hin2 : (words.length : Int) ≤ (p : Int) := by omega
    clear hres2
    go_wp2_with fail
    go_ret2
    rw [HRES.out]
    exact sEnd_nil hb
  ·obtain rfl : k = at_.length := by omega
   have hres2 : res = (out, true) := by rw [← HPK.out, List.drop_length]; rfl
   obtain ⟨A3, c3, hA3, hat3, hfr3, hcp3⟩ := own_at hown
   cases hA3
   have HRES := Lib.hid hres2
   clear hres2 hown
   go_wp2_with fail
   go_ret2
   rw [HRES.out]
   have ho := HOL.out
   exact ⟨_, _, by rw [show ((out, true) : List Tx × Bool).1.length = at_.length from ho]; rfl, by rw [show ((out, true) : List Tx × Bool).1.length = at_.length from ho]; exact hcp3, hfr3, hat3, hb⟩
end Dt
end Go.Proofs.YtojhenpaeedimaaGreat
end
section
namespace Go.Proofs.YtojhenpaeedimaaGreat
open Dl
namespace Ru
open Go.RowKit Go.IntWalk
open Pk
set_option maxRecDepth 100000
attribute [local go_sem] Oper.semAt_some
theorem same6_q (A1 A2 : Option Addr) (c1 c2 : Nat) (xs ys : List Nat) (hx : xs.length ≤ maxLen) (hy : ys.length ≤ maxLen) (w : World) (h1 : At w w.heap.size A1 (uvs xs)) (h2 : At w w.heap.size A2 (uvs ys)) :
  Calls Tryz.prog 187 #[.slice A1 xs.length c1, .slice A2 ys.length c2] w fun e w' => e = .returned (.bool (decide (xs = ys))) ∧ ∃ q, w' = w.drewN q := by
 unfold maxLen at hx hy
 have H1 := Lib.hid h1
 have H2 := Lib.hid h2
 clear h1 h2
 by_cases hl : xs.length = ys.length
 ·obtain ⟨n, hn⟩ : ∃ n, n = ys.length := ⟨_, rfl⟩
  have hn1 : xs.length = n := by omega
  rw [← hn, hn1]
  rw [hn1] at hx hl
  rw [← hn] at hy hl
  have HN := Lib.hid hn
  have HN1 := Lib.hid hn1
  clear hn hn1
  go_enter Tryz.func187, Tryz.ntmps187
  go_wp2_with fail
  go_loopw [5] (fun i wr => ∃ k : Nat, i = .int .i64 (k : Int) ∧ k ≤ n ∧ xs.take k = ys.take k ∧ ∃ q, wr = w.drewN q) (fun i _ => n - (Go.RowKit.intOf i).toNat)
  case atStart => exact ⟨0, rfl, Nat.zero_le _, rfl, 0, rfl⟩
  case round =>
   obtain ⟨k, rfl, hk, heq, hq⟩ := hrel
   have HQ := Lib.hid hq
   clear hq
   have HEQ := Lib.hid heq
   clear heq
   by_cases hlt : k < n
   ·obtain ⟨x, hxk⟩ := some_at (show k < xs.length by rw [HN1.out]; exact hlt)
    obtain ⟨y, hyk⟩ := some_at (show k < ys.length by rw [← HN.out]; exact hlt)
    obtain ⟨b1, o1, rfl, _, hc1⟩ := (at_drewE H1.out HQ.out) k _ (uvs_at hxk)
    obtain ⟨b2, o2, rfl, _, hc2⟩ := (at_drewE H2.out HQ.out) k _ (uvs_at hyk)
    have HE := Lib.hid (ext_take HEQ.out hxk hyk)
    have HX := Lib.hid hxk
    have HY := Lib.hid hyk
    clear hxk hyk
    by_cases hxy : x = y
    ·have ht : ((x : Int) != (y : Int)) = false := by simp [hxy]
     have HT := Lib.hid hxy
     clear hxy
     go_wp2_with fail
     go_quiet (fail)
     go_wp2
     go_roundw
     case rel => exact ⟨k + 1, by go_num, by omega, HE.out.2 HT.out, drewE HQ.out _⟩
     case measure => simp only [Go.RowKit.intOf]; omega
    ·have ht : ((x : Int) != (y : Int)) = true := by simp; omega
     have HT := Lib.hid hxy
     clear hxy
     go_wp2_with fail
     go_quiet (fail)
     go_wp2
     go_ret
     refine ⟨ret_bool ?_, drewE HQ.out _⟩
     have : ¬ xs = ys := fun e => HT.out (HE.out.1 (by rw [e]))
     simp [this]
   ·obtain rfl : k = n := by omega
    go_wp2_with fail
    go_ret
    refine ⟨ret_bool ?_, HQ.out⟩
    have h := HEQ.out
    rw [List.take_of_length_le (by rw [HN1.out]; exact Nat.le_refl _), List.take_of_length_le (by rw [← HN.out]; exact Nat.le_refl _)] at h
    simp [h]
 ·have HL := Lib.hid hl
  have ht : ((xs.length : Int) != (ys.length : Int)) = true := by simp only [bne_iff_ne, ne_eq]; omega
  clear hl
  go_enter Tryz.func187, Tryz.ntmps187
  go_wp2_with fail
  go_ret
  refine ⟨ret_bool ?_, 0, rfl⟩
  have : ¬ xs = ys := fun e => HL.out (by rw [e])
  simp [this]
theorem same6_c (A1 A2 : Option Addr) (c1 c2 : Nat) (xs ys : List Nat) (hx : xs.length ≤ maxLen) (hy : ys.length ≤ maxLen) (w : World) (h1 : At w w.heap.size A1 (uvs xs)) (h2 : At w w.heap.size A2 (uvs ys)) :
  Calls Tryz.prog 187 #[.slice A1 xs.length c1, .slice A2 ys.length c2] w fun e w' => e = .returned (.bool (decide (xs = ys))) ∧ Below w.heap.size w w' := by
 refine (same6_q A1 A2 c1 c2 xs ys hx hy w h1 h2).mono ?_
 rintro e w' ⟨rfl, q, rfl⟩
 exact ⟨rfl, below_drewN (Below.refl _ _) q⟩
attribute [-go_sem] run_neq_struct
end Ru
end Go.Proofs.YtojhenpaeedimaaGreat
end
section
namespace Go.Proofs.YtojhenpaeedimaaGreat
open Dl
namespace Ru
open Go.RowKit Go.IntWalk
open Pk
set_option maxRecDepth 100000
attribute [local go_sem] Oper.semAt_some
theorem uencode_k {A : Option Addr} {cap n : Nat} (xs : List Nat) (hn : xs.length = n) (hx : n ≤ 100000) (hxn : Nums xs) {w : World} (hc : At w w.heap.size A (uvs xs)) :
  Calls Tryz.prog 44 #[.slice A n cap] w fun e w' => e = .returned (.string (ba (encU xs))) ∧ Below w.heap.size w w' := by
 subst hn; exact uencode_c A cap xs hx hxn w hc
theorem urencode_k {A : Option Addr} {cap n : Nat} (xs : List Nat) (hn : xs.length = n) (hx : n ≤ 100000) (hxn : Nums xs) {w : World} (hc : At w w.heap.size A (uvs xs)) :
  Calls Tryz.prog 48 #[.slice A n cap] w fun e w' => e = .returned (.string (ba (encU xs))) ∧ Below w.heap.size w w' := by
 subst hn; exact urencode_c A cap xs hx hxn w hc
theorem same6_k {A1 A2 : Option Addr} {c1 c2 n m : Nat} (xs ys : List Nat) (hn : xs.length = n) (hm : ys.length = m) (hx : n ≤ 100000) (hy : m ≤ 100000) {w : World} (h1 : At w w.heap.size A1 (uvs xs)) (h2 : At w w.heap.size A2 (uvs ys)) :
  Calls Tryz.prog 187 #[.slice A1 n c1, .slice A2 m c2] w fun e w' => e = .returned (.bool (decide (xs = ys))) ∧ Below w.heap.size w w' := by
 subst hn; subst hm; exact same6_c A1 A2 c1 c2 xs ys (by unfold maxLen; omega) (by unfold maxLen; omega) w h1 h2
namespace live6
end live6
end Ru
end Go.Proofs.YtojhenpaeedimaaGreat
end
section
namespace Go.Proofs.YtojhenpaeedimaaGreat
open Dl Ru
namespace Dt
open Go.RowKit Go.IntWalk
open Pk Dc
set_option maxRecDepth 100000
attribute [local go_sem] Oper.semAt_some
theorem rs_drop {at_ : List Nat} {k p n : Nat} (h : at_[k]? = some p) : Dc.rs n (at_.drop k) = if n < p then none else Dc.rs (if p = n then n + 1 else n) (at_.drop (k + 1)) := by
 rw [drop_at_cons h, Dc.rs]
set_option maxHeartbeats 8000000 in
theorem mayD_c (A1 A2 : Option Addr) (c1 c2 : Nat) (words : List Tx) (at_ : List Nat) (hx1 : words.length ≤ 100000) (hx2 : at_.length ≤ 100000) (hts : ∀ t ∈ words, t.length ≤ 100000) (w : World) (h1 : At w w.heap.size A1 (svs words)) (h2 : At w w.heap.size A2 (uvs at_)) :
  Calls Tryz.prog 182 #[.slice A1 words.length c1, .slice A2 at_.length c2] w fun e w' => e = .returned (.bool (mayW words at_)) ∧ Below w.heap.size w w' := by
 have H1 := Lib.hid h1
 have H2 := Lib.hid h2
 have HT := Lib.hid hts
 have hwl := ws_len words []
 rw [List.length_nil] at hwl
 clear h1 h2 hts
 go_enter Tryz.func182, Tryz.ntmps182
 go_wp2_with fail
 refine (words_c A1 c1 words hx1 HT.out _ H1.out).mono ?_
 rintro e w1 ⟨B1, k1, B2, k2, rfl, -, -, -, -, -, -, hb1⟩
 obtain ⟨m, hm⟩ : ∃ m, m = (ws [] words).length := ⟨_, rfl⟩
 have hmw : mayW words at_ = (decide (m = words.length) && decide (Dc.rs 0 at_ = some words.length)) := by unfold mayW; rw [hm]
 rw [← hm] at hwl ⊢
 have HMW := Lib.hid hmw
 clear hm hmw
 by_cases hml : m < words.length
 ·have hd : decide (m = words.length) = false := by simp; omega
  have HD := Lib.hid hd
  clear hd
  go_wp2_with fail
  go_ret
  exact ⟨ret_bool (by rw [HMW.out, HD.out]; rfl), hb1⟩
 ·have hd : decide (m = words.length) = true := by simp; omega
  have HD := Lib.hid hd
  clear hd
  have hb10 := hb1.size
  go_wp2_with fail
  go_loopw [7, 22] (fun n i wr => ∃ (k N : Nat), n = .int .u64 (N : Int) ∧ i = .int .i64 (k : Int) ∧ k ≤ at_.length ∧ N ≤ k ∧ Dc.rs N (at_.drop k) = Dc.rs 0 at_ ∧ wr = w1) (fun _ i _ => at_.length - (Go.RowKit.intOf i).toNat)
  case atStart => exact ⟨0, 0, rfl, rfl, Nat.zero_le _, Nat.le_refl _, rfl, rfl⟩
  case round =>
   obtain ⟨k, N, rfl, rfl, hk, hNk, hrs, rfl⟩ := hrel
   have HRS := Lib.hid hrs
   clear hrs
   by_cases hlt : k < at_.length
   ·obtain ⟨p, hpk⟩ := some_at hlt
    obtain ⟨b2, o2, rfl, _, hcp⟩ := (H2.out.below hb1) k _ (uvs_at hpk)
    have HST := Lib.hid (rs_drop (n := N) hpk)
    clear hpk
    by_cases hfar : N < p
    ·have hfar2 : (N : Int) < (p : Int) := by omega
     have hno : Dc.rs 0 at_ = none := by rw [← HRS.out, HST.out, if_pos hfar]
     have HNO := Lib.hid hno
     clear hno
     go_wp2_with fail
     go_ret
     exact ⟨ret_bool (by rw [HMW.out, HNO.out]; simp), hb1⟩
    ·by_cases hpe : p = N
     ·have hee : ((p : Int) == (N : Int)) = true := by simp [hpe]
      have hst2 : Dc.rs (N + 1) (at_.drop (k + 1)) = Dc.rs 0 at_ := by
       have := HST.out
       rw [if_neg hfar, if_pos hpe] at this
       rw [← this]; exact HRS.out
      have HS2 := Lib.hid hst2
      have hle : ¬ (N : Int) < (p : Int) := by omega
      have HPE := Lib.hid hpe
      clear hst2 hpe hfar
      go_wp2_with fail
      go_roundw
      case rel => exact ⟨k + 1, N + 1, by go_num, by go_num, by omega, by omega, HS2.out, by first | rfl | trivial⟩
      case measure => simp only [Go.RowKit.intOf]; omega
     ·have hee : ((p : Int) == (N : Int)) = false := by simp; omega
      have hst2 : Dc.rs N (at_.drop (k + 1)) = Dc.rs 0 at_ := by
       have := HST.out
       rw [if_neg hfar, if_neg hpe] at this
       rw [← this]; exact HRS.out
      have HS2 := Lib.hid hst2
      have hle : ¬ (N : Int) < (p : Int) := by omega
      clear hst2 hpe hfar
      go_wp2_with fail
      go_roundw
      case rel => exact ⟨k + 1, N, rfl, by go_num, by omega, by omega, HS2.out, by first | rfl | trivial⟩
      case measure => simp only [Go.RowKit.intOf]; omega
   ·obtain rfl : k = at_.length := by omega
    have hend : Dc.rs 0 at_ = some N := by rw [← HRS.out, List.drop_length]; rfl
    have HE := Lib.hid hend
    have hwu : IntKind.u64.wrap (words.length : Int) = (words.length : Int) := by rw [IntKind.wrap_u64]; omega
    clear hend
    go_wp2_with fail
    go_ret
    refine ⟨ret_bool ?_, hb1⟩
    rw [HMW.out, HD.out, HE.out]
    by_cases h : N = words.length <;> simp [h]
    omega
set_option maxHeartbeats 8000000 in
theorem rmayD_c (A1 A2 : Option Addr) (c1 c2 : Nat) (words : List Tx) (at_ : List Nat) (hx1 : words.length ≤ 100000) (hx2 : at_.length ≤ 100000) (w : World) (h1 : At w w.heap.size A1 (svs words)) (h2 : At w w.heap.size A2 (uvs at_)) :
  Calls Tryz.prog 134 #[.slice A1 words.length c1, .slice A2 at_.length c2] w fun e w' => e = .returned (.bool (mayW words at_)) ∧ Below w.heap.size w w' := by
 have hnot : ∀ (x : Bool) (w : World), (Op.unary .not (.bool x)).run Tryz.prog w = .ok (.bool (!x)) w := fun _ _ => rfl
 have H1 := Lib.hid h1
 have H2 := Lib.hid h2
 clear h1 h2
 have hpl := @pk_len words [] at_
 have hiff := may_iff words at_
 unfold MayD at hiff
 obtain ⟨r, hr⟩ : ∃ r, r = pk words [] at_ := ⟨_, rfl⟩
 rw [← hr] at hpl hiff
 have HR := Lib.hid hr
 obtain ⟨l, b⟩ := r
 simp only [List.length_nil] at hpl
 go_enter Tryz.func134, Tryz.ntmps134
 go_wp2_with fail
 refine (rpick_c A1 A2 c1 c2 words at_ hx1 hx2 _ H1.out H2.out).mono ?_
 rintro e w1 ⟨B1, k1, rfl, -, -, hat1, hb1⟩
 rw [← HR.out] at hat1 ⊢
 have HAT1 := Lib.hid hat1
 clear hat1 hr
 cases b
 ·have hno : mayW words at_ = false := by
   rw [← Bool.not_eq_true, hiff]
   rintro ⟨l', h, _⟩
   simp at h
  have HNO := Lib.hid hno
  clear hno hiff
  go_wp2_with fail
  go_ret
  exact ⟨ret_bool (by rw [HNO.out]), hb1⟩
 ·have hll : l.length ≤ 100000 := by omega
  have hval : mayW words at_ = (decide (ws [] l = words) && decide (pl [] l = at_)) := by
   rw [Bool.eq_iff_iff, hiff, Bool.and_eq_true, decide_eq_true_eq, decide_eq_true_eq]
   constructor
   ·rintro ⟨l', h, h2, h3⟩
    simp only [Prod.mk.injEq, and_true] at h
    subst h
    exact ⟨h2, h3⟩
   ·rintro ⟨h2, h3⟩
    exact ⟨l, rfl, h2, h3⟩
  have HVAL := Lib.hid hval
  have hwl := ws_len l []
  rw [List.length_nil] at hwl
  clear hval hiff
  go_wp2_with fail
  refine (rwords_c B1 k1 l hll _ HAT1.out).mono ?_
  rintro e w2 ⟨B2, k2, B3, k3, rfl, -, -, -, -, hat2, hat3, hm2⟩
  have HAT2 := Lib.hid hat2
  have HAT3 := Lib.hid hat3
  have hb2 := hb1.trans (hm2.mono hb1.size)
  clear hat2 hat3 hm2 hb1
  go_wp2_with fail
  refine (same4_k (ws [] l) words rfl rfl (by omega) hx1 HAT2.out (H1.out.keep hb2)).mono ?_
  rintro e w3 ⟨rfl, hm3⟩
  have HAT3 := Lib.hid (HAT3.out.keep hm3)
  have hb3 := hb2.trans (hm3.mono hb2.size)
  clear hm3 hb2 HAT2
  by_cases hw : ws [] l = words
  ·have hwd : decide (ws [] l = words) = true := by simp [hw]
   rw [hwd]
   have HWD := Lib.hid hwd
   clear hw hwd
   go_wp2_with fail
   refine (same6_k (pl [] l) at_ (pl_len l []) rfl hll hx2 HAT3.out (H2.out.keep hb3)).mono ?_
   rintro e w4 ⟨rfl, hm4⟩
   have hb4 := hb3.trans (hm4.mono hb3.size)
   go_wp2
   go_ret
   exact ⟨ret_bool (by rw [HVAL.out, HWD.out]; rfl), hb4⟩
  ·have hwd : decide (ws [] l = words) = false := by simp [hw]
   rw [hwd]
   have HWD := Lib.hid hwd
   clear hw hwd
   go_wp2_with fail
   go_ret
   exact ⟨ret_bool (by rw [HVAL.out, HWD.out]; rfl), hb3⟩
end Dt
end Go.Proofs.YtojhenpaeedimaaGreat
end
