/-
 Lists of texts as cells; two of them held against each other; where a text stands in one.
 Words of a list of texts, the program's: by a map.
-/
import Derived.Test.YtojhenpaeedimaaGreatQh
import Derived.Test.YtojhenpaeedimaaGreatDe
import Derived.Test.YtojhenpaeedimaaGreatMt
import Derived.Test.YtojhenpaeedimaaGreatMg
import Derived.Test.YtojhenpaeedimaaGreatRa
import Derived.Test.YtojhenpaeedimaaGreatDa
import Derived.Deep.RegionHeldLaw
import Derived.Test.YtojhenpaeedimaaGreatBl
import Derived.Test.YtojhenpaeedimaaGreatQj
import Derived.Maps.OwnSet
section
namespace Go.Proofs.YtojhenpaeedimaaGreat
open Dl Ru
namespace Dt
open Go.RowKit Go.IntWalk
open Pk Dc
set_option maxRecDepth 100000
attribute [local go_sem] Oper.semAt_some
def tv (t : Tx) : Value := .string (ba t)
def svs (l : List Tx) : List Value := l.map tv
theorem svs_at {l : List Tx} {k : Nat} {x : Tx} (h : l[k]? = some x) : (svs l)[k]? = some (.string (ba x)) := by simp [svs, tv, h]
theorem svs_snoc (l : List Tx) (x : Tx) : svs (l ++ [x]) = svs l ++ [.string (ba x)] := by simp [svs, tv]
theorem Tryz.info9 : (Tryz.prog.info? 9).map (fun i => (i.zero, i.size, i.bytes)) = some (some (.string ByteArray.empty), 1, 16) := by kernel_rfl
theorem ba_beq (a b : Tx) : ((ba a).toList == (ba b).toList) = decide (a = b) := by
 rw [ByteArray.toList_eq, ByteArray.toList_eq, ba_list, ba_list]
 by_cases h : a = b <;> simp [h]
theorem same4_q (A1 A2 : Option Addr) (c1 c2 : Nat) (xs ys : List Tx) (hx : xs.length ≤ maxLen) (hy : ys.length ≤ maxLen) (w : World) (h1 : At w w.heap.size A1 (svs xs)) (h2 : At w w.heap.size A2 (svs ys)) :
  Calls Tryz.prog 186 #[.slice A1 xs.length c1, .slice A2 ys.length c2] w fun e w' => e = .returned (.bool (decide (xs = ys))) ∧ ∃ q, w' = w.drewN q := by
 unfold maxLen at hx hy
 have H1 := Lib.hid h1
 have H2 := Lib.hid h2
 clear h1 h2
 by_cases hl : xs.length = ys.length
 ·obtain ⟨n, hn⟩ : ∃ n, n = ys.length := ⟨_, rfl⟩
  have hn1 : xs.length = n := by omega
  rw [← hn, hn1]
  rw [hn1] at hx hl
  rw [← hn] at hy hl
  have HN := Lib.hid hn
  have HN1 := Lib.hid hn1
  clear hn hn1
  go_enter Tryz.func186, Tryz.ntmps186
  go_wp2_with fail
  go_loopw [5] (fun i wr => ∃ k : Nat, i = .int .i64 (k : Int) ∧ k ≤ n ∧ xs.take k = ys.take k ∧ ∃ q, wr = w.drewN q) (fun i _ => n - (Go.RowKit.intOf i).toNat)
  case atStart => exact ⟨0, rfl, Nat.zero_le _, rfl, 0, rfl⟩
  case round =>
   obtain ⟨k, rfl, hk, heq, hq⟩ := hrel
   have HQ := Lib.hid hq
   clear hq
   have HEQ := Lib.hid heq
   clear heq
   by_cases hlt : k < n
   ·obtain ⟨x, hxk⟩ := some_at (show k < xs.length by rw [HN1.out]; exact hlt)
    obtain ⟨y, hyk⟩ := some_at (show k < ys.length by rw [← HN.out]; exact hlt)
    obtain ⟨b1, o1, rfl, _, hc1⟩ := (at_drewE H1.out HQ.out) k _ (svs_at hxk)
    obtain ⟨b2, o2, rfl, _, hc2⟩ := (at_drewE H2.out HQ.out) k _ (svs_at hyk)
    have HE := Lib.hid (ext_take HEQ.out hxk hyk)
    have HX := Lib.hid hxk
    have HY := Lib.hid hyk
    clear hxk hyk
    by_cases hxy : x = y
    ·have ht : (!((ba x).toList == (ba y).toList)) = false := by rw [ba_beq]; simp [hxy]
     have HT := Lib.hid hxy
     clear hxy
     go_wp2_with fail
     go_quiet (fail)
     go_wp2
     go_roundw
     case rel => exact ⟨k + 1, by go_num, by omega, HE.out.2 HT.out, drewE HQ.out _⟩
     case measure => simp only [Go.RowKit.intOf]; omega
    ·have ht : (!((ba x).toList == (ba y).toList)) = true := by rw [ba_beq]; simp [hxy]
     have HT := Lib.hid hxy
     clear hxy
     go_wp2_with fail
     go_quiet (fail)
     go_wp2
     go_ret
     refine ⟨ret_bool ?_, drewE HQ.out _⟩
     have : ¬ xs = ys := fun e => HT.out (HE.out.1 (by rw [e]))
     simp [this]
   ·obtain rfl : k = n := by omega
    go_wp2_with fail
    go_ret
    refine ⟨ret_bool ?_, HQ.out⟩
    have h := HEQ.out
    rw [List.take_of_length_le (by rw [HN1.out]; exact Nat.le_refl _), List.take_of_length_le (by rw [← HN.out]; exact Nat.le_refl _)] at h
    simp [h]
 ·have HL := Lib.hid hl
  have ht : ((xs.length : Int) != (ys.length : Int)) = true := by simp only [bne_iff_ne, ne_eq]; omega
  clear hl
  go_enter Tryz.func186, Tryz.ntmps186
  go_wp2_with fail
  go_ret
  refine ⟨ret_bool ?_, 0, rfl⟩
  have : ¬ xs = ys := fun e => HL.out (by rw [e])
  simp [this]
theorem same4_k {A1 A2 : Option Addr} {c1 c2 n m : Nat} (xs ys : List Tx) (hn : xs.length = n) (hm : ys.length = m) (hx : n ≤ 100000) (hy : m ≤ 100000) {w : World} (h1 : At w w.heap.size A1 (svs xs)) (h2 : At w w.heap.size A2 (svs ys)) :
  Calls Tryz.prog 186 #[.slice A1 n c1, .slice A2 m c2] w fun e w' => e = .returned (.bool (decide (xs = ys))) ∧ Below w.heap.size w w' := by
 subst hn; subst hm
 refine (same4_q A1 A2 c1 c2 xs ys (by unfold maxLen; omega) (by unfold maxLen; omega) w h1 h2).mono ?_
 rintro e w' ⟨rfl, q, rfl⟩
 exact ⟨rfl, below_drewN (Below.refl _ _) q⟩
theorem place_c (A : Option Addr) (cap : Nat) (l : List Tx) (t : Tx) (hx : l.length ≤ 100000) (w : World) (hc : At w w.heap.size A (svs l)) :
  Calls Tryz.prog 163 #[.slice A l.length cap, .string (ba t)] w fun e w' => e = .returned (.int .i64 (ix t l : Int)) ∧ w' = w := by
 have HC := Lib.hid hc
 clear hc
 go_enter Tryz.func163, Tryz.ntmps163
 go_wp2_with fail
 go_loopw [5] (fun i wr => ∃ k : Nat, i = .int .i64 (k : Int) ∧ k ≤ l.length ∧ k + ix t (l.drop k) = ix t l ∧ wr = w) (fun i _ => l.length - (Go.RowKit.intOf i).toNat)
 case atStart => exact ⟨0, rfl, Nat.zero_le _, by simp, rfl⟩
 case round =>
  obtain ⟨k, rfl, hk, hix, rfl⟩ := hrel
  have HIX := Lib.hid hix
  clear hix
  by_cases hlt : k < l.length
  ·obtain ⟨x, hxk⟩ := some_at hlt
   obtain ⟨b, off, rfl, _, hcell⟩ := HC.out k _ (svs_at hxk)
   have HX := Lib.hid hxk
   clear hxk
   by_cases hxt : x = t
   ·have ht : ((ba x).toList == (ba t).toList) = true := by rw [ba_beq]; simp [hxt]
    have HT := Lib.hid hxt
    clear hxt
    go_wp2_with fail
    go_ret
    have hxx := HX.out
    rw [HT.out] at hxx
    exact ⟨ret_int (by rw [← ix_here hxx HIX.out]), rfl⟩
   ·have ht : ((ba x).toList == (ba t).toList) = false := by rw [ba_beq]; simp [hxt]
    have HT := Lib.hid hxt
    clear hxt
    go_wp2_with fail
    go_roundw
    case rel => exact ⟨k + 1, by go_num, by omega, ix_step HX.out HT.out HIX.out, by first | rfl | trivial⟩
    case measure => simp only [Go.RowKit.intOf]; omega
  ·obtain rfl : k = l.length := by omega
   go_wp2_with fail
   go_ret
   have h := HIX.out
   rw [List.drop_length] at h
   exact ⟨ret_int (by rw [← h]; simp [ix]), rfl⟩
theorem rows_ne {w : World} {B1 B2 : Nat} {e1 e2 : TypeId} {v1 v2 : Value} {n1 n2 : Nat} {xs1 xs2 : List Value} (hne : e2 ≠ e1) (h1 : w.ownsRow B1 e1 1 v1 n1 xs1) (h2 : w.ownsRow B2 e2 1 v2 n2 xs2) {g : Nat} (hg : v2.ownBlock = some g) : v1.ownBlock ≠ some g := by
 rcases h2.2 with ⟨rfl, _⟩ | ⟨g', cap, cur, rfl, _, hh, _⟩
 ·simp [Value.ownBlock] at hg
 ·simp only [Value.ownBlock, Option.some.injEq] at hg
  subst hg
  exact Lib.ownBlock_ne h1 hh hne
theorem row_beside {w w2 : World} {B1 B2 : Nat} {e1 e2 : TypeId} {v1 v2 : Value} {n1 n2 : Nat} {xs1 xs2 : List Value} {o : Obj} (hne : e2 ≠ e1) (h1 : w.ownsRow B1 e1 1 v1 n1 xs1) (h2 : w.ownsRow B2 e2 1 v2 n2 xs2) (hg : (w.alloc o).grownBy w2 v2.ownBlock) : w2.ownsRow B1 e1 1 v1 n1 xs1 := by
 refine (h1.alloc o).kept hg ?_
 rcases h : v1.ownBlock with _ | g
 ·exact .inl rfl
 ·refine .inr fun e => ?_
  exact rows_ne hne h1 h2 e.symm h
theorem own_apart {w w' : World} {base g q size n k cap : Nat} {e : TypeId} {xs : List Value} (h : w.ownsRow base e size (.slice (some ⟨g, 0, none⟩) k cap) n xs) (ho : w.grownBy w' (some q)) (hq : g ≠ q) : w'.ownsRow base e size (.slice (some ⟨g, 0, none⟩) k cap) n xs :=
 h.kept ho (.inr (by simpa [Value.ownBlock] using hq))
end Dt
end Go.Proofs.YtojhenpaeedimaaGreat
end
section
namespace Go.Proofs.YtojhenpaeedimaaGreat
open Dl Ru
namespace Dt
open Go.RowKit Go.IntWalk Go.Maps Go.WideMaps Go.WideShapes
open Pk Dc
set_option maxRecDepth 100000
attribute [local go_sem] Oper.semAt_some
theorem lawS : Keyed Tryz.prog 9 := string_keyed Tryz.underlying9
theorem zeroU (w : World) : (zeroValue 62).run Tryz.prog w = .ok (.int .u64 0) w := by kernel_rfl
/-- the map D tells each of the words W its place -/
def Dok (D : DataW Unit) (W : List Tx) : Prop := (∀ t, Maps.has D (.string t) = decide (t ∈ W)) ∧ ∀ t, t ∈ W → D.atKey (.string t) (.lit (.int .u64 0)) = .lit (.int .u64 (ix t W : Int))
theorem dok_nil : Dok (.map []) [] := ⟨fun t => by simp [Maps.has], fun t h => by simp at h⟩
theorem dok_put {D : DataW Unit} {W : List Tx} {t : Tx} (hm : IsMap D) (h : Dok D W) (ht : t ∉ W) : Dok (D.put (.string t) (.lit (.int .u64 (W.length : Int)))) (W ++ [t]) := by
 refine ⟨fun u => ?_, fun u hu => ?_⟩
 ·by_cases e : u = t
  ·subst e; rw [has_put_same hm (show WideAt.IsKeyLit (Lit.string u) from trivial)]; simp
  ·rw [has_put_other (by simpa using e), h.1]; simp [e]
 ·by_cases e : u = t
  ·subst e
   rw [atKey_put_same hm (show WideAt.IsKeyLit (Lit.string u) from trivial), ix_app' ht]
   simp [ix]
  ·have hu' : u ∈ W := by simpa [e] using hu
   rw [atKey_put_other (by simpa using e), h.2 u hu', ix_app hu']
/-- words, and places, as the answer of a call -/
def WEnd (l : List Tx) (w : World) (e : Ending) (w' : World) : Prop :=
 ∃ A1 c1 A2 c2, e = .returned (.tuple #[.slice A1 (ws [] l).length c1, .slice A2 l.length c2]) ∧ (ws [] l).length ≤ c1 ∧ l.length ≤ c2 ∧ Fresh w.heap.size A1 ∧ Fresh w.heap.size A2 ∧
  At w' w'.heap.size A1 (svs (ws [] l)) ∧ At w' w'.heap.size A2 (uvs (pl [] l)) ∧ Below w.heap.size w w'
set_option maxHeartbeats 8000000 in
theorem words_c (A : Option Addr) (cap : Nat) (l : List Tx) (hx : l.length ≤ 100000) (hts : ∀ t ∈ l, t.length ≤ 100000) (w : World) (hc : At w w.heap.size A (svs l)) :
  Calls Tryz.prog 97 #[.slice A l.length cap] w (WEnd l w) := by
 obtain ⟨i0, hi, hz0, hz1, hz2⟩ := info_parts Tryz.info9
 obtain ⟨j0, hj, hy0, hy1, hy2⟩ := info_parts Tryz.info62
 have hmm := @run_makeMap Tryz.prog
 have hnot : ∀ (x : Bool) (w : World), (Op.unary .not (.bool x)).run Tryz.prog w = .ok (.bool (!x)) w := fun _ _ => rfl
 have HC := Lib.hid hc
 have HT := Lib.hid hts
 clear hc hts
 have hbx : j0.bytes * l.length ≤ 281474976710656 := by rw [hy2]; omega
 have hmx : l.length ≤ maxLen := by unfold maxLen; omega
 go_enter Tryz.func97, Tryz.ntmps97
 go_wp2_with (at_make; refine wpList_make_own _ rfl _ _ 60 rfl w.heap.size 62 j0 (.int .u64 0) 1 Tryz.underlying60 hj hy0 hy1 .i64 .i64 _ l.length rfl rfl rfl hbx hmx (Nat.le_refl _) ?_; intro w1 hown1 hgrow1)
 have hb1 : Below w.heap.size w w1 := (Below.refl _ w).grown hgrow1 (Nat.le_refl _) (fun k e => by cases e)
 have hgl := (hown1.lt w.heap.size rfl).2
 have hmap1 : (w1.alloc (.map #[] 0)).ownsMap Tryz.prog 9 (plainElem Tryz.prog 62) w1.heap.size 0 (.map [] : DataW Unit) := World.ownsMap_made _ _ _ _
 have hown2 := hown1.alloc (.map #[] 0)
 have hb2 := hb1.alloc hb1.size (.map #[] 0)
 obtain ⟨b, hb⟩ : ∃ b, b = w1.heap.size := ⟨_, rfl⟩
 rw [← hb] at hmap1 hgl ⊢
 obtain ⟨W0, hW0⟩ : ∃ W0, W0 = w1.alloc (.map #[] 0) := ⟨_, rfl⟩
 have hsz0 : W0.heap.size = b + 1 := by rw [hW0, World.size_alloc, hb]
 rw [← hW0] at hmap1 hown2 hb2 ⊢
 have hgb : w.heap.size ≠ b := by omega
 have hgb2 : w.heap.size ≤ b := by omega
 clear hb hW0 hown1 hgrow1 hb1 hbx hmx
 go_loopw [4, 5, 17] (fun v a i wr => ∃ (k : Nat) (D : DataW Unit) (n : Nat), i = .int .i64 (k : Int) ∧ k ≤ l.length ∧ a = .slice (some ⟨w.heap.size, 0, none⟩) k l.length ∧ n ≤ k ∧ wr.ownsMap Tryz.prog 9 (plainElem Tryz.prog 62) b n D ∧ Dok D (ws [] (l.take k)) ∧ wr.ownsRow w.heap.size 62 1 (.slice (some ⟨w.heap.size, 0, none⟩) k l.length) k (uvs (pl [] (l.take k))) ∧ (∃ A1 c1, v = .slice A1 (ws [] (l.take k)).length c1) ∧ wr.ownsRow (b + 1) 9 1 v (ws [] (l.take k)).length (svs (ws [] (l.take k))) ∧ Below w.heap.size w wr ∧ b + 1 ≤ wr.heap.size)
  (fun _ _ i _ => l.length - (Go.RowKit.intOf i).toNat)
 case atStart => exact ⟨0, _, 0, rfl, Nat.zero_le _, rfl, Nat.le_refl _, hmap1, dok_nil, hown2, ⟨none, 0, rfl⟩, World.ownsRow_nil _ _ _ _, hb2, by omega⟩
 case round =>
  clear hmap1 hown2 hb2
  obtain ⟨k, D, n, rfl, hk, rfl, hnk, hmap, hD, ha, ⟨A1, c1, rfl⟩, hv, hb, hbs⟩ := hrel
  have hb0 := hb.size
  by_cases hlt : k < l.length
  ·obtain ⟨t, htk⟩ := some_at hlt
   obtain ⟨b', off, rfl, hbl, hcell⟩ := (HC.out.below hb) k _ (svs_at htk)
   have htl := HT.out t (mem_at htk)
   have hkey : keyOf Tryz.prog 9 (.string (ba t)) = some (.string t) := keyOf_string_mk Tryz.underlying9 (by rw [ba_size]; unfold maxLen; omega)
   have hwl := ws_len (l.take k) []
   rw [List.length_take, List.length_nil] at hwl
   have HW1 := Lib.hid (ws_take htk [])
   have HP1 := Lib.hid (pl_take htk [])
   obtain ⟨V, hV⟩ : ∃ V, V = ws [] (l.take k) := ⟨_, rfl⟩
   rw [← hV] at hD hv hwl HW1 HP1 ⊢
   have HV := Lib.hid hV
   have hVl : V.length ≤ 100000 := by omega
   have hnm : n < maxLen := by unfold maxLen; omega
   have hkc : k + 1 ≤ l.length := by omega
   have HTK := Lib.hid htk
   clear hV hwl htk
   by_cases hin : t ∈ V
   ·have hhit : Maps.has D (.string t) = true := by rw [hD.1]; simpa using hin
    have hat0 := hD.2 t hin
    have hil := (ix_mem hin).1
    have HADD := Lib.hid (add_mem hin)
    clear hin
    go_wp2_with (first
     | (at_lookup; refine wpList_lookup_own_ok_int _ rfl _ _ 180 rfl 9 62 .u64 lawS Tryz.underlying180 Tryz.underlying62 (zeroU _) b n D rfl hmap _ _ rfl hkey ?_; intro cL hat hwc; rw [hhit]; obtain rfl : cL = (ix t V : Int) := by (rw [hat0] at hat; injection hat with hat; injection hat with _ hat; exact hat.symm))
     | (at_builtin; refine wpList_append_fits _ rfl _ _ 60 rfl w.heap.size 62 j0 1 Tryz.underlying60 hj hy1 w.heap.size k l.length _ rfl (ha.alloc _) ⟨wr.heap.size, 0, none⟩ 1 1 [.int .u64 (ix t V : Int)] rfl rfl (cell_one_new _ _ _) (by simp [Value.oneCell']) hkc ?_; intro w2 ha2 hgrow2))
    have hb2 := Dl.below_ownI hb hb0 ha hgrow2
    have hv2 := row_beside (by decide) hv ha hgrow2
    have hmap2 := (hmap.alloc (.cells #[.int .u64 (ix t V : Int)] 62)).kept hgrow2 (fun e => hgb (by simpa [Value.ownBlock] using e.symm))
    have hs2 := hgrow2.size
    have R1 : ws [] (l.take (k + 1)) = V := by rw [HW1.out, HADD.out]
    have R2 : w2.ownsRow w.heap.size 62 1 (.slice (some ⟨w.heap.size, 0, none⟩) (k + 1) l.length) (k + 1) (uvs (pl [] (l.take (k + 1)))) := by rw [HP1.out, uvs_snoc]; exact ha2
    refine ⟨⟨k + 1, D, n, by go_num, by omega, rfl, by omega, hmap2, by rw [R1]; exact hD, R2, ⟨_, _, by rw [R1]⟩, by rw [R1]; exact hv2, hb2, by rw [World.size_alloc] at hs2; omega⟩, ?_⟩
    simp only [Go.RowKit.intOf]; omega
   ·have hmiss : Maps.has D (.string t) = false := by rw [hD.1]; simpa using hin
    have HADD := Lib.hid (add_not hin)
    have HIX := Lib.hid (ix_not hin)
    have hDn := dok_put hmap.isMap hD hin
    have hwfU : (Lit.int .u64 (V.length : Int)).wf = true := WalkArith.wf_u64 (by omega)
    clear hin
    go_wp2_with (first
     | (at_lookup; refine wpList_lookup_own_ok_int _ rfl _ _ 180 rfl 9 62 .u64 lawS Tryz.underlying180 Tryz.underlying62 (zeroU _) b n D rfl hmap _ _ rfl hkey ?_; intro cL hat hwc; rw [hmiss])
     | (at_mapUpdate; refine wpList_mapUpdate_own _ rfl _ _ _ 180 rfl 9 62 lawS Tryz.underlying180 _ b n D rfl hmap hnm _ _ _ rfl rfl hkey _ [] (plainElem_int Tryz.underlying62 hwfU) ?_; intro w2 hmap2 hgr2; have hv2 := own_only hv hgr2 (Nat.lt_succ_self b); have ha2 := own_apart ha hgr2 hgb; have hb2 := below_only hb hgr2 hb0 hgb2)
     | (at_builtin; refine wpList_append_own _ rfl _ _ 64 rfl (b + 1) 9 i0 (.string ByteArray.empty) 1 16 Tryz.underlying64 hi hz0 hz1 hz2 rfl (by decide) _ _ _ rfl (hv2.alloc _) ⟨w2.heap.size, 0, none⟩ 1 1 [.string (ba t)] rfl rfl (cell_one_new _ _ _) (by simp [Value.oneCell']) (by unfold maxLen; omega) (by omega) (by have := hgr2.size; simp; omega) ?_; intro v' w3 hv3 hgr3 _; have ha3 := row_beside (by decide) ha2 hv2 hgr3; have hb3 := Dl.below_ownI hb2 hb2.size (ownsRow_lower hv2 (by omega)) hgr3)
     | (at_builtin; refine wpList_append_fits _ rfl _ _ 60 rfl w.heap.size 62 j0 1 Tryz.underlying60 hj hy1 w.heap.size k l.length _ rfl (ha3.alloc _) ⟨w3.heap.size, 0, none⟩ 1 1 [.int .u64 (V.length : Int)] rfl rfl (cell_one_new _ _ _) (by simp [Value.oneCell']) hkc ?_; intro w4 ha4 hgr4))
    obtain ⟨g', cap', rfl⟩ := ownsRow_succ hv3
    have hv4 := row_beside (by decide) hv3 ha3 hgr4
    have hmap3 := (hmap2.alloc (.cells #[.string (ba t)] 9)).kept hgr3 (fun e => by have := (hv2.lt b e.symm).1; omega)
    have hmap4 := (hmap3.alloc (.cells #[.int .u64 (V.length : Int)] 62)).kept hgr4 (fun e => hgb (by simpa [Value.ownBlock] using e.symm))
    have hb4 := Dl.below_ownI hb3 hb3.size ha3 hgr4
    have hs2 := hgr2.size
    have hs3 := hgr3.size
    have hs4 := hgr4.size
    rw [World.size_alloc] at hs3 hs4
    have R1 : ws [] (l.take (k + 1)) = V ++ [t] := by rw [HW1.out, HADD.out]
    have R2 : w4.ownsRow w.heap.size 62 1 (.slice (some ⟨w.heap.size, 0, none⟩) (k + 1) l.length) (k + 1) (uvs (pl [] (l.take (k + 1)))) := by rw [HP1.out, HIX.out, uvs_snoc]; exact ha4
    have R3 : w4.ownsRow (b + 1) 9 1 (.slice (some ⟨g', 0, none⟩) (V.length + 1) cap') (V ++ [t]).length (svs (V ++ [t])) := by rw [svs_snoc, List.length_append]; exact hv4
    refine ⟨⟨k + 1, _, n + 1, by go_num, by omega, rfl, by omega, hmap4, by rw [R1]; exact hDn, R2, ⟨_, _, by rw [R1, List.length_append]; rfl⟩, by rw [R1]; exact R3, hb4, by omega⟩, ?_⟩
    simp only [Go.RowKit.intOf]; omega
  ·obtain rfl : k = l.length := by omega
   rw [List.take_length] at ha hv
   obtain ⟨A2, c2, hA2, hat2, hfr2, hcp2⟩ := own_at hv
   cases hA2
   obtain ⟨A3, c3, hA3, hat3, hfr3, hcp3⟩ := own_at ha
   cases hA3
   rw [List.take_length]
   clear hmap hD ha hv
   go_wp2_with fail
   go_ret2
   exact ⟨_, _, _, _, rfl, hcp2, hcp3, fun a h => by have := hfr2 a h; omega, hfr3, hat2, hat3, hb⟩
end Dt
end Go.Proofs.YtojhenpaeedimaaGreat
end
