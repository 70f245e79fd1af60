/-
 Decode of runs, the document's.
 Lists of texts as cells; two of them held against each other; where a text stands in one.
 Words of a list of texts, the program's: by a map.
 Words of a list of texts, the document's; Pick, the program's and the document's.
 Pick, the program's and the document's.
 Two lists held against each other, of numbers and of runs.
 The contracts at written lengths; the live answers of runs.
 May these be Words of a list? the program's, and the document's.
 Encode of texts, the program's and the document's.
-/
import Derived.Test.YtojhenpaeedimaaGreatDg
import Derived.Test.YtojhenpaeedimaaGreatQi
import Derived.Test.YtojhenpaeedimaaGreatQg
import Derived.Test.YtojhenpaeedimaaGreatMt
import Derived.Test.YtojhenpaeedimaaGreatMg
import Derived.Test.YtojhenpaeedimaaGreatRa
import Derived.Test.YtojhenpaeedimaaGreatTl
import Derived.Deep.RegionHeldLaw
import Derived.Test.YtojhenpaeedimaaGreatBl
import Derived.Maps.OwnSet
import Derived.Laws.StructEq
import Derived.Test.YtojhenpaeedimaaGreatBt
import Derived.Test.YtojhenpaeedimaaGreatEd
section
namespace Go.Proofs.YtojhenpaeedimaaGreat
open Dl
namespace Ru
open Go.RowKit Go.IntWalk
open Pk
set_option maxRecDepth 100000
attribute [local go_sem] Oper.semAt_some
end Ru
end Go.Proofs.YtojhenpaeedimaaGreat
end
section
namespace Go.Proofs.YtojhenpaeedimaaGreat
open Dl Ru
namespace Dt
open Go.RowKit Go.IntWalk
open Pk Dc
set_option maxRecDepth 100000
attribute [local go_sem] Oper.semAt_some
def tv (t : Tx) : Value := .string (ba t)
def svs (l : List Tx) : List Value := l.map tv
theorem svs_at {l : List Tx} {k : Nat} {x : Tx} (h : l[k]? = some x) : (svs l)[k]? = some (.string (ba x)) := by simp [svs, tv, h]
theorem svs_snoc (l : List Tx) (x : Tx) : svs (l ++ [x]) = svs l ++ [.string (ba x)] := by simp [svs, tv]
theorem Tryz.info9 : (Tryz.prog.info? 9).map (fun i => (i.zero, i.size, i.bytes)) = some (some (.string ByteArray.empty), 1, 16) := by kernel_rfl
theorem rows_ne {w : World} {B1 B2 : Nat} {e1 e2 : TypeId} {v1 v2 : Value} {n1 n2 : Nat} {xs1 xs2 : List Value} (hne : e2 ≠ e1) (h1 : w.ownsRow B1 e1 1 v1 n1 xs1) (h2 : w.ownsRow B2 e2 1 v2 n2 xs2) {g : Nat} (hg : v2.ownBlock = some g) : v1.ownBlock ≠ some g := by
 rcases h2.2 with ⟨rfl, _⟩ | ⟨g', cap, cur, rfl, _, hh, _⟩
 ·simp [Value.ownBlock] at hg
 ·simp only [Value.ownBlock, Option.some.injEq] at hg
  subst hg
  exact Lib.ownBlock_ne h1 hh hne
theorem row_beside {w w2 : World} {B1 B2 : Nat} {e1 e2 : TypeId} {v1 v2 : Value} {n1 n2 : Nat} {xs1 xs2 : List Value} {o : Obj} (hne : e2 ≠ e1) (h1 : w.ownsRow B1 e1 1 v1 n1 xs1) (h2 : w.ownsRow B2 e2 1 v2 n2 xs2) (hg : (w.alloc o).grownBy w2 v2.ownBlock) : w2.ownsRow B1 e1 1 v1 n1 xs1 := by
 refine (h1.alloc o).kept hg ?_
 rcases h : v1.ownBlock with _ | g
 ·exact .inl rfl
 ·refine .inr fun e => ?_
  exact rows_ne hne h1 h2 e.symm h
theorem own_apart {w w' : World} {base g q size n k cap : Nat} {e : TypeId} {xs : List Value} (h : w.ownsRow base e size (.slice (some ⟨g, 0, none⟩) k cap) n xs) (ho : w.grownBy w' (some q)) (hq : g ≠ q) : w'.ownsRow base e size (.slice (some ⟨g, 0, none⟩) k cap) n xs :=
 h.kept ho (.inr (by simpa [Value.ownBlock] using hq))
end Dt
end Go.Proofs.YtojhenpaeedimaaGreat
end
section
namespace Go.Proofs.YtojhenpaeedimaaGreat
open Dl Ru
namespace Dt
open Go.RowKit Go.IntWalk Go.Maps Go.WideMaps Go.WideShapes
open Pk Dc
set_option maxRecDepth 100000
attribute [local go_sem] Oper.semAt_some
theorem lawS : Keyed Tryz.prog 9 := string_keyed Tryz.underlying9
theorem zeroU (w : World) : (zeroValue 62).run Tryz.prog w = .ok (.int .u64 0) w := by kernel_rfl
/-- the map D tells each of the words W its place -/
def Dok (D : DataW Unit) (W : List Tx) : Prop := (∀ t, Maps.has D (.string t) = decide (t ∈ W)) ∧ ∀ t, t ∈ W → D.atKey (.string t) (.lit (.int .u64 0)) = .lit (.int .u64 (ix t W : Int))
theorem dok_nil : Dok (.map []) [] := ⟨fun t => by simp [Maps.has], fun t h => by simp at h⟩
theorem dok_put {D : DataW Unit} {W : List Tx} {t : Tx} (hm : IsMap D) (h : Dok D W) (ht : t ∉ W) : Dok (D.put (.string t) (.lit (.int .u64 (W.length : Int)))) (W ++ [t]) := by
 refine ⟨fun u => ?_, fun u hu => ?_⟩
 ·by_cases e : u = t
  ·subst e; rw [has_put_same hm (show WideAt.IsKeyLit (Lit.string u) from trivial)]; simp
  ·rw [has_put_other (by simpa using e), h.1]; simp [e]
 ·by_cases e : u = t
  ·subst e
   rw [atKey_put_same hm (show WideAt.IsKeyLit (Lit.string u) from trivial), ix_app' ht]
   simp [ix]
  ·have hu' : u ∈ W := by simpa [e] using hu
   rw [atKey_put_other (by simpa using e), h.2 u hu', ix_app hu']
/-- words, and places, as the answer of a call -/
def WEnd (l : List Tx) (w : World) (e : Ending) (w' : World) : Prop :=
 ∃ A1 c1 A2 c2, e = .returned (.tuple #[.slice A1 (ws [] l).length c1, .slice A2 l.length c2]) ∧ (ws [] l).length ≤ c1 ∧ l.length ≤ c2 ∧ Fresh w.heap.size A1 ∧ Fresh w.heap.size A2 ∧
  At w' w'.heap.size A1 (svs (ws [] l)) ∧ At w' w'.heap.size A2 (uvs (pl [] l)) ∧ Below w.heap.size w w'
set_option maxHeartbeats 8000000 in
theorem words_c (A : Option Addr) (cap : Nat) (l : List Tx) (hx : l.length ≤ 100000) (hts : ∀ t ∈ l, t.length ≤ 100000) (w : World) (hc : At w w.heap.size A (svs l)) :
  Calls Tryz.prog 97 #[.slice A l.length cap] w (WEnd l w) := by
 obtain ⟨i0, hi, hz0, hz1, hz2⟩ := info_parts Tryz.info9
 obtain ⟨j0, hj, hy0, hy1, hy2⟩ := info_parts Tryz.info62
 have hmm := @run_makeMap Tryz.prog
 have hnot : ∀ (x : Bool) (w : World), (Op.unary .not (.bool x)).run Tryz.prog w = .ok (.bool (!x)) w := fun _ _ => rfl
 have HC := Lib.hid hc
 have HT := Lib.hid hts
 clear hc hts
 have hbx : j0.bytes * l.length ≤ 281474976710656 := by rw [hy2]; omega
 have hmx : l.length ≤ maxLen := by unfold maxLen; omega
 go_enter Tryz.func97, Tryz.ntmps97
 go_wp2_with (at_make; refine wpList_make_own _ rfl _ _ 60 rfl w.heap.size 62 j0 (.int .u64 0) 1 Tryz.underlying60 hj hy0 hy1 .i64 .i64 _ l.length rfl rfl rfl hbx hmx (Nat.le_refl _) ?_; intro w1 hown1 hgrow1)
 have hb1 : Below w.heap.size w w1 := (Below.refl _ w).grown hgrow1 (Nat.le_refl _) (fun k e => by cases e)
 have hgl := (hown1.lt w.heap.size rfl).2
 have hmap1 : (w1.alloc (.map #[] 0)).ownsMap Tryz.prog 9 (plainElem Tryz.prog 62) w1.heap.size 0 (.map [] : DataW Unit) := World.ownsMap_made _ _ _ _
 have hown2 := hown1.alloc (.map #[] 0)
 have hb2 := hb1.alloc hb1.size (.map #[] 0)
 obtain ⟨b, hb⟩ : ∃ b, b = w1.heap.size := ⟨_, rfl⟩
 rw [← hb] at hmap1 hgl ⊢
 obtain ⟨W0, hW0⟩ : ∃ W0, W0 = w1.alloc (.map #[] 0) := ⟨_, rfl⟩
 have hsz0 : W0.heap.size = b + 1 := by rw [hW0, World.size_alloc, hb]
 rw [← hW0] at hmap1 hown2 hb2 ⊢
 have hgb : w.heap.size ≠ b := by omega
 have hgb2 : w.heap.size ≤ b := by omega
 clear hb hW0 hown1 hgrow1 hb1 hbx hmx
 go_loopw [4, 5, 17] (fun v a i wr => ∃ (k : Nat) (D : DataW Unit) (n : Nat), i = .int .i64 (k : Int) ∧ k ≤ l.length ∧ a = .slice (some ⟨w.heap.size, 0, none⟩) k l.length ∧ n ≤ k ∧ wr.ownsMap Tryz.prog 9 (plainElem Tryz.prog 62) b n D ∧ Dok D (ws [] (l.take k)) ∧ wr.ownsRow w.heap.size 62 1 (.slice (some ⟨w.heap.size, 0, none⟩) k l.length) k (uvs (pl [] (l.take k))) ∧ (∃ A1 c1, v = .slice A1 (ws [] (l.take k)).length c1) ∧ wr.ownsRow (b + 1) 9 1 v (ws [] (l.take k)).length (svs (ws [] (l.take k))) ∧ Below w.heap.size w wr ∧ b + 1 ≤ wr.heap.size)
  (fun _ _ i _ => l.length - (Go.RowKit.intOf i).toNat)
 case atStart => exact ⟨0, _, 0, rfl, Nat.zero_le _, rfl, Nat.le_refl _, hmap1, dok_nil, hown2, ⟨none, 0, rfl⟩, World.ownsRow_nil _ _ _ _, hb2, by omega⟩
 case round =>
  clear hmap1 hown2 hb2
  obtain ⟨k, D, n, rfl, hk, rfl, hnk, hmap, hD, ha, ⟨A1, c1, rfl⟩, hv, hb, hbs⟩ := hrel
  have hb0 := hb.size
  by_cases hlt : k < l.length
  ·obtain ⟨t, htk⟩ := some_at hlt
   obtain ⟨b', off, rfl, hbl, hcell⟩ := (HC.out.below hb) k _ (svs_at htk)
   have htl := HT.out t (mem_at htk)
   have hkey : keyOf Tryz.prog 9 (.string (ba t)) = some (.string t) := keyOf_string_mk Tryz.underlying9 (by rw [ba_size]; unfold maxLen; omega)
   have hwl := ws_len (l.take k) []
   rw [List.length_take, List.length_nil] at hwl
   have HW1 := Lib.hid (ws_take htk [])
   have HP1 := Lib.hid (pl_take htk [])
   obtain ⟨V, hV⟩ : ∃ V, V = ws [] (l.take k) := ⟨_, rfl⟩
   rw [← hV] at hD hv hwl HW1 HP1 ⊢
   have HV := Lib.hid hV
   have hVl : V.length ≤ 100000 := by omega
   have hnm : n < maxLen := by unfold maxLen; omega
   have hkc : k + 1 ≤ l.length := by omega
   have HTK := Lib.hid htk
   clear hV hwl htk
   by_cases hin : t ∈ V
   ·have hhit : Maps.has D (.string t) = true := by rw [hD.1]; simpa using hin
    have hat0 := hD.2 t hin
    have hil := (ix_mem hin).1
    have HADD := Lib.hid (add_mem hin)
    clear hin
    go_wp2_with (first
     | (at_lookup; refine wpList_lookup_own_ok_int _ rfl _ _ 180 rfl 9 62 .u64 lawS Tryz.underlying180 Tryz.underlying62 (zeroU _) b n D rfl hmap _ _ rfl hkey ?_; intro cL hat hwc; rw [hhit]; obtain rfl : cL = (ix t V : Int) := by (rw [hat0] at hat; injection hat with hat; injection hat with _ hat; exact hat.symm))
     | (at_builtin; refine wpList_append_fits _ rfl _ _ 60 rfl w.heap.size 62 j0 1 Tryz.underlying60 hj hy1 w.heap.size k l.length _ rfl (ha.alloc _) ⟨wr.heap.size, 0, none⟩ 1 1 [.int .u64 (ix t V : Int)] rfl rfl (cell_one_new _ _ _) (by simp [Value.oneCell']) hkc ?_; intro w2 ha2 hgrow2))
    have hb2 := Dl.below_ownI hb hb0 ha hgrow2
    have hv2 := row_beside (by decide) hv ha hgrow2
    have hmap2 := (hmap.alloc (.cells #[.int .u64 (ix t V : Int)] 62)).kept hgrow2 (fun e => hgb (by simpa [Value.ownBlock] using e.symm))
    have hs2 := hgrow2.size
    have R1 : ws [] (l.take (k + 1)) = V := by rw [HW1.out, HADD.out]
    have R2 : w2.ownsRow w.heap.size 62 1 (.slice (some ⟨w.heap.size, 0, none⟩) (k + 1) l.length) (k + 1) (uvs (pl [] (l.take (k + 1)))) := by rw [HP1.out, uvs_snoc]; exact ha2
    refine ⟨⟨k + 1, D, n, by go_num, by omega, rfl, by omega, hmap2, by rw [R1]; exact hD, R2, ⟨_, _, by rw [R1]⟩, by rw [R1]; exact hv2, hb2, by rw [World.size_alloc] at hs2; omega⟩, ?_⟩
    simp only [Go.RowKit.intOf]; omega
   ·have hmiss : Maps.has D (.string t) = false := by rw [hD.1]; simpa using hin
    have HADD := Lib.hid (add_not hin)
    have HIX := Lib.hid (ix_not hin)
    have hDn := dok_put hmap.isMap hD hin
    have hwfU : (Lit.int .u64 (V.length : Int)).wf = true := WalkArith.wf_u64 (by omega)
    clear hin
    go_wp2_with (first
     | (at_lookup; refine wpList_lookup_own_ok_int _ rfl _ _ 180 rfl 9 62 .u64 lawS Tryz.underlying180 Tryz.underlying62 (zeroU _) b n D rfl hmap _ _ rfl hkey ?_; intro cL hat hwc; rw [hmiss])
     | (at_mapUpdate; refine wpList_mapUpdate_own _ rfl _ _ _ 180 rfl 9 62 lawS Tryz.underlying180 _ b n D rfl hmap hnm _ _ _ rfl rfl hkey _ [] (plainElem_int Tryz.underlying62 hwfU) ?_; intro w2 hmap2 hgr2; have hv2 := own_only hv hgr2 (Nat.lt_succ_self b); have ha2 := own_apart ha hgr2 hgb; have hb2 := below_only hb hgr2 hb0 hgb2)
     | (at_builtin; refine wpList_append_own _ rfl _ _ 64 rfl (b + 1) 9 i0 (.string ByteArray.empty) 1 16 Tryz.underlying64 hi hz0 hz1 hz2 rfl (by decide) _ _ _ rfl (hv2.alloc _) ⟨w2.heap.size, 0, none⟩ 1 1 [.string (ba t)] rfl rfl (cell_one_new _ _ _) (by simp [Value.oneCell']) (by unfold maxLen; omega) (by omega) (by have := hgr2.size; simp; omega) ?_; intro v' w3 hv3 hgr3 _; have ha3 := row_beside (by decide) ha2 hv2 hgr3; have hb3 := Dl.below_ownI hb2 hb2.size (ownsRow_lower hv2 (by omega)) hgr3)
     | (at_builtin; refine wpList_append_fits _ rfl _ _ 60 rfl w.heap.size 62 j0 1 Tryz.underlying60 hj hy1 w.heap.size k l.length _ rfl (ha3.alloc _) ⟨w3.heap.size, 0, none⟩ 1 1 [.int .u64 (V.length : Int)] rfl rfl (cell_one_new _ _ _) (by simp [Value.oneCell']) hkc ?_; intro w4 ha4 hgr4))
    obtain ⟨g', cap', rfl⟩ := ownsRow_succ hv3
    have hv4 := row_beside (by decide) hv3 ha3 hgr4
    have hmap3 := (hmap2.alloc (.cells #[.string (ba t)] 9)).kept hgr3 (fun e => by have := (hv2.lt b e.symm).1; omega)
    have hmap4 := (hmap3.alloc (.cells #[.int .u64 (V.length : Int)] 62)).kept hgr4 (fun e => hgb (by simpa [Value.ownBlock] using e.symm))
    have hb4 := Dl.below_ownI hb3 hb3.size ha3 hgr4
    have hs2 := hgr2.size
    have hs3 := hgr3.size
    have hs4 := hgr4.size
    rw [World.size_alloc] at hs3 hs4
    have R1 : ws [] (l.take (k + 1)) = V ++ [t] := by rw [HW1.out, HADD.out]
    have R2 : w4.ownsRow w.heap.size 62 1 (.slice (some ⟨w.heap.size, 0, none⟩) (k + 1) l.length) (k + 1) (uvs (pl [] (l.take (k + 1)))) := by rw [HP1.out, HIX.out, uvs_snoc]; exact ha4
    have R3 : w4.ownsRow (b + 1) 9 1 (.slice (some ⟨g', 0, none⟩) (V.length + 1) cap') (V ++ [t]).length (svs (V ++ [t])) := by rw [svs_snoc, List.length_append]; exact hv4
    refine ⟨⟨k + 1, _, n + 1, by go_num, by omega, rfl, by omega, hmap4, by rw [R1]; exact hDn, R2, ⟨_, _, by rw [R1, List.length_append]; rfl⟩, by rw [R1]; exact R3, hb4, by omega⟩, ?_⟩
    simp only [Go.RowKit.intOf]; omega
  ·obtain rfl : k = l.length := by omega
   rw [List.take_length] at ha hv
   obtain ⟨A2, c2, hA2, hat2, hfr2, hcp2⟩ := own_at hv
   cases hA2
   obtain ⟨A3, c3, hA3, hat3, hfr3, hcp3⟩ := own_at ha
   cases hA3
   rw [List.take_length]
   clear hmap hD ha hv
   go_wp2_with fail
   go_ret2
   exact ⟨_, _, _, _, rfl, hcp2, hcp3, fun a h => by have := hfr2 a h; omega, hfr3, hat2, hat3, hb⟩
end Dt
end Go.Proofs.YtojhenpaeedimaaGreat
end
section
namespace Go.Proofs.YtojhenpaeedimaaGreat
open Dl Ru
namespace Dt
open Go.RowKit Go.IntWalk
open Pk Dc
set_option maxRecDepth 100000
attribute [local go_sem] Oper.semAt_some
end Dt
end Go.Proofs.YtojhenpaeedimaaGreat
end
section
namespace Go.Proofs.YtojhenpaeedimaaGreat
open Dl Ru
namespace Dt
open Go.RowKit Go.IntWalk
open Pk Dc
set_option maxRecDepth 100000
attribute [local go_sem] Oper.semAt_some
/-- a list of texts and one value more, as the answer of a call -/
def SEnd (l : List Tx) (t : Value) (w : World) (e : Ending) (w' : World) : Prop :=
 ∃ A cap, e = .returned (.tuple #[.slice A l.length cap, t]) ∧ l.length ≤ cap ∧ Fresh w.heap.size A ∧ At w' w'.heap.size A (svs l) ∧ Below w.heap.size w w'
theorem sEnd_nil {t : Value} {w w' : World} (hb : Below w.heap.size w w') : SEnd [] t w (.returned (.tuple #[.slice none 0 0, t])) w' :=
 ⟨none, 0, rfl, Nat.le_refl _, fun a ha => (by cases ha), At.nil _ _ _, hb⟩
set_option maxHeartbeats 8000000 in
theorem pick_c (A1 A2 : Option Addr) (c1 c2 : Nat) (words : List Tx) (at_ : List Nat) (hx1 : words.length ≤ 100000) (hx2 : at_.length ≤ 100000) (w : World) (h1 : At w w.heap.size A1 (svs words)) (h2 : At w w.heap.size A2 (uvs at_)) :
  Calls Tryz.prog 183 #[.slice A1 words.length c1, .slice A2 at_.length c2] w (SEnd (pk words [] at_).1 (.bool (pk words [] at_).2) w) := by
 obtain ⟨i0, hi, hz0, hz1, hz2⟩ := info_parts Tryz.info9
 have H1 := Lib.hid h1
 have H2 := Lib.hid h2
 clear h1 h2
 obtain ⟨res, hres⟩ : ∃ res, res = pk words [] at_ := ⟨_, rfl⟩
 have HR := Lib.hid hres
 rw [← hres]
 clear hres
 have hbx : i0.bytes * at_.length ≤ 281474976710656 := by rw [hz2]; omega
 have hmx : at_.length ≤ maxLen := by unfold maxLen; omega
 go_enter Tryz.func183, Tryz.ntmps183
 go_wp2_with (at_make; refine wpList_make_own _ rfl _ _ 64 rfl w.heap.size 9 i0 (.string ByteArray.empty) 1 Tryz.underlying64 hi hz0 hz1 .i64 .i64 _ at_.length rfl rfl rfl hbx hmx (Nat.le_refl _) ?_; intro w1 hown1 hgrow1)
 have hb1 : Below w.heap.size w w1 := (Below.refl _ w).grown hgrow1 (Nat.le_refl _) (fun k e => by cases e)
 have hgl := (hown1.lt w.heap.size rfl).2
 clear hgrow1 hbx hmx
 go_loopw [6, 14] (fun s i wr => ∃ (k : Nat) (out : List Tx), i = .int .i64 (k : Int) ∧ s = .slice (some ⟨w.heap.size, 0, none⟩) k at_.length ∧ k ≤ at_.length ∧ out.length = k ∧ pk words out (at_.drop k) = res ∧ wr.ownsRow w.heap.size 9 1 (.slice (some ⟨w.heap.size, 0, none⟩) k at_.length) k (svs out) ∧ Below w.heap.size w wr)
  (fun _ i _ => at_.length - (Go.RowKit.intOf i).toNat)
 case atStart => exact ⟨0, [], rfl, rfl, Nat.zero_le _, rfl, HR.out.symm, hown1, hb1⟩
 case round =>
  clear hown1 hb1
  obtain ⟨k, out, rfl, rfl, hk, hol, hpk, hown, hb⟩ := hrel
  have hb0 := hb.size
  have HPK := Lib.hid hpk
  have HOL := Lib.hid hol
  clear hpk hol
  by_cases hlt : k < at_.length
  ·obtain ⟨p, hpk⟩ := some_at hlt
   obtain ⟨b2, o2, rfl, _, hcp⟩ := (H2.out.below hb) k _ (uvs_at hpk)
   have HD := Lib.hid (drop_at_cons hpk)
   have HP := Lib.hid hpk
   clear hpk
   by_cases hin : p < words.length
   ·obtain ⟨t, ht⟩ := some_at hin
    obtain ⟨b1, o1, rfl, _, hct⟩ := (H1.out.below hb) p _ (svs_at ht)
    have hst : pk words (out ++ [t]) (at_.drop (k + 1)) = res := by rw [← pk_cons ht, ← HD.out]; exact HPK.out
    have HST := Lib.hid hst
    have hkc : k + 1 ≤ at_.length := by omega
    have hwl : (0 : Int) ≤ (words.length : Int) := by omega
    clear ht hst
    go_wp2_with (at_builtin; refine wpList_append_fits _ rfl _ _ 64 rfl w.heap.size 9 i0 1 Tryz.underlying64 hi hz1 w.heap.size k at_.length _ rfl (hown.alloc _) ⟨wr.heap.size, 0, none⟩ 1 1 [.string (ba t)] rfl rfl (cell_one_new _ _ _) (by simp [Value.oneCell']) hkc ?_; intro w2 hown2 hgrow2)
    have hb2 := Dl.below_ownI hb hb0 hown hgrow2
    refine ⟨⟨k + 1, out ++ [t], by go_num, rfl, by omega, by rw [List.length_append, HOL.out]; rfl, HST.out, by rw [svs_snoc]; exact hown2, hb2⟩, ?_⟩
    simp only [Go.RowKit.intOf]; omega
   ·have hres2 : res = ([], false) := by
     rw [← HPK.out, HD.out, pk_none (by omega)]
    have HRES := Lib.hid hres2
    have hin2 : (words.length : Int) ≤ (p : Int) := by omega
    clear hres2
    go_wp2_with fail
    go_ret2
    rw [HRES.out]
    exact sEnd_nil hb
  ·obtain rfl : k = at_.length := by omega
   have hres2 : res = (out, true) := by rw [← HPK.out, List.drop_length]; rfl
   obtain ⟨A3, c3, hA3, hat3, hfr3, hcp3⟩ := own_at hown
   cases hA3
   have HRES := Lib.hid hres2
   clear hres2 hown
   go_wp2_with fail
   go_ret2
   rw [HRES.out]
   have ho := HOL.out
   exact ⟨_, _, by rw [show ((out, true) : List Tx × Bool).1.length = at_.length from ho]; rfl, by rw [show ((out, true) : List Tx × Bool).1.length = at_.length from ho]; exact Nat.le_refl _, hfr3, hat3, hb⟩
end Dt
end Go.Proofs.YtojhenpaeedimaaGreat
end
section
namespace Go.Proofs.YtojhenpaeedimaaGreat
open Dl
namespace Ru
open Go.RowKit Go.IntWalk
open Pk
set_option maxRecDepth 100000
attribute [local go_sem] Oper.semAt_some
attribute [-go_sem] run_neq_struct
end Ru
end Go.Proofs.YtojhenpaeedimaaGreat
end
section
namespace Go.Proofs.YtojhenpaeedimaaGreat
open Dl
namespace Ru
open Go.RowKit Go.IntWalk
open Pk
set_option maxRecDepth 100000
attribute [local go_sem] Oper.semAt_some
theorem uencode_k {A : Option Addr} {cap n : Nat} (xs : List Nat) (hn : xs.length = n) (hx : n ≤ 100000) (hxn : Nums xs) {w : World} (hc : At w w.heap.size A (uvs xs)) :
  Calls Tryz.prog 44 #[.slice A n cap] w fun e w' => e = .returned (.string (ba (encU xs))) ∧ Below w.heap.size w w' := by
 subst hn; exact uencode_c A cap xs hx hxn w hc
namespace live6
end live6
end Ru
end Go.Proofs.YtojhenpaeedimaaGreat
end
section
namespace Go.Proofs.YtojhenpaeedimaaGreat
open Dl Ru
namespace Dt
open Go.RowKit Go.IntWalk
open Pk Dc
set_option maxRecDepth 100000
attribute [local go_sem] Oper.semAt_some
theorem rs_drop {at_ : List Nat} {k p n : Nat} (h : at_[k]? = some p) : Dc.rs n (at_.drop k) = if n < p then none else Dc.rs (if p = n then n + 1 else n) (at_.drop (k + 1)) := by
 rw [drop_at_cons h, Dc.rs]
set_option maxHeartbeats 8000000 in
theorem mayD_c (A1 A2 : Option Addr) (c1 c2 : Nat) (words : List Tx) (at_ : List Nat) (hx1 : words.length ≤ 100000) (hx2 : at_.length ≤ 100000) (hts : ∀ t ∈ words, t.length ≤ 100000) (w : World) (h1 : At w w.heap.size A1 (svs words)) (h2 : At w w.heap.size A2 (uvs at_)) :
  Calls Tryz.prog 182 #[.slice A1 words.length c1, .slice A2 at_.length c2] w fun e w' => e = .returned (.bool (mayW words at_)) ∧ Below w.heap.size w w' := by
 have H1 := Lib.hid h1
 have H2 := Lib.hid h2
 have HT := Lib.hid hts
 have hwl := ws_len words []
 rw [List.length_nil] at hwl
 clear h1 h2 hts
 go_enter Tryz.func182, Tryz.ntmps182
 go_wp2_with fail
 refine (words_c A1 c1 words hx1 HT.out _ H1.out).mono ?_
 rintro e w1 ⟨B1, k1, B2, k2, rfl, -, -, -, -, -, -, hb1⟩
 obtain ⟨m, hm⟩ : ∃ m, m = (ws [] words).length := ⟨_, rfl⟩
 have hmw : mayW words at_ = (decide (m = words.length) && decide (Dc.rs 0 at_ = some words.length)) := by unfold mayW; rw [hm]
 rw [← hm] at hwl ⊢
 have HMW := Lib.hid hmw
 clear hm hmw
 by_cases hml : m < words.length
 ·have hd : decide (m = words.length) = false := by simp; omega
  have HD := Lib.hid hd
  clear hd
  go_wp2_with fail
  go_ret
  exact ⟨ret_bool (by rw [HMW.out, HD.out]; rfl), hb1⟩
 ·have hd : decide (m = words.length) = true := by simp; omega
  have HD := Lib.hid hd
  clear hd
  have hb10 := hb1.size
  go_wp2_with fail
  go_loopw [7, 22] (fun n i wr => ∃ (k N : Nat), n = .int .u64 (N : Int) ∧ i = .int .i64 (k : Int) ∧ k ≤ at_.length ∧ N ≤ k ∧ Dc.rs N (at_.drop k) = Dc.rs 0 at_ ∧ wr = w1) (fun _ i _ => at_.length - (Go.RowKit.intOf i).toNat)
  case atStart => exact ⟨0, 0, rfl, rfl, Nat.zero_le _, Nat.le_refl _, rfl, rfl⟩
  case round =>
   obtain ⟨k, N, rfl, rfl, hk, hNk, hrs, rfl⟩ := hrel
   have HRS := Lib.hid hrs
   clear hrs
   by_cases hlt : k < at_.length
   ·obtain ⟨p, hpk⟩ := some_at hlt
    obtain ⟨b2, o2, rfl, _, hcp⟩ := (H2.out.below hb1) k _ (uvs_at hpk)
    have HST := Lib.hid (rs_drop (n := N) hpk)
    clear hpk
    by_cases hfar : N < p
    ·have hfar2 : (N : Int) < (p : Int) := by omega
     have hno : Dc.rs 0 at_ = none := by rw [← HRS.out, HST.out, if_pos hfar]
     have HNO := Lib.hid hno
     clear hno
     go_wp2_with fail
     go_ret
     exact ⟨ret_bool (by rw [HMW.out, HNO.out]; simp), hb1⟩
    ·by_cases hpe : p = N
     ·have hee : ((p : Int) == (N : Int)) = true := by simp [hpe]
      have hst2 : Dc.rs (N + 1) (at_.drop (k + 1)) = Dc.rs 0 at_ := by
       have := HST.out
       rw [if_neg hfar, if_pos hpe] at this
       rw [← this]; exact HRS.out
      have HS2 := Lib.hid hst2
      have hle : ¬ (N : Int) < (p : Int) := by omega
      have HPE := Lib.hid hpe
      clear hst2 hpe hfar
      go_wp2_with fail
      go_roundw
      case rel => exact ⟨k + 1, N + 1, by go_num, by go_num, by omega, by omega, HS2.out, by first | rfl | trivial⟩
      case measure => simp only [Go.RowKit.intOf]; omega
     ·have hee : ((p : Int) == (N : Int)) = false := by simp; omega
      have hst2 : Dc.rs N (at_.drop (k + 1)) = Dc.rs 0 at_ := by
       have := HST.out
       rw [if_neg hfar, if_neg hpe] at this
       rw [← this]; exact HRS.out
      have HS2 := Lib.hid hst2
      have hle : ¬ (N : Int) < (p : Int) := by omega
      clear hst2 hpe hfar
      go_wp2_with fail
      go_roundw
      case rel => exact ⟨k + 1, N, rfl, by go_num, by omega, by omega, HS2.out, by first | rfl | trivial⟩
      case measure => simp only [Go.RowKit.intOf]; omega
   ·obtain rfl : k = at_.length := by omega
    have hend : Dc.rs 0 at_ = some N := by rw [← HRS.out, List.drop_length]; rfl
    have HE := Lib.hid hend
    have hwu : IntKind.u64.wrap (words.length : Int) = (words.length : Int) := by rw [IntKind.wrap_u64]; omega
    clear hend
    go_wp2_with fail
    go_ret
    refine ⟨ret_bool ?_, hb1⟩
    rw [HMW.out, HD.out, HE.out]
    by_cases h : N = words.length <;> simp [h]
    omega
end Dt
end Go.Proofs.YtojhenpaeedimaaGreat
end
section
namespace Go.Proofs.YtojhenpaeedimaaGreat
open Dl Ru
namespace Dt
open Go.RowKit Go.IntWalk
open Pk Dc Wd
set_option maxRecDepth 100000
attribute [local go_sem] Oper.semAt_some
/-- P8.2 -/
def encD (l : List Tx) : List UInt8 := put (ws [] l).length ++ (enc4 (ws [] l) ++ encU (pl [] l))
theorem pl_le (l : List Tx) : ∀ a, ∀ p ∈ pl a l, p ≤ a.length + l.length := by
 induction l with
 | nil => intro a p hp; simp [pl] at hp
 | cons t r ih =>
  intro a p hp
  rw [pl] at hp
  have h1 := ix_le t a
  have h2 := add_len a t
  rcases List.mem_cons.1 hp with rfl | hp
  ·simp; omega
  ·have := ih _ p hp; simp; omega
theorem pl_nums {l : List Tx} (h : l.length ≤ 100000) : Nums (pl [] l) := fun p hp => by
 have := pl_le l [] p hp
 simp at this; omega
theorem ws_texts {l : List Tx} {n : Nat} (h : ∀ t ∈ l, t.length ≤ n) : ∀ t ∈ ws [] l, t.length ≤ n := fun t ht => by
 rcases (mem_ws l [] t).1 ht with h1 | h1
 ·simp at h1
 ·exact h t h1
theorem enc4_take_len {V : List Tx} (h : ∀ t ∈ V, t.length ≤ 100000) (hl : V.length ≤ 100000) (k : Nat) : (enc4 (V.take k)).length ≤ 100010 * 100000 := by
 have h1 := enc4_len (V.take k) 100000 (by omega) (fun x hx => h x (List.mem_of_mem_take hx))
 rw [List.length_take] at h1
 have h2 : (100000 + 10) * min k V.length ≤ 100010 * 100000 := Nat.mul_le_mul (by omega) (by omega)
 omega
theorem at_but {w1 wr : World} {A : Option Addr} {xs : List Value} {o : Obj} (h : At w1 w1.heap.size A xs) (hb : But (w1.heap.size + 1) w1.heap.size (w1.alloc o) wr) : At wr wr.heap.size A xs := fun i v hv => by
 obtain ⟨b, off, ha, hlt, hc⟩ := h i v hv
 have hs := hb.size
 rw [World.size_alloc] at hs
 refine ⟨b, off, ha, by omega, ?_⟩
 have h1 : (w1.alloc o).cell? ⟨b, off + i, none⟩ = some v := ((Below.refl w1.heap.size w1).alloc (Nat.le_refl _) o).cell (p := ⟨b, off + i, none⟩) hlt |>.trans hc
 exact (but_cell hb (p := ⟨b, off + i, none⟩) (show b < w1.heap.size + 1 by omega) (show b ≠ w1.heap.size by omega)).trans h1
set_option maxHeartbeats 8000000 in
theorem dencode_c (A : Option Addr) (cap : Nat) (l : List Tx) (hx : l.length ≤ 100000) (hts : ∀ t ∈ l, t.length ≤ 100000) (w : World) (hc : At w w.heap.size A (svs l)) :
  Calls Tryz.prog 45 #[.slice A l.length cap] w fun e w' => e = .returned (.string (ba (encD l))) ∧ Below w.heap.size w w' := by
 have HC := Lib.hid hc
 have HT := Lib.hid hts
 have hwl := ws_len l []
 rw [List.length_nil] at hwl
 have HPN := Lib.hid (pl_nums hx)
 have HPL := Lib.hid (pl_len l [])
 clear hc hts
 go_enter Tryz.func45, Tryz.ntmps45
 go_wp2_with fail
 refine (words_c A cap l hx HT.out _ HC.out).mono ?_
 rintro e w1 ⟨B1, k1, B2, k2, rfl, -, -, -, -, hat1, hat2, hb1⟩
 have HVT := Lib.hid (ws_texts HT.out)
 obtain ⟨V, hV⟩ : ∃ V, V = ws [] l := ⟨_, rfl⟩
 rw [← hV] at hat1 hwl HVT ⊢
 have HV := Lib.hid hV
 have HAT1 := Lib.hid hat1
 have HAT2 := Lib.hid hat2
 have hVl : V.length ≤ 100000 := by omega
 have hwu : IntKind.u64.wrap (V.length : Int) = (V.length : Int) := by rw [IntKind.wrap_u64]; omega
 clear hV hat1 hat2 hwl
 go_wp2_with fail
 obtain ⟨o, ho⟩ : ∃ o, o = (Obj.cells #[.pointer none, .slice none 0 0] 111) := ⟨_, rfl⟩
 have hbld0 : Bld (w1.alloc (Obj.cells #[.pointer none, .slice none 0 0] 111)) (w1.heap.size + 1) w1.heap.size [] := bld_new w1 _
 rw [← ho] at hbld0 ⊢
 have hsz2 : (w1.alloc o).heap.size = w1.heap.size + 1 := World.size_alloc _ _
 obtain ⟨w2, hw2⟩ : ∃ w2, w2 = w1.alloc o := ⟨_, rfl⟩
 have HW2 := Lib.hid hw2
 have hbb : But (w1.heap.size + 1) w1.heap.size w2 w2 := But.refl _ _ _
 have hb2 : Below w.heap.size w w2 := by rw [hw2]; exact hb1.alloc hb1.size o
 have hs1 := hb1.size
 rw [← hw2] at hbld0 hsz2 ⊢
 clear hw2 ho
 refine (put_c V.length (by omega) _).mono ?_
 rintro e w3 ⟨rfl, hm3⟩
 have hbld3 := bld_grown hbld0 hm3
 rw [hsz2] at hm3
 have hbut3 := hbb.trans (but_below (b := w1.heap.size) hm3)
 have hs3 := hbut3.size
 have hpl := put_len10 (n := V.length) (by omega)
 clear hbld0 hbb hm3
 go_wp2_with fail
 refine (write_b (w1.heap.size + 1) w1.heap.size [] (put V.length) _ hbld3 (by simp; omega) (by omega)).mono ?_
 rintro e w4 ⟨rfl, hbld4, hbut4'⟩
 have hbut4 := hbut3.trans hbut4'
 rw [List.nil_append] at hbld4
 clear hbld3 hbut3 hbut4' hs3
 go_wp2_with fail
 go_loopw [20] (fun i wr => ∃ k : Nat, i = .int .i64 (k : Int) ∧ k ≤ V.length ∧ Bld wr (w1.heap.size + 1) w1.heap.size (put V.length ++ enc4 (V.take k)) ∧ But (w1.heap.size + 1) w1.heap.size w2 wr) (fun i _ => V.length - (Go.RowKit.intOf i).toNat)
 case atStart => exact ⟨0, rfl, Nat.zero_le _, by simpa [enc4] using hbld4, hbut4⟩
 case round =>
  clear hbld4 hbut4
  obtain ⟨k, rfl, hk, hbld, hbut⟩ := hrel
  have hws := hbut.size
  rw [hsz2] at hws
  by_cases hlt : k < V.length
  ·obtain ⟨t, htk⟩ := some_at hlt
   have htl := HVT.out t (mem_at htk)
   obtain ⟨b, off, rfl, hbl, hcell⟩ := (at_but HAT1.out (by rw [← HW2.out]; exact hbut)) k _ (svs_at htk)
   have hel := enc4_take_len HVT.out hVl k
   have htp := put_len10 (n := t.length) (by omega)
   have hle : (put V.length ++ enc4 (V.take k)).length + (put t.length ++ t).length ≤ 140737488355328 := by rw [List.length_append, List.length_append]; omega
   have HX := Lib.hid (enc4_take htk)
   have htl2 : t.length ≤ 140737488351232 := by omega
   clear htk hel htp
   go_wp2_with fail
   refine (wput_c t htl2 _).mono ?_
   rintro e w5 ⟨rfl, hm5⟩
   have hbld5 := bld_grown hbld hm5
   have hbut5 := hbut.trans (but_below (b := w1.heap.size) (hm5.mono hws))
   have hws5 : w1.heap.size + 1 ≤ w5.heap.size := by have := hbut5.size; rw [hsz2] at this; exact this
   clear hbld hbut hm5 hws hcell
   go_wp2_with fail
   refine (write_b (w1.heap.size + 1) w1.heap.size _ (put t.length ++ t) _ hbld5 hle hws5).mono ?_
   rintro e w6 ⟨rfl, hbld6, hbut6'⟩
   have hbut6 := hbut5.trans hbut6'
   clear hbld5 hbut5 hbut6' hws5
   go_wp2_with fail
   go_roundw
   case rel => exact ⟨k + 1, by go_num, by omega, by rw [HX.out, ← List.append_assoc]; exact hbld6, hbut6⟩
   case measure => simp only [Go.RowKit.intOf]; omega
  ·obtain rfl : k = V.length := by omega
   rw [List.take_length] at hbld
   have HA2 := Lib.hid (at_but HAT2.out (by rw [← HW2.out]; exact hbut))
   have hel := enc4_take_len HVT.out hVl V.length
   rw [List.take_length] at hel
   have hen := encU_len HPN.out (by rw [HPL.out]; omega)
   rw [HPL.out] at hen
   have hle : (put V.length ++ enc4 V).length + (encU (pl [] l)).length ≤ 140737488355328 := by rw [List.length_append]; omega
   clear hel hen
   go_wp2_with fail
   refine (uencode_k (pl [] l) HPL.out hx HPN.out HA2.out).mono ?_
   rintro e w5 ⟨rfl, hm5⟩
   have hbld5 := bld_grown hbld hm5
   have hbut5 := hbut.trans (but_below (b := w1.heap.size) (hm5.mono hws))
   have hws5 : w1.heap.size + 1 ≤ w5.heap.size := by have := hbut5.size; rw [hsz2] at this; exact this
   clear hbld hbut hm5 hws
   go_wp2_with fail
   refine (write_b (w1.heap.size + 1) w1.heap.size _ (encU (pl [] l)) _ hbld5 hle hws5).mono ?_
   rintro e w6 ⟨rfl, hbld6, hbut6'⟩
   have hbut6 := hbut5.trans hbut6'
   clear hbld5 hbut5 hbut6' hws5
   go_wp2_with fail
   refine (string_c (w1.heap.size + 1) w.heap.size w1.heap.size _ _ hbld6 (by omega) hs1).mono ?_
   rintro e w7 ⟨rfl, hb7⟩
   go_wp2
   go_ret
   have he : encD l = put V.length ++ (enc4 V ++ encU (pl [] l)) := by unfold encD; rw [HV.out]
   rw [he]
   exact ⟨rfl, (hb2.trans (hbut6.below (by omega) hs1)).trans hb7⟩
end Dt
end Go.Proofs.YtojhenpaeedimaaGreat
end
