/-
 Mathematics of layer 3's statements. No Go.
 What texts, and pairs and fours of numbers, that came in are, as values.
 Plain mathematics of layer 11: a chunk's bytes; chunks that are joined, and split; chunks that are found. No Go.
 Slices as cells that lie below a bound; two lists held against each other; iterators over them.
 What stands ahead of a chunk's body; its sum; a chunk as bytes: the program's.
 strings.Builder's WriteByte; a file's version; lists of chunks as cells.
 A file's version; the chunk of a kind; few chunks; two lists of chunks held against each other.
-/
import Derived.Test.YtojhenpaeedimaaBd
import Derived.Test.YtojhenpaeedimaaBb
import Derived.ProofKit
import Derived.OpenShut
import Derived.SliceStrings
import Derived.ChangeOld
import Derived.Lib.SmallJoins
import Derived.Deep.QuietTactic
import Derived.BigQuiet
import Derived.Deep.RegionHeld3
import Derived.Test.YtojhenpaeedimaaBc
import Derived.Test.YtojhenpaeedimaaBi
import Derived.Test.YtojhenpaeedimaaBs
import Derived.Laws.StructEq
section
namespace Go.Proofs.Ytojhenpaeedimaa.Pk
theorem num_put {n : Nat} (h : n < 18446744073709551616) (R : List UInt8) : numV ⟨put n ++ R, 0⟩ = n ∧ numS ⟨put n ++ R, 0⟩ = ⟨R, 0⟩ := by
 have hr := rd_put h R
 have := num_ok (s := ⟨put n ++ R, 0⟩) rfl hr
 refine ⟨this.1, ?_⟩
 rw [this.2]
 simp
theorem fix_fixed {n : Nat} (h : n < 18446744073709551616) (R : List UInt8) : fixV ⟨fixed 8 n ++ R, 0⟩ = n ∧ fixS ⟨fixed 8 n ++ R, 0⟩ = ⟨R, 0⟩ := by
 have hl := fixed_len 8 n
 have := fix_ok (s := ⟨fixed 8 n ++ R, 0⟩) rfl (by simp [hl])
 have ht : (fixed 8 n ++ R).take 8 = fixed 8 n := by rw [List.take_append_of_le_length (by omega), List.take_of_length_le (by omega)]
 have hd : (fixed 8 n ++ R).drop 8 = R := by rw [List.drop_append_of_le_length (by omega), List.drop_of_length_le (by omega)]; rfl
 refine ⟨?_, ?_⟩
 ·rw [this.1]
  simp only
  rw [ht]
  exact num8_fixed 8 n (by omega)
 ·rw [this.2]
  simp only
  rw [hd]
end Go.Proofs.Ytojhenpaeedimaa.Pk
end
section
namespace Go.Proofs.Ytojhenpaeedimaa
open Go.ChangeShapes Go.WideShapes Go.RowKit Go.Joins
set_option maxRecDepth 100000
section
variable {H : Type} {enc : TypeId × Value → H} {w : World} {r : Reach} {b : Nat} {v : Value} {d : DataW H} {ps : List MemPlace}
theorem txt_read {t : TypeId} (ht : Try.prog.underlying t = some .string) (hval : Value.okWide Try.prog w r b t v) (hj : DataW.Trod enc Try.prog w 0 (fun _ => true) true t v d ps) :
  ∃ l : List UInt8, v = .string (ba l) ∧ l.length ≤ maxLen := by
 obtain ⟨s, h, _, _, hs⟩ := Go.ChangeMaps.open_string ht hval hj
 refine ⟨s.data.toList, by rw [ba_of]; exact h, ?_⟩
 have := ba_size s.data.toList
 rw [ba_of] at this
 rw [← this]
 exact hs
end
end Go.Proofs.Ytojhenpaeedimaa
end
section
namespace Go.Proofs.Ytojhenpaeedimaa.Ck
open Pk
def byt8 (k : Int) : UInt8 := UInt8.ofNat (k % 256).toNat
theorem byt8_nat (k : Int) : (byt8 k).toNat = (k % 256).toNat := ofNat_toNat_lt (by omega)
theorem byt8_of (b : UInt8) : byt8 (b.toNat : Int) = b := by
 have := b.toNat_lt
 refine UInt8.toNat_inj.1 ?_
 rw [byt8_nat]; omega
def magic : List UInt8 := [66, 78, 83, 73]
def verE (s : List UInt8) : Int := if s.take 4 ≠ magic then 7 else if s.length < 5 then 2 else 0
def verV (s : List UInt8) : Int := if verE s = 0 then ((s.getD 4 0).toNat : Int) else 0
theorem ver_back {s : List UInt8} (h : verE s = 0) : s = magic ++ (byt8 (verV s) :: s.drop 5) ∧ 0 ≤ verV s ∧ verV s ≤ 255 := by
 have h0 := h
 unfold verE at h
 split at h
 ·omega
 ·split at h
  ·omega
  ·rename_i g1 g2
   have g := Decidable.not_not.1 g1
   obtain ⟨b, hb⟩ : ∃ b, s[4]? = some b := ⟨s[4], by simp⟩
   have hv : verV s = (b.toNat : Int) := by unfold verV; rw [if_pos h0, List.getD_eq_getElem?_getD, hb]; rfl
   rw [hv, byt8_of, ← g, ← Pk.drop_cons hb, List.take_append_drop]
   have := b.toNat_lt
   exact ⟨rfl, by omega, by omega⟩
end Go.Proofs.Ytojhenpaeedimaa.Ck
end
section
namespace Go.Proofs.Ytojhenpaeedimaa
open Go.RowKit
open Pk
set_option maxRecDepth 100000
/-- behind the address A lie the cells xs, below B -/
def At (w : World) (B : Nat) (A : Option Addr) (xs : List Value) : Prop := ∀ (i : Nat) (v : Value), xs[i]? = some v → ∃ b off, A = some ⟨b, off, none⟩ ∧ b < B ∧ w.cell? ⟨b, off + i, none⟩ = some v
theorem At.below {B : Nat} {w w' : World} {A : Option Addr} {xs : List Value} (h : At w B A xs) (hb : Below B w w') : At w' B A xs := fun i v hv => by
 obtain ⟨b, off, ha, hlt, hc⟩ := h i v hv
 exact ⟨b, off, ha, hlt, (hb.cell (p := ⟨b, off + i, none⟩) hlt).trans hc⟩
theorem At.mono {B B' : Nat} {w : World} {A : Option Addr} {xs : List Value} (h : At w B A xs) (hB : B ≤ B') : At w B' A xs := fun i v hv => by
 obtain ⟨b, off, ha, hlt, hc⟩ := h i v hv
 exact ⟨b, off, ha, Nat.lt_of_lt_of_le hlt hB, hc⟩
theorem At.keep {w w' : World} {A : Option Addr} {xs : List Value} (h : At w w.heap.size A xs) (hb : Below w.heap.size w w') : At w' w'.heap.size A xs := (h.below hb).mono hb.size
theorem At.nil (w : World) (B : Nat) (A : Option Addr) : At w B A [] := fun i v hv => by simp at hv
theorem At.take {w : World} {B : Nat} {A : Option Addr} {xs : List Value} (h : At w B A xs) (n : Nat) : At w B A (xs.take n) := fun i v hv => by
 by_cases hi : i < n
 ·rw [List.getElem?_take_of_lt hi] at hv
  exact h i v hv
 ·rw [List.getElem?_eq_none (by rw [List.length_take]; omega)] at hv
  cases hv
/-- the address is nobody's yet, at a heap of N blocks -/
def Fresh (N : Nat) (A : Option Addr) : Prop := ∀ a, A = some a → N ≤ a.block
/-- a row of the call's own -/
theorem own_at {w : World} {base : Nat} {e : TypeId} {size : Nat} {v : Value} {n : Nat} {xs : List Value} (h : w.ownsRow base e size v n xs) : ∃ A cap, v = .slice A n cap ∧ At w w.heap.size A xs ∧ Fresh base A ∧ n ≤ cap := by
 rcases hv : v.ownBlock with _ | g
 ·rcases h.2 with ⟨rfl, rfl⟩ | ⟨g, cap, cur, rfl, _⟩
  ·have : xs = [] := List.eq_nil_of_length_eq_zero (by rw [h.1]; simp)
   subst this
   exact ⟨none, 0, rfl, At.nil _ _ _, fun a ha => (by cases ha), Nat.le_refl _⟩
  ·simp [Value.ownBlock] at hv
 ·have hlt := (h.lt g hv).2
  have hcell := h.cells hv
  rcases h.2 with ⟨rfl, rfl⟩ | ⟨g', cap, cur, rfl, hg', _, hcap, _⟩
  ·simp [Value.ownBlock] at hv
  ·have hg : g' = g := by simpa [Value.ownBlock] using hv
   subst hg
   refine ⟨_, _, rfl, fun i u hu => ⟨g', 0, rfl, hlt, ?_⟩, fun a ha => by cases ha; exact hg', hcap⟩
   have := hcell i u hu
   rw [add_head] at this
   rw [Nat.zero_add]
   exact this
theorem some_at {α : Type} {l : List α} {k : Nat} (h : k < l.length) : ∃ x, l[k]? = some x := ⟨_, List.getElem?_eq_getElem h⟩
theorem mem_at {α : Type} {l : List α} {k : Nat} {x : α} (h : l[k]? = some x) : x ∈ l := List.mem_of_getElem? h
theorem below_drewN {B : Nat} {a w : World} (h : Below B a w) (n : Nat) : Below B a (w.drewN n) := ⟨h.os, h.tape, h.output, h.size, h.block⟩
theorem at_drewE {w w' : World} {B : Nat} {A : Option Addr} {xs : List Value} (h : At w B A xs) (hq : ∃ q, w' = w.drewN q) : At w' B A xs := by
 obtain ⟨q, rfl⟩ := hq
 exact h
end Go.Proofs.Ytojhenpaeedimaa
end
section
namespace Go.Proofs.Ytojhenpaeedimaa
namespace Ck
open Go.RowKit
open Pk Ck
set_option maxRecDepth 100000
/-- one byte of a new block, as a string -/
theorem conv1 {w : World} {G : Nat} {b : UInt8} (h : w.cell? ⟨G, 0, none⟩ = some (.int .u8 (b.toNat : Int))) :
  (convert 42 9 (.slice (some ⟨G, 0, none⟩) 1 1)).run Try.prog w = .ok (.string (ba [b])) w := by
 refine run_convert_bytes_back _ 42 9 5 ⟨G, 0, none⟩ 1 [b] Try.underlying42 Try.underlying5 Try.underlying9 fun j hj => ?_
 match j, hj with
 | 0, _ => rw [Addr.add_lit]; exact h
end Ck
end Go.Proofs.Ytojhenpaeedimaa
end
section
namespace Go.Proofs.Ytojhenpaeedimaa
namespace Ck
open Go.RowKit Go.IntWalk
open Pk Ck
set_option maxRecDepth 100000
attribute [local go_sem] Oper.semAt_some
set_option maxHeartbeats 2000000 in
theorem writeByte_c (B b : Nat) (l : List UInt8) (x : UInt8) (w : World) (h : Bld w B b l) (hlen : l.length ≤ 140737488355000) (hBw : B ≤ w.heap.size) :
  Calls Try.prog 80 #[.pointer (some ⟨b, 0, none⟩), .int .u8 (x.toNat : Int)] w fun e w' => e = .returned .nilIface ∧ Bld w' B b (l ++ [x]) ∧ But B b w w' := by
 obtain ⟨i0, hi, hz0, hz1, hz2⟩ := info_parts Try.info5
 go_enter Try.func80, Try.ntmps80
 go_wp2_with (go_at_call 44; refine (copyCheck_c B b l _ h).mono ?_)
 rintro e w1 ⟨rfl, h1, hb1, _⟩
 obtain ⟨v, hbk, hown, hne, _⟩ := h1
 have c0 : w1.cell? ⟨b, 0, none⟩ = some (.pointer (some ⟨b, 0, none⟩)) := by rw [Lib.cell_of_heap hbk]; rfl
 have c1 : w1.cell? ⟨b, 1, none⟩ = some v := by rw [Lib.cell_of_heap hbk]; rfl
 have hbl := bcs_len l
 have hB1 : B ≤ w1.heap.size := Nat.le_trans hBw hb1.size
 go_wp2_with (at_builtin; refine wpList_append_own _ rfl _ _ 42 rfl B 5 i0 (.int .u8 0) 1 1 Try.underlying42 hi hz0 hz1 hz2 rfl (by decide) _ _ _ rfl (hown.alloc _) ⟨w1.heap.size, 0, none⟩ 1 1 [bc x] rfl rfl (cell_one _ _ _) (one_cell x) ?c3 ?c4 ?c5 ?_)
 case c3 => unfold maxLen; omega
 case c4 => omega
 case c5 => simp; omega
 intro v' w2 hown' hgrow _
 have ho1 := own_snoc hown'
 have hlt : b < w1.heap.size := (Array.getElem?_eq_some_iff.1 hbk).1
 have hbk2 : (w1.alloc (.cells #[.int .u8 (x.toNat : Int)] 5)).heap[b]? = some (.cells #[.pointer (some ⟨b, 0, none⟩), v] 45 (0, 0)) := (heap_alloc_old w1 _ hlt).trans hbk
 have hlt2 : b < (w1.alloc (.cells #[.int .u8 (x.toNat : Int)] 5)).heap.size := by simp; omega
 have hb2 : w2.heap[b]? = some (.cells #[.pointer (some ⟨b, 0, none⟩), v] 45 (0, 0)) := by
  rw [hgrow.block b hlt2 (fun e => hne e.symm)]
  exact hbk2
 have d0 : w2.cell? ⟨b, 0, none⟩ = some (.pointer (some ⟨b, 0, none⟩)) := by rw [Lib.cell_of_heap hb2]; rfl
 have d1 : w2.cell? ⟨b, 1, none⟩ = some v := by rw [Lib.cell_of_heap hb2]; rfl
 have f1 : w2.frozen? ⟨b, 1, none⟩ = false := Lib.frozen_of_heap hb2 1
 have hba : But B b w1 (w1.alloc (.cells #[.int .u8 (x.toNat : Int)] 5)) := but_below ((Below.refl _ _).alloc hB1 _)
 have hbelow : But B b w w2 := (hb1.trans hba).trans ⟨hgrow.os, hgrow.tape, hgrow.output, hgrow.size, fun k hk _ => hgrow.block k (by have := hba.size; omega) (fun e => by have := (hown.lt k e.symm).1; omega)⟩
 obtain ⟨ao, n', cap, rfl⟩ : ∃ ao n' cap, v' = .slice ao n' cap := by
  rcases ho1.2 with ⟨hv, _⟩ | ⟨g, cap, cur, hv, _⟩
  ·exact ⟨_, _, _, hv⟩
  ·exact ⟨_, _, _, hv⟩
 have hne2 := Lib.ownBlock_ne ho1 hb2 (by decide)
 have hput : Bld (w2.setCell ⟨b, 1, none⟩ (.slice ao n' cap)) B b (l ++ [x]) := by
  refine ⟨_, _, .inr rfl, ?_, ?_, hne2⟩
  ·simp [World.setCell, Array.getElem?_modify, hb2]
  ·exact ho1.kept (row := some b) ⟨rfl, rfl, rfl, by simp [World.setCell], fun k _ hk => Below.heap_setCell _ _ _ _ (fun e => hk (by simp [e]))⟩ (Or.inr hne2)
 clear hbk hown hown' hgrow hb2 c0 c1 ho1 hne2 hbk2 hba
 go_wp2
 go_ret
 exact ⟨rfl, hput, hbelow.set 1 _⟩
theorem Try.info108 : (Try.prog.info? 108).map (fun i => (i.zero, i.size, i.bytes)) = some (some (.agg #[.int .i64 0, .string ByteArray.empty]), 2, 24) := by kernel_rfl
theorem ba_beq (a b : List UInt8) : ((ba a).toList == (ba b).toList) = decide (a = b) := by
 rw [ByteArray.toList_eq, ByteArray.toList_eq, ba_list, ba_list]
 by_cases h : a = b <;> simp [h]
/-- one and the same version, by the program and by the document -/
def VerEnd (s : List UInt8) (w : World) (e : Ending) (w' : World) : Prop := e = .returned (.tuple #[.int .i64 (verV s), .int .i64 (verE s)]) ∧ w = w'
theorem verEnd_magic {s : List UInt8} {w : World} (h : s.take 4 ≠ magic) : VerEnd s w (.returned (.tuple #[.int .i64 0, .int .i64 7])) w := by
 have he : verE s = 7 := by unfold verE; rw [if_pos h]
 exact ⟨by unfold verV; rw [he]; rfl, rfl⟩
theorem verEnd_cut {s : List UInt8} {w : World} (h : s.take 4 = magic) (hl : s.length < 5) : VerEnd s w (.returned (.tuple #[.int .i64 0, .int .i64 2])) w := by
 have he : verE s = 2 := by unfold verE; rw [if_neg (by simp [h]), if_pos hl]
 exact ⟨by unfold verV; rw [he]; rfl, rfl⟩
theorem verEnd_ok {s : List UInt8} {w : World} {b : UInt8} (h : s.take 4 = magic) (hl : ¬ s.length < 5) (hb : s[4]? = some b) : VerEnd s w (.returned (.tuple #[.int .i64 (b.toNat : Int), .int .i64 0])) w := by
 have he : verE s = 0 := by unfold verE; rw [if_neg (by simp [h]), if_neg hl]
 exact ⟨by unfold verV; rw [if_pos he, he, List.getD_eq_getElem?_getD, hb]; rfl, rfl⟩
theorem prefix_c (s : List UInt8) (hs : s.length ≤ 9223372036854775807) (w : World) :
  Calls Try.prog 43 #[.string (ba s), .string (ba magic)] w fun e w' => e = .returned (.bool (decide (s.take 4 = magic))) ∧ w = w' := by
 have hz := ba_size s
 have hz4 : (ba magic).size = 4 := rfl
 have hx := extract_take s 4
 have hq := ba_beq (s.take 4) magic
 obtain ⟨M, hM⟩ : ∃ M, M = magic := ⟨_, rfl⟩
 rw [← hM] at hz4 hq ⊢
 have HM := Lib.hid hM
 clear hM
 by_cases h4 : 4 ≤ s.length
 ·have h4i : (4 : Int) ≤ (s.length : Int) := by omega
  have hd : decide ((4 : Int) ≤ (s.length : Int)) = true := decide_eq_true h4i
  cases hT : decide (s.take 4 = M)
  all_goals
   rw [hT] at hq
   go_enter Try.func43, Try.ntmps43
   go_wp2
   go_ret
   exact ⟨rfl, rfl⟩
 ·have hd : decide ((4 : Int) ≤ (s.length : Int)) = false := decide_eq_false (by omega)
  have hne : decide (s.take 4 = M) = false := decide_eq_false fun e => by
   have := congrArg List.length e
   rw [HM.out, List.length_take] at this
   simp [magic] at this
   omega
  rw [hne]
  clear hq
  go_enter Try.func43, Try.ntmps43
  go_wp2
  go_ret
  exact ⟨rfl, rfl⟩
end Ck
end Go.Proofs.Ytojhenpaeedimaa
end
section
namespace Go.Proofs.Ytojhenpaeedimaa
namespace Ck
open Go.RowKit Go.IntWalk
open Pk Ck
set_option maxRecDepth 100000
attribute [local go_sem] Oper.semAt_some
theorem prefix_k {m : ByteArray} (hm : m = ba magic) (t : Bool) (s : List UInt8) (ht : decide (s.take 4 = magic) = t) (hs : s.length ≤ 9223372036854775807) (w : World) :
  Calls Try.prog 43 #[.string (ba s), .string m] w fun e w' => e = .returned (.bool t) ∧ w = w' := by
 subst hm ht
 exact prefix_c s hs w
theorem version_c (s : List UInt8) (hs : s.length ≤ 9223372036854775807) (w : World) :
  Calls Try.prog 17 #[.string (ba s)] w (VerEnd s w) := by
 have hz := ba_size s
 by_cases h : s.take 4 = magic
 ·have HH := Lib.hid h
  have ht : decide (s.take 4 = magic) = true := decide_eq_true h
  clear h
  by_cases hl : s.length < 5
  ·go_enter Try.func17, Try.ntmps17
   go_wp2_with fail
   refine (prefix_k rfl true s ht hs _).mono ?_
   rintro e w1 ⟨rfl, rfl⟩
   clear ht
   go_wp2
   go_ret2
   exact verEnd_cut HH.out hl
  ·obtain ⟨b, hb⟩ : ∃ b, s[4]? = some b := ⟨s[4], by simp⟩
   have hidx := index_ba hb 4 rfl
   have HB := Lib.hid hb
   have hbt : b.toNat ≤ 255 := by have := b.toNat_lt; omega
   have hlt : (4 : Int) < (s.length : Int) := by omega
   clear hb
   go_enter Try.func17, Try.ntmps17
   go_wp2_with fail
   refine (prefix_k rfl true s ht hs _).mono ?_
   rintro e w1 ⟨rfl, rfl⟩
   clear ht
   go_wp2
   go_ret2
   exact verEnd_ok HH.out (by omega) HB.out
 ·have HH := Lib.hid h
  have ht : decide (s.take 4 = magic) = false := decide_eq_false h
  clear h
  go_enter Try.func17, Try.ntmps17
  go_wp2_with fail
  refine (prefix_k rfl false s ht hs _).mono ?_
  rintro e w1 ⟨rfl, rfl⟩
  clear ht
  go_wp2
  go_ret2
  exact verEnd_magic HH.out
theorem rversion_c (s : List UInt8) (hs : s.length ≤ 9223372036854775807) (w : World) :
  Calls Try.prog 33 #[.string (ba s)] w (VerEnd s w) := by
 have hz := ba_size s
 have hx := extract_take s 4
 have hq := ba_beq (s.take 4) magic
 have hq2 : ((ba (s.take 4)).toList == [66, 78, 83, 73]) = decide (s.take 4 = magic) := by
  rw [← hq, ByteArray.toList_eq (ba magic), ba_list]; rfl
 clear hq
 by_cases h4 : s.length < 4
 ·have hne : s.take 4 ≠ magic := fun e => by
   have := congrArg List.length e
   rw [List.length_take] at this
   simp [magic] at this
   omega
  have HH := Lib.hid hne
  clear hne hq2
  have hd : decide ((s.length : Int) < 4) = true := decide_eq_true (by omega)
  go_enter Try.func33, Try.ntmps33
  go_wp2
  go_ret2
  exact verEnd_magic HH.out
 ·have h4i : (4 : Int) ≤ (s.length : Int) := by omega
  have hd : decide ((s.length : Int) < 4) = false := decide_eq_false (by omega)
  by_cases h : s.take 4 = magic
  ·have HH := Lib.hid h
   rw [decide_eq_true h] at hq2
   have hq3 : (!((ba (s.take 4)).toList == [66, 78, 83, 73])) = false := by rw [hq2]; rfl
   clear h
   by_cases hl : s.length < 5
   ·go_enter Try.func33, Try.ntmps33
    go_wp2
    go_ret2
    exact verEnd_cut HH.out hl
   ·obtain ⟨b, hb⟩ : ∃ b, s[4]? = some b := ⟨s[4], by simp⟩
    have hidx := index_ba hb 4 rfl
    have HB := Lib.hid hb
    have hbt : b.toNat ≤ 255 := by have := b.toNat_lt; omega
    have hlt : (4 : Int) < (s.length : Int) := by omega
    clear hb
    go_enter Try.func33, Try.ntmps33
    go_wp2
    go_ret2
    exact verEnd_ok HH.out (by omega) HB.out
  ·have HH := Lib.hid h
   rw [decide_eq_false h] at hq2
   have hq3 : (!((ba (s.take 4)).toList == [66, 78, 83, 73])) = true := by rw [hq2]; rfl
   clear h
   go_enter Try.func33, Try.ntmps33
   go_wp2
   go_ret2
   exact verEnd_magic HH.out
end Ck
end Go.Proofs.Ytojhenpaeedimaa
end
