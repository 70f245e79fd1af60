/-
 Mathematics of layer 3's statements. No Go.
 Plain mathematics of layer 11: a chunk's bytes; chunks that are joined, and split; chunks that are found. No Go.
 Slices as cells that lie below a bound; two lists held against each other; iterators over them.
 strings.Builder's WriteByte; a file's version; lists of chunks as cells.
 A file's version; the chunk of a kind; few chunks; two lists of chunks held against each other.
 Chunks as a file: the program's, and the document's; two lists of chunks held against each other.
 Chunks as a file, by the document; two lists of chunks held against each other.
 Plain mathematics of layer 5: deltas, sums, bytes, rising lists; and numbers that go round. No Go.
-/
import Derived.Test.YtojhenpaeedimaaGreatBe
import Derived.Test.YtojhenpaeedimaaGreatBc
import Derived.ProofKit
import Derived.OpenShut
import Derived.SliceStrings
import Derived.ChangeOld
import Derived.Lib.SmallJoins
import Derived.Deep.QuietTactic
import Derived.BigQuiet
import Derived.Deep.RegionHeld3
import Derived.Test.YtojhenpaeedimaaGreatBl
import Derived.Test.YtojhenpaeedimaaGreatBt
import Derived.Laws.StructEq
section
namespace Go.Proofs.YtojhenpaeedimaaGreat.Pk
/-- what is read well of bytes is what it is put as -/
theorem num_read {l : List UInt8} (h : (numS ⟨l, 0⟩).e = 0) : l.take (l.length - (numS ⟨l, 0⟩).l.length) = put (numV ⟨l, 0⟩) ∧ l.length - (numS ⟨l, 0⟩).l.length = (put (numV ⟨l, 0⟩)).length ∧ (numS ⟨l, 0⟩).l.length ≤ l.length := by
 cases hr : rd l with
 | cut => rw [(num_cut (s := ⟨l, 0⟩) rfl hr).2] at h; simp at h
 | long => rw [(num_long (s := ⟨l, 0⟩) rfl hr).2] at h; simp at h
 | ok n u =>
  obtain ⟨h1, h2, h3, _⟩ := rd_inv hr
  have e1 := (num_ok (s := ⟨l, 0⟩) rfl hr).2
  have e2 := (num_ok (s := ⟨l, 0⟩) rfl hr).1
  have e3 : l.length - (l.drop u).length = u := by rw [List.length_drop]; omega
  rw [e1, e2]
  exact ⟨by simp only; rw [e3]; exact h1, by simp only; rw [e3]; exact h2, by simp⟩
theorem num_put {n : Nat} (h : n < 18446744073709551616) (R : List UInt8) : numV ⟨put n ++ R, 0⟩ = n ∧ numS ⟨put n ++ R, 0⟩ = ⟨R, 0⟩ := by
 have hr := rd_put h R
 have := num_ok (s := ⟨put n ++ R, 0⟩) rfl hr
 refine ⟨this.1, ?_⟩
 rw [this.2]
 simp
theorem fix_fixed {n : Nat} (h : n < 18446744073709551616) (R : List UInt8) : fixV ⟨fixed 8 n ++ R, 0⟩ = n ∧ fixS ⟨fixed 8 n ++ R, 0⟩ = ⟨R, 0⟩ := by
 have hl := fixed_len 8 n
 have := fix_ok (s := ⟨fixed 8 n ++ R, 0⟩) rfl (by simp [hl])
 have ht : (fixed 8 n ++ R).take 8 = fixed 8 n := by rw [List.take_append_of_le_length (by omega), List.take_of_length_le (by omega)]
 have hd : (fixed 8 n ++ R).drop 8 = R := by rw [List.drop_append_of_le_length (by omega), List.drop_of_length_le (by omega)]; rfl
 refine ⟨?_, ?_⟩
 ·rw [this.1]
  simp only
  rw [ht]
  exact num8_fixed 8 n (by omega)
 ·rw [this.2]
  simp only
  rw [hd]
end Go.Proofs.YtojhenpaeedimaaGreat.Pk
end
section
namespace Go.Proofs.YtojhenpaeedimaaGreat.Ck
open Pk
abbrev Chk := Int × List UInt8
def byt8 (k : Int) : UInt8 := UInt8.ofNat (k % 256).toNat
theorem byt8_nat (k : Int) : (byt8 k).toNat = (k % 256).toNat := ofNat_toNat_lt (by omega)
theorem byt8_of (b : UInt8) : byt8 (b.toNat : Int) = b := by
 have := b.toNat_lt
 refine UInt8.toNat_inj.1 ?_
 rw [byt8_nat]; omega
def magic : List UInt8 := [66, 78, 83, 73]
def verE (s : List UInt8) : Int := if s.take 4 ≠ magic then 7 else if s.length < 5 then 2 else 0
def verV (s : List UInt8) : Int := if verE s = 0 then ((s.getD 4 0).toNat : Int) else 0
theorem ver_back {s : List UInt8} (h : verE s = 0) : s = magic ++ (byt8 (verV s) :: s.drop 5) ∧ 0 ≤ verV s ∧ verV s ≤ 255 := by
 have h0 := h
 unfold verE at h
 split at h
 ·omega
 ·split at h
  ·omega
  ·rename_i g1 g2
   have g := Decidable.not_not.1 g1
   obtain ⟨b, hb⟩ : ∃ b, s[4]? = some b := ⟨s[4], by simp⟩
   have hv : verV s = (b.toNat : Int) := by unfold verV; rw [if_pos h0, List.getD_eq_getElem?_getD, hb]; rfl
   rw [hv, byt8_of, ← g, ← Pk.drop_cons hb, List.take_append_drop]
   have := b.toNat_lt
   exact ⟨rfl, by omega, by omega⟩
end Go.Proofs.YtojhenpaeedimaaGreat.Ck
end
section
namespace Go.Proofs.YtojhenpaeedimaaGreat
open Go.RowKit
open Pk
set_option maxRecDepth 100000
/-- behind the address A lie the cells xs, below B -/
def At (w : World) (B : Nat) (A : Option Addr) (xs : List Value) : Prop := ∀ (i : Nat) (v : Value), xs[i]? = some v → ∃ b off, A = some ⟨b, off, none⟩ ∧ b < B ∧ w.cell? ⟨b, off + i, none⟩ = some v
theorem At.below {B : Nat} {w w' : World} {A : Option Addr} {xs : List Value} (h : At w B A xs) (hb : Below B w w') : At w' B A xs := fun i v hv => by
 obtain ⟨b, off, ha, hlt, hc⟩ := h i v hv
 exact ⟨b, off, ha, hlt, (hb.cell (p := ⟨b, off + i, none⟩) hlt).trans hc⟩
theorem At.mono {B B' : Nat} {w : World} {A : Option Addr} {xs : List Value} (h : At w B A xs) (hB : B ≤ B') : At w B' A xs := fun i v hv => by
 obtain ⟨b, off, ha, hlt, hc⟩ := h i v hv
 exact ⟨b, off, ha, Nat.lt_of_lt_of_le hlt hB, hc⟩
theorem At.keep {w w' : World} {A : Option Addr} {xs : List Value} (h : At w w.heap.size A xs) (hb : Below w.heap.size w w') : At w' w'.heap.size A xs := (h.below hb).mono hb.size
theorem At.nil (w : World) (B : Nat) (A : Option Addr) : At w B A [] := fun i v hv => by simp at hv
theorem At.drop {w : World} {B b off : Nat} {xs : List Value} (h : At w B (some ⟨b, off, none⟩) xs) (n : Nat) : At w B (some ⟨b, off + n, none⟩) (xs.drop n) := fun i v hv => by
 rw [List.getElem?_drop] at hv
 obtain ⟨b', off', ha, hlt, hc⟩ := h _ v hv
 cases ha
 exact ⟨b, off + n, rfl, hlt, by rw [Nat.add_assoc]; exact hc⟩
/-- the address is nobody's yet, at a heap of N blocks -/
def Fresh (N : Nat) (A : Option Addr) : Prop := ∀ a, A = some a → N ≤ a.block
/-- a row of the call's own -/
theorem own_at {w : World} {base : Nat} {e : TypeId} {size : Nat} {v : Value} {n : Nat} {xs : List Value} (h : w.ownsRow base e size v n xs) : ∃ A cap, v = .slice A n cap ∧ At w w.heap.size A xs ∧ Fresh base A ∧ n ≤ cap := by
 rcases hv : v.ownBlock with _ | g
 ·rcases h.2 with ⟨rfl, rfl⟩ | ⟨g, cap, cur, rfl, _⟩
  ·have : xs = [] := List.eq_nil_of_length_eq_zero (by rw [h.1]; simp)
   subst this
   exact ⟨none, 0, rfl, At.nil _ _ _, fun a ha => (by cases ha), Nat.le_refl _⟩
  ·simp [Value.ownBlock] at hv
 ·have hlt := (h.lt g hv).2
  have hcell := h.cells hv
  rcases h.2 with ⟨rfl, rfl⟩ | ⟨g', cap, cur, rfl, hg', _, hcap, _⟩
  ·simp [Value.ownBlock] at hv
  ·have hg : g' = g := by simpa [Value.ownBlock] using hv
   subst hg
   refine ⟨_, _, rfl, fun i u hu => ⟨g', 0, rfl, hlt, ?_⟩, fun a ha => by cases ha; exact hg', hcap⟩
   have := hcell i u hu
   rw [add_head] at this
   rw [Nat.zero_add]
   exact this
def ivs (l : List Int) : List Value := l.map (Value.int .i64)
def uvs (l : List Nat) : List Value := l.map fun (u : Nat) => Value.int .u64 (u : Int)
theorem ivs_at {l : List Int} {k : Nat} {x : Int} (h : l[k]? = some x) : (ivs l)[k]? = some (.int .i64 x) := by simp [ivs, h]
theorem uvs_at {l : List Nat} {k : Nat} {x : Nat} (h : l[k]? = some x) : (uvs l)[k]? = some (.int .u64 (x : Int)) := by simp [uvs, h]
theorem some_at {α : Type} {l : List α} {k : Nat} (h : k < l.length) : ∃ x, l[k]? = some x := ⟨_, List.getElem?_eq_getElem h⟩
theorem mem_at {α : Type} {l : List α} {k : Nat} {x : α} (h : l[k]? = some x) : x ∈ l := List.mem_of_getElem? h
theorem below_drewN {B : Nat} {a w : World} (h : Below B a w) (n : Nat) : Below B a (w.drewN n) := ⟨h.os, h.tape, h.output, h.size, h.block⟩
theorem ext_take {α : Type} {xs ys : List α} {k : Nat} (h : xs.take k = ys.take k) {x y : α} (hx : xs[k]? = some x) (hy : ys[k]? = some y) : (xs.take (k + 1) = ys.take (k + 1) ↔ x = y) := by
 rw [List.take_add_one, List.take_add_one, h, hx, hy]
 simp
theorem at_drewE {w w' : World} {B : Nat} {A : Option Addr} {xs : List Value} (h : At w B A xs) (hq : ∃ q, w' = w.drewN q) : At w' B A xs := by
 obtain ⟨q, rfl⟩ := hq
 exact h
theorem drewE {w w' : World} (hq : ∃ q, w' = w.drewN q) (n : Nat) : ∃ q, w'.drewN n = w.drewN q := by
 obtain ⟨q, rfl⟩ := hq
 exact ⟨q + n, by simp⟩
end Go.Proofs.YtojhenpaeedimaaGreat
end
section
namespace Go.Proofs.YtojhenpaeedimaaGreat
namespace Ck
open Go.RowKit Go.IntWalk
open Pk Ck
set_option maxRecDepth 100000
attribute [local go_sem] Oper.semAt_some
set_option maxHeartbeats 2000000 in
theorem writeByte_c (B b : Nat) (l : List UInt8) (x : UInt8) (w : World) (h : Bld w B b l) (hlen : l.length ≤ 140737488355000) (hBw : B ≤ w.heap.size) :
  Calls Tryz.prog 193 #[.pointer (some ⟨b, 0, none⟩), .int .u8 (x.toNat : Int)] w fun e w' => e = .returned .nilIface ∧ Bld w' B b (l ++ [x]) ∧ But B b w w' := by
 obtain ⟨i0, hi, hz0, hz1, hz2⟩ := info_parts Tryz.info5
 go_enter Tryz.func193, Tryz.ntmps193
 go_wp2_with (go_at_call 151; refine (copyCheck_c B b l _ h).mono ?_)
 rintro e w1 ⟨rfl, h1, hb1, _⟩
 obtain ⟨v, hbk, hown, hne, _⟩ := h1
 have c0 : w1.cell? ⟨b, 0, none⟩ = some (.pointer (some ⟨b, 0, none⟩)) := by rw [Lib.cell_of_heap hbk]; rfl
 have c1 : w1.cell? ⟨b, 1, none⟩ = some v := by rw [Lib.cell_of_heap hbk]; rfl
 have hbl := bcs_len l
 have hB1 : B ≤ w1.heap.size := Nat.le_trans hBw hb1.size
 go_wp2_with (at_builtin; refine wpList_append_own _ rfl _ _ 109 rfl B 5 i0 (.int .u8 0) 1 1 Tryz.underlying109 hi hz0 hz1 hz2 rfl (by decide) _ _ _ rfl (hown.alloc _) ⟨w1.heap.size, 0, none⟩ 1 1 [bc x] rfl rfl (cell_one _ _ _) (one_cell x) ?c3 ?c4 ?c5 ?_)
 case c3 => unfold maxLen; omega
 case c4 => omega
 case c5 => simp; omega
 intro v' w2 hown' hgrow _
 have ho1 := own_snoc hown'
 have hlt : b < w1.heap.size := (Array.getElem?_eq_some_iff.1 hbk).1
 have hbk2 : (w1.alloc (.cells #[.int .u8 (x.toNat : Int)] 5)).heap[b]? = some (.cells #[.pointer (some ⟨b, 0, none⟩), v] 111 (0, 0)) := (heap_alloc_old w1 _ hlt).trans hbk
 have hlt2 : b < (w1.alloc (.cells #[.int .u8 (x.toNat : Int)] 5)).heap.size := by simp; omega
 have hb2 : w2.heap[b]? = some (.cells #[.pointer (some ⟨b, 0, none⟩), v] 111 (0, 0)) := by
  rw [hgrow.block b hlt2 (fun e => hne e.symm)]
  exact hbk2
 have d0 : w2.cell? ⟨b, 0, none⟩ = some (.pointer (some ⟨b, 0, none⟩)) := by rw [Lib.cell_of_heap hb2]; rfl
 have d1 : w2.cell? ⟨b, 1, none⟩ = some v := by rw [Lib.cell_of_heap hb2]; rfl
 have f1 : w2.frozen? ⟨b, 1, none⟩ = false := Lib.frozen_of_heap hb2 1
 have hba : But B b w1 (w1.alloc (.cells #[.int .u8 (x.toNat : Int)] 5)) := but_below ((Below.refl _ _).alloc hB1 _)
 have hbelow : But B b w w2 := (hb1.trans hba).trans ⟨hgrow.os, hgrow.tape, hgrow.output, hgrow.size, fun k hk _ => hgrow.block k (by have := hba.size; omega) (fun e => by have := (hown.lt k e.symm).1; omega)⟩
 obtain ⟨ao, n', cap, rfl⟩ : ∃ ao n' cap, v' = .slice ao n' cap := by
  rcases ho1.2 with ⟨hv, _⟩ | ⟨g, cap, cur, hv, _⟩
  ·exact ⟨_, _, _, hv⟩
  ·exact ⟨_, _, _, hv⟩
 have hne2 := Lib.ownBlock_ne ho1 hb2 (by decide)
 have hput : Bld (w2.setCell ⟨b, 1, none⟩ (.slice ao n' cap)) B b (l ++ [x]) := by
  refine ⟨_, _, .inr rfl, ?_, ?_, hne2⟩
  ·simp [World.setCell, Array.getElem?_modify, hb2]
  ·exact ho1.kept (row := some b) ⟨rfl, rfl, rfl, by simp [World.setCell], fun k _ hk => Below.heap_setCell _ _ _ _ (fun e => hk (by simp [e]))⟩ (Or.inr hne2)
 clear hbk hown hown' hgrow hb2 c0 c1 ho1 hne2 hbk2 hba
 go_wp2
 go_ret
 exact ⟨rfl, hput, hbelow.set 1 _⟩
/-- the cells of a list of chunks -/
def cvs (l : List Chk) : List Value := l.flatMap fun x => [.int .i64 x.1, .string (ba x.2)]
theorem cvs_at {r : List Chk} {k : Nat} {x : Chk} (h : r[k]? = some x) : (cvs r)[k * 2]? = some (.int .i64 x.1) ∧ (cvs r)[k * 2 + 1]? = some (.string (ba x.2)) := by
 induction r generalizing k with
 | nil => simp at h
 | cons y r ih =>
  have hc : cvs (y :: r) = .int .i64 y.1 :: .string (ba y.2) :: cvs r := rfl
  rw [hc]
  match k, h with
  | 0, h => simp at h; subst h; exact ⟨rfl, rfl⟩
  | k + 1, h =>
   have := ih (k := k) (by simpa using h)
   rw [show (k + 1) * 2 = k * 2 + 1 + 1 by omega]
   simpa using this
theorem chunk_cells {w : World} {B k : Nat} {A : Option Addr} {r : List Chk} {x : Chk} (h : At w B A (cvs r)) (hk : r[k]? = some x) :
  ∃ b off, A = some ⟨b, off, none⟩ ∧ b < B ∧ w.cell? ⟨b, off + k * 2, none⟩ = some (.int .i64 x.1) ∧ w.cell? ⟨b, off + k * 2 + 1, none⟩ = some (.string (ba x.2)) := by
 obtain ⟨h1, h2⟩ := cvs_at hk
 obtain ⟨b, off, hA, hlt, hc⟩ := h _ _ h1
 obtain ⟨b', off', hA', _, hc'⟩ := h _ _ h2
 rw [hA] at hA'
 cases hA'
 exact ⟨b, off, hA, hlt, hc, hc'⟩
theorem Tryz.info53 : (Tryz.prog.info? 53).map (fun i => (i.zero, i.size, i.bytes)) = some (some (.agg #[.int .i64 0, .string ByteArray.empty]), 2, 24) := by kernel_rfl
theorem ba_beq (a b : List UInt8) : ((ba a).toList == (ba b).toList) = decide (a = b) := by
 rw [ByteArray.toList_eq, ByteArray.toList_eq, ba_list, ba_list]
 by_cases h : a = b <;> simp [h]
/-- one and the same version, by the program and by the document -/
def VerEnd (s : List UInt8) (w : World) (e : Ending) (w' : World) : Prop := e = .returned (.tuple #[.int .i64 (verV s), .int .i64 (verE s)]) ∧ w = w'
theorem verEnd_magic {s : List UInt8} {w : World} (h : s.take 4 ≠ magic) : VerEnd s w (.returned (.tuple #[.int .i64 0, .int .i64 7])) w := by
 have he : verE s = 7 := by unfold verE; rw [if_pos h]
 exact ⟨by unfold verV; rw [he]; rfl, rfl⟩
theorem verEnd_cut {s : List UInt8} {w : World} (h : s.take 4 = magic) (hl : s.length < 5) : VerEnd s w (.returned (.tuple #[.int .i64 0, .int .i64 2])) w := by
 have he : verE s = 2 := by unfold verE; rw [if_neg (by simp [h]), if_pos hl]
 exact ⟨by unfold verV; rw [he]; rfl, rfl⟩
theorem verEnd_ok {s : List UInt8} {w : World} {b : UInt8} (h : s.take 4 = magic) (hl : ¬ s.length < 5) (hb : s[4]? = some b) : VerEnd s w (.returned (.tuple #[.int .i64 (b.toNat : Int), .int .i64 0])) w := by
 have he : verE s = 0 := by unfold verE; rw [if_neg (by simp [h]), if_neg hl]
 exact ⟨by unfold verV; rw [if_pos he, he, List.getD_eq_getElem?_getD, hb]; rfl, rfl⟩
theorem prefix_c (s : List UInt8) (hs : s.length ≤ 9223372036854775807) (w : World) :
  Calls Tryz.prog 153 #[.string (ba s), .string (ba magic)] w fun e w' => e = .returned (.bool (decide (s.take 4 = magic))) ∧ w = w' := by
 have hz := ba_size s
 have hz4 : (ba magic).size = 4 := rfl
 have hx := extract_take s 4
 have hq := ba_beq (s.take 4) magic
 obtain ⟨M, hM⟩ : ∃ M, M = magic := ⟨_, rfl⟩
 rw [← hM] at hz4 hq ⊢
 have HM := Lib.hid hM
 clear hM
 by_cases h4 : 4 ≤ s.length
 ·have h4i : (4 : Int) ≤ (s.length : Int) := by omega
  have hd : decide ((4 : Int) ≤ (s.length : Int)) = true := decide_eq_true h4i
  cases hT : decide (s.take 4 = M)
  all_goals
   rw [hT] at hq
   go_enter Tryz.func153, Tryz.ntmps153
   go_wp2
   go_ret
   exact ⟨rfl, rfl⟩
 ·have hd : decide ((4 : Int) ≤ (s.length : Int)) = false := decide_eq_false (by omega)
  have hne : decide (s.take 4 = M) = false := decide_eq_false fun e => by
   have := congrArg List.length e
   rw [HM.out, List.length_take] at this
   simp [magic] at this
   omega
  rw [hne]
  clear hq
  go_enter Tryz.func153, Tryz.ntmps153
  go_wp2
  go_ret
  exact ⟨rfl, rfl⟩
end Ck
end Go.Proofs.YtojhenpaeedimaaGreat
end
section
namespace Go.Proofs.YtojhenpaeedimaaGreat
namespace Ck
open Go.RowKit Go.IntWalk
open Pk Ck
set_option maxRecDepth 100000
attribute [local go_sem] Oper.semAt_some
theorem prefix_k {m : ByteArray} (hm : m = ba magic) (t : Bool) (s : List UInt8) (ht : decide (s.take 4 = magic) = t) (hs : s.length ≤ 9223372036854775807) (w : World) :
  Calls Tryz.prog 153 #[.string (ba s), .string m] w fun e w' => e = .returned (.bool t) ∧ w = w' := by
 subst hm ht
 exact prefix_c s hs w
theorem version_c (s : List UInt8) (hs : s.length ≤ 9223372036854775807) (w : World) :
  Calls Tryz.prog 89 #[.string (ba s)] w (VerEnd s w) := by
 have hz := ba_size s
 by_cases h : s.take 4 = magic
 ·have HH := Lib.hid h
  have ht : decide (s.take 4 = magic) = true := decide_eq_true h
  clear h
  by_cases hl : s.length < 5
  ·go_enter Tryz.func89, Tryz.ntmps89
   go_wp2_with fail
   refine (prefix_k rfl true s ht hs _).mono ?_
   rintro e w1 ⟨rfl, rfl⟩
   clear ht
   go_wp2
   go_ret2
   exact verEnd_cut HH.out hl
  ·obtain ⟨b, hb⟩ : ∃ b, s[4]? = some b := ⟨s[4], by simp⟩
   have hidx := index_ba hb 4 rfl
   have HB := Lib.hid hb
   have hbt : b.toNat ≤ 255 := by have := b.toNat_lt; omega
   have hlt : (4 : Int) < (s.length : Int) := by omega
   clear hb
   go_enter Tryz.func89, Tryz.ntmps89
   go_wp2_with fail
   refine (prefix_k rfl true s ht hs _).mono ?_
   rintro e w1 ⟨rfl, rfl⟩
   clear ht
   go_wp2
   go_ret2
   exact verEnd_ok HH.out (by omega) HB.out
 ·have HH := Lib.hid h
  have ht : decide (s.take 4 = magic) = false := decide_eq_false h
  clear h
  go_enter Tryz.func89, Tryz.ntmps89
  go_wp2_with fail
  refine (prefix_k rfl false s ht hs _).mono ?_
  rintro e w1 ⟨rfl, rfl⟩
  clear ht
  go_wp2
  go_ret2
  exact verEnd_magic HH.out
end Ck
end Go.Proofs.YtojhenpaeedimaaGreat
end
section
namespace Go.Proofs.YtojhenpaeedimaaGreat
namespace Ck
open Go.RowKit Go.IntWalk
open Pk Ck
set_option maxRecDepth 100000
attribute [local go_sem] Oper.semAt_some
end Ck
end Go.Proofs.YtojhenpaeedimaaGreat
end
section
namespace Go.Proofs.YtojhenpaeedimaaGreat
namespace Ck
open Go.RowKit Go.IntWalk
open Pk Ck
set_option maxRecDepth 100000
attribute [local go_sem] Oper.semAt_some
theorem chunk_under : Tryz.prog.underlying 53 = some (.struct (Tryz.prog.fieldsOf 53)) := by kernel_rfl
theorem chunk_stood : Tryz.prog.stoodInHeld 53 = false := by kernel_rfl
def chkNe (a : Int) (b : List UInt8) (c : Int) (d : List UInt8) : Bool := !(a == c && decide (b = d))
theorem neq_chunks (a : Int) (b : List UInt8) (c : Int) (d : List UInt8) (w : World) : (binOp .neq 53 (.agg #[.int .i64 a, .string (ba b)]) (.agg #[.int .i64 c, .string (ba d)])).run Tryz.prog w = .ok (.bool (chkNe a b c d)) w := by
 unfold chkNe
 rw [run_neq_struct, show (10000 : Nat) = 9999 + 1 from rfl, run_equalIn_agg w 9999 _ _ _ chunk_under chunk_stood]
 simp only [Program.fieldsOf, Tryz.underlying53]
 simp [Op.eqFields, go_sem, run_equalIn_int _ 9998 _ _ _ _ _ Tryz.underlying3, run_equalIn_string _ 9998 _ _ _ Tryz.underlying9, ba_beq]
 by_cases h1 : a = c <;> by_cases h2 : b = d <;> simp [h1, h2]
theorem chkNe_same (x : Chk) : chkNe x.1 x.2 x.1 x.2 = false := by simp [chkNe]
theorem chkNe_not {x y : Chk} (h : x ≠ y) : chkNe x.1 x.2 y.1 y.2 = true := by
 simp only [chkNe, Bool.not_eq_true', Bool.and_eq_false_iff, beq_eq_false_iff_ne, decide_eq_false_iff_not]
 rcases Decidable.em (x.1 = y.1) with h1 | h1
 ·exact .inr fun e => h (Prod.ext h1 e)
 ·exact .inl h1
attribute [-go_sem] run_neq_struct
attribute [local go_sem] neq_chunks
theorem same11_q (A1 A2 : Option Addr) (c1 c2 : Nat) (xs ys : List Chk) (hx : xs.length ≤ maxLen) (hy : ys.length ≤ maxLen) (w : World) (h1 : At w w.heap.size A1 (cvs xs)) (h2 : At w w.heap.size A2 (cvs ys)) :
  Calls Tryz.prog 15 #[.slice A1 xs.length c1, .slice A2 ys.length c2] w fun e w' => e = .returned (.bool (decide (xs = ys))) ∧ ∃ q, w' = w.drewN q := by
 unfold maxLen at hx hy
 have H1 := Lib.hid h1
 have H2 := Lib.hid h2
 clear h1 h2
 by_cases hl : xs.length = ys.length
 ·obtain ⟨n, hn⟩ : ∃ n, n = ys.length := ⟨_, rfl⟩
  have hn1 : xs.length = n := by omega
  rw [← hn, hn1]
  rw [hn1] at hx hl
  rw [← hn] at hy hl
  have HN := Lib.hid hn
  have HN1 := Lib.hid hn1
  clear hn hn1
  go_enter Tryz.func15, Tryz.ntmps15
  go_wp2_with fail
  go_loopw [5] (fun i wr => ∃ k : Nat, i = .int .i64 (k : Int) ∧ k ≤ n ∧ xs.take k = ys.take k ∧ ∃ q, wr = w.drewN q) (fun i _ => n - (Go.RowKit.intOf i).toNat)
  case atStart => exact ⟨0, rfl, Nat.zero_le _, rfl, 0, rfl⟩
  case round =>
   obtain ⟨k, rfl, hk, heq, hq⟩ := hrel
   have HQ := Lib.hid hq
   clear hq
   have HEQ := Lib.hid heq
   clear heq
   by_cases hlt : k < n
   ·obtain ⟨x, hxk⟩ := some_at (show k < xs.length by rw [HN1.out]; exact hlt)
    obtain ⟨y, hyk⟩ := some_at (show k < ys.length by rw [← HN.out]; exact hlt)
    obtain ⟨b1, o1, rfl, _, hc1, hd1⟩ := chunk_cells (at_drewE H1.out HQ.out) hxk
    obtain ⟨b2, o2, rfl, _, hc2, hd2⟩ := chunk_cells (at_drewE H2.out HQ.out) hyk
    have HE := Lib.hid (ext_take HEQ.out hxk hyk)
    have HX := Lib.hid hxk
    have HY := Lib.hid hyk
    clear hxk hyk
    by_cases hxy : x = y
    ·have ht := chkNe_same y
     rw [hxy] at hc1 hd1
     have HT := Lib.hid hxy
     clear hxy
     go_wp2_with fail
     go_quiet (fail)
     go_wp2
     go_roundw
     case rel => exact ⟨k + 1, by go_num, by omega, HE.out.2 HT.out, drewE HQ.out _⟩
     case measure => simp only [Go.RowKit.intOf]; omega
    ·have ht := chkNe_not hxy
     have HT := Lib.hid hxy
     clear hxy
     go_wp2_with fail
     go_quiet (fail)
     go_wp2
     go_ret
     refine ⟨ret_bool ?_, drewE HQ.out _⟩
     have : ¬ xs = ys := fun e => HT.out (HE.out.1 (by rw [e]))
     simp [this]
   ·obtain rfl : k = n := by omega
    go_wp2_with fail
    go_ret
    refine ⟨ret_bool ?_, HQ.out⟩
    have h := HEQ.out
    rw [List.take_of_length_le (by rw [HN1.out]; exact Nat.le_refl _), List.take_of_length_le (by rw [← HN.out]; exact Nat.le_refl _)] at h
    simp [h]
 ·have HL := Lib.hid hl
  have ht : ((xs.length : Int) != (ys.length : Int)) = true := by simp only [bne_iff_ne, ne_eq]; omega
  clear hl
  go_enter Tryz.func15, Tryz.ntmps15
  go_wp2_with fail
  go_ret
  refine ⟨ret_bool ?_, 0, rfl⟩
  have : ¬ xs = ys := fun e => HL.out (by rw [e])
  simp [this]
end Ck
end Go.Proofs.YtojhenpaeedimaaGreat
end
section
namespace Go.Proofs.YtojhenpaeedimaaGreat.Pk
/-- a number as 64 bits go round -/
def w64 (x : Int) : Int := (x + 9223372036854775808) % 18446744073709551616 - 9223372036854775808
def In64 (x : Int) : Prop := -9223372036854775808 ≤ x ∧ x ≤ 9223372036854775807
def Ints (l : List Int) : Prop := ∀ x ∈ l, In64 x
theorem w64_in (x : Int) : In64 (w64 x) := by unfold In64 w64; omega
theorem w64_back (a x : Int) (hx : In64 x) : w64 (a + w64 (x - a)) = x := by unfold In64 at hx; unfold w64; omega
theorem w64_forth (a x : Int) (hx : In64 x) : w64 (w64 (a + x) - a) = x := by unfold In64 at hx; unfold w64; omega
/-- each number, with the one ahead of it -/
def prs : Int → List Int → List (Int × Int)
 | _, [] => []
 | a, x :: l => (a, x) :: prs x l
def dl (a : Int) (l : List Int) : List Int := (prs a l).map fun p => w64 (p.2 - p.1)
def sm : Int → List Int → List Int
 | _, [] => []
 | a, x :: l => w64 (a + x) :: sm (w64 (a + x)) l
def encD (d : List Int) : List UInt8 := d.flatMap fun x => put (zig x)
def encL (l : List Int) : List UInt8 := encD (dl 0 l)
theorem prs_len (l : List Int) : ∀ a, (prs a l).length = l.length := by
 induction l with
 | nil => intro a; rfl
 | cons x l ih => intro a; simp [prs, ih]
theorem dl_cons (a x : Int) (l : List Int) : dl a (x :: l) = w64 (x - a) :: dl x l := rfl
theorem dl_len (a : Int) (l : List Int) : (dl a l).length = l.length := by simp [dl, prs_len]
theorem sm_len (l : List Int) : ∀ a, (sm a l).length = l.length := by
 induction l with
 | nil => intro a; rfl
 | cons x l ih => intro a; simp [sm, ih]
theorem dl_in (a : Int) (l : List Int) : Ints (dl a l) := by
 intro x hx
 simp only [dl, List.mem_map] at hx
 obtain ⟨p, _, rfl⟩ := hx
 exact w64_in _
theorem sm_dl (l : List Int) : ∀ a, Ints l → sm a (dl a l) = l := by
 induction l with
 | nil => intro a _; rfl
 | cons x l ih =>
  intro a h
  rw [dl_cons, sm, w64_back a x (h x (by simp)), ih x (fun y hy => h y (by simp [hy]))]
theorem dl_sm (l : List Int) : ∀ a, Ints l → dl a (sm a l) = l := by
 induction l with
 | nil => intro a _; rfl
 | cons x l ih =>
  intro a h
  rw [sm, dl_cons, w64_forth a x (h x (by simp)), ih _ (fun y hy => h y (by simp [hy]))]
theorem drop_at_cons {α : Type} {l : List α} {k : Nat} {x : α} (h : l[k]? = some x) : l.drop k = x :: l.drop (k + 1) := by
 obtain ⟨hk, rfl⟩ := List.getElem?_eq_some_iff.1 h
 exact List.drop_eq_getElem_cons hk
theorem encD_cons (x : Int) (d : List Int) : encD (x :: d) = put (zig x) ++ encD d := rfl
theorem encD_len (d : List Int) (h : Ints d) : d.length ≤ (encD d).length ∧ (encD d).length ≤ 10 * d.length := by
 induction d with
 | nil => simp [encD]
 | cons x d ih =>
  have h1 := h x (by simp)
  have h2 := ih (fun y hy => h y (by simp [hy]))
  have h3 := put_len10 (zig_lt h1.1 (by have := h1.2; omega))
  have h4 := put_len_pos (zig x)
  rw [encD_cons, List.length_append, List.length_cons]
  omega
theorem encL_len (l : List Int) : l.length ≤ (encL l).length ∧ (encL l).length ≤ 10 * l.length := by
 have := encD_len (dl 0 l) (dl_in 0 l)
 rw [dl_len] at this
 exact this
/-- n numbers read of a Reader, whatever comes, and the Reader behind them -/
def rdn : Nat → St → List Int × St
 | 0, s => ([], s)
 | n + 1, s => (zag (numV s) :: (rdn n (numS s)).1, (rdn n (numS s)).2)
theorem rdn_len (n : Nat) : ∀ s, (rdn n s).1.length = n := by
 induction n with
 | zero => intro s; rfl
 | succ n ih => intro s; simp [rdn, ih]
theorem rdn_stuck (n : Nat) : ∀ s, s.e ≠ 0 → (rdn n s).2 = s := by
 induction n with
 | zero => intro s _; rfl
 | succ n ih => intro s h; rw [rdn, (num_err h).2]; exact ih s h
theorem rdn_in (n : Nat) : ∀ s, Ints (rdn n s).1 := by
 induction n with
 | zero => intro s x hx; simp [rdn] at hx
 | succ n ih =>
  intro s x hx
  simp only [rdn, List.mem_cons] at hx
  rcases hx with rfl | hx
  ·have := zag_bd (numV_lt s)
   exact ⟨this.1, by omega⟩
  ·exact ih _ x hx
/-- what was encoded is read -/
theorem rdn_enc (d : List Int) : ∀ R, Ints d → rdn d.length ⟨encD d ++ R, 0⟩ = (d, ⟨R, 0⟩) := by
 induction d with
 | nil => intro R _; rfl
 | cons x d ih =>
  intro R h
  have h1 := h x (by simp)
  obtain ⟨e1, e2⟩ := num_put (zig_lt h1.1 (by have := h1.2; omega)) (encD d ++ R)
  have e3 := ih R (fun y hy => h y (by simp [hy]))
  rw [List.length_cons, rdn, encD_cons, List.append_assoc, e1, e2, e3, zag_zig]
/-- what was read was encoded -/
theorem enc_rdn (n : Nat) : ∀ s, s.e = 0 → (rdn n s).2.e = 0 → encD (rdn n s).1 ++ (rdn n s).2.l = s.l := by
 induction n with
 | zero => intro s _ _; rfl
 | succ n ih =>
  intro s h0 h
  by_cases he : (numS s).e = 0
  ·obtain ⟨l, e⟩ := s
   simp only at h0
   subst h0
   have h2 := ih _ he h
   obtain ⟨f1, f2, f3⟩ := num_read he
   rw [rdn, encD_cons, zig_zag, List.append_assoc]
   simp only
   rw [h2, ← f1]
   have h3 : (numS ⟨l, 0⟩).l = l.drop (l.length - (numS ⟨l, 0⟩).l.length) := by
    revert he
    unfold numS
    simp only [if_true]
    cases hr : rd l with
    | cut => simp
    | long => simp
    | ok m u =>
     intro _
     have := (rd_inv hr).2.2.1
     simp only [List.length_drop]
     congr 1
     omega
   conv => lhs; rhs; rw [h3]
   exact List.take_append_drop _ _
  ·rw [rdn] at h
   rw [rdn_stuck n _ he] at h
   exact absurd h he
end Go.Proofs.YtojhenpaeedimaaGreat.Pk
namespace Go.Proofs.YtojhenpaeedimaaGreat.Pk
/-- P5.2: the list of n numbers of which s is told, and the error -/
def decV (l : List UInt8) (n : Int) : List Int × Int :=
 if n < 0 then ([], 1) else if (l.length : Int) < n then ([], 2) else
 if doneV (rdn n.toNat ⟨l, 0⟩).2 = 0 then (sm 0 (rdn n.toNat ⟨l, 0⟩).1, 0) else ([], doneV (rdn n.toNat ⟨l, 0⟩).2)
theorem decV_neg {l : List UInt8} {n : Int} (h : n < 0) : decV l n = ([], 1) := by rw [decV, if_pos h]
theorem decV_far {l : List UInt8} {n : Int} (h : (l.length : Int) < n) : decV l n = ([], 2) := by rw [decV, if_neg (by omega), if_pos h]
theorem decV_bad {l : List UInt8} {n : Nat} (h : n ≤ l.length) (hd : doneV (rdn n ⟨l, 0⟩).2 ≠ 0) : decV l n = ([], doneV (rdn n ⟨l, 0⟩).2) := by
 rw [decV, if_neg (by omega), if_neg (by omega), Int.toNat_natCast, if_neg hd]
theorem decV_ok {l : List UInt8} {n : Nat} (h : n ≤ l.length) (hd : doneV (rdn n ⟨l, 0⟩).2 = 0) : decV l n = (sm 0 (rdn n ⟨l, 0⟩).1, 0) := by
 rw [decV, if_neg (by omega), if_neg (by omega), Int.toNat_natCast, if_pos hd]
theorem doneV_zero {s : St} (h : doneV s = 0) : s.e = 0 ∧ s.l = [] := by
 unfold doneV at h
 split at h
 ·split at h
  ·omega
  ·exact ⟨by assumption, List.eq_nil_of_length_eq_zero (by omega)⟩
 ·contradiction
/-- what is encoded is decoded -/
theorem dec_enc (l : List Int) (h : Ints l) : decV (encL l) l.length = (l, 0) := by
 have hr := rdn_enc (dl 0 l) [] (dl_in 0 l)
 rw [dl_len, List.append_nil] at hr
 have hr' : rdn l.length ⟨encL l, 0⟩ = (dl 0 l, ⟨[], 0⟩) := hr
 rw [decV_ok (encL_len l).1 (by rw [hr']; rfl), hr', sm_dl l 0 h]
/-- what is decoded was encoded -/
theorem enc_dec {s : List UInt8} {n : Int} (h : (decV s n).2 = 0) : encL (decV s n).1 = s ∧ ((decV s n).1.length : Int) = n := by
 rcases Int.lt_or_le n 0 with hn | hn
 ·rw [decV_neg hn] at h; simp at h
 ·rcases Int.lt_or_le (s.length : Int) n with hf | hf
  ·rw [decV_far hf] at h; simp at h
  ·obtain ⟨k, rfl⟩ := Int.eq_ofNat_of_zero_le hn
   have hk : k ≤ s.length := by omega
   by_cases hd : doneV (rdn k ⟨s, 0⟩).2 = 0
   ·rw [decV_ok hk hd]
    obtain ⟨h1, h2⟩ := doneV_zero hd
    have h3 := enc_rdn k ⟨s, 0⟩ rfl h1
    rw [h2, List.append_nil] at h3
    refine ⟨?_, by simp [sm_len, rdn_len]⟩
    simp only [encL]
    rw [dl_sm _ 0 (rdn_in k _)]
    exact h3
   ·rw [decV_bad hk hd] at h
    exact absurd h hd
end Go.Proofs.YtojhenpaeedimaaGreat.Pk
end
