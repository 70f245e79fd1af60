/-
 A strings.Builder of the call's own: what it holds, as bytes; WriteString, String.
 WriteString, without the word on what lies far.
 Mathematics of layer 3's statements. No Go.
 What texts, and pairs and fours of numbers, that came in are, as values.
 Plain mathematics of layer 11: a chunk's bytes; chunks that are joined, and split; chunks that are found. No Go.
 Slices as cells that lie below a bound; two lists held against each other; iterators over them.
 strings.Builder's WriteByte; a file's version; lists of chunks as cells.
 A file's version; the chunk of a kind; few chunks; two lists of chunks held against each other.
 Chunks as a file: the program's, and the document's; two lists of chunks held against each other.
 Chunks as a file, by the document; two lists of chunks held against each other.
 Plain mathematics of layer 5: deltas, sums, bytes, rising lists; and numbers that go round. No Go.
-/
import Derived.Test.YtojhenpaeedimaaGreatBc
import Derived.Shelf.Strings.Builder1
import Derived.Test.YtojhenpaeedimaaGreatBi
import Derived.ProofKit
import Derived.OpenShut
import Derived.SliceStrings
import Derived.ChangeOld
import Derived.Lib.SmallJoins
import Derived.Deep.QuietTactic
import Derived.BigQuiet
import Derived.Deep.RegionHeld3
import Derived.Laws.StructEq
section
namespace Go.Proofs.YtojhenpaeedimaaGreat
open Go.RowKit
open Pk
set_option maxRecDepth 100000
/-- block b is a Builder that holds l; its buffer lies from B on -/
def Bld (w : World) (B b : Nat) (l : List UInt8) : Prop :=
 ∃ p v, (p = .pointer none ∨ p = .pointer (some ⟨b, 0, none⟩)) ∧ w.heap[b]? = some (.cells #[p, v] 111 (0, 0)) ∧ w.ownsRow B 5 1 v l.length (bcs l) ∧ v.ownBlock ≠ some b
/-- below B all is as it was, but for block b -/
structure But (B b : Nat) (w w' : World) : Prop where
 os : w'.os = w.os
 tape : w'.tape = w.tape
 output : w'.output = w.output
 size : w.heap.size ≤ w'.heap.size
 block : ∀ k, k < B → k ≠ b → w'.heap[k]? = w.heap[k]?
theorem But.refl (B b : Nat) (w : World) : But B b w w := ⟨rfl, rfl, rfl, Nat.le_refl _, fun _ _ _ => rfl⟩
theorem But.trans {B b : Nat} {w1 w2 w3 : World} (h : But B b w1 w2) (k : But B b w2 w3) : But B b w1 w3 :=
 ⟨k.os.trans h.os, k.tape.trans h.tape, k.output.trans h.output, Nat.le_trans h.size k.size, fun i hi hb => (k.block i hi hb).trans (h.block i hi hb)⟩
theorem But.below {B B0 b : Nat} {w w' : World} (h : But B b w w') (hB : B0 ≤ B) (hb : B0 ≤ b) : Below B0 w w' :=
 ⟨h.os, h.tape, h.output, h.size, fun i hi => h.block i (by omega) (by omega)⟩
theorem but_below {B b : Nat} {w w' : World} (h : Below B w w') : But B b w w' := ⟨h.os, h.tape, h.output, h.size, fun i hi _ => h.block i hi⟩
theorem But.set {B b : Nat} {w w' : World} (h : But B b w w') (j : Nat) (u : Value) : But B b w (w'.setCell ⟨b, j, none⟩ u) :=
 ⟨h.os, h.tape, h.output, by show _ ≤ (w'.heap.modify _ _).size; rw [Array.size_modify]; exact h.size, fun i hi hb => (Below.heap_setCell w' ⟨b, j, none⟩ u i hb).trans (h.block i hi hb)⟩
theorem bld_new (w : World) (B : Nat) : Bld (w.alloc (.cells #[.pointer none, .slice none 0 0] 111)) B w.heap.size [] :=
 ⟨_, _, .inl rfl, heap_alloc_new w _, World.ownsRow_nil _ _ _ _, by simp [Value.ownBlock]⟩
theorem bld_grown {w w' : World} {B b : Nat} {l : List UInt8} (h : Bld w B b l) (hb : Below w.heap.size w w') : Bld w' B b l := by
 obtain ⟨p, v, hp, hk, ho, hn⟩ := h
 have hlt : b < w.heap.size := (Array.getElem?_eq_some_iff.1 hk).1
 have hg : w.grownBy w' none := ⟨hb.os, hb.tape, hb.output, hb.size, fun i hi _ => hb.block i hi⟩
 exact ⟨p, v, hp, (hb.block b hlt).trans hk, ho.kept hg (by cases h : v.ownBlock <;> simp), hn⟩
theorem bld_lt {w : World} {B b : Nat} {l : List UInt8} (h : Bld w B b l) : b < w.heap.size := by
 obtain ⟨p, v, hp, hk, ho, hn⟩ := h
 exact (Array.getElem?_eq_some_iff.1 hk).1
theorem ownsRow_lower {w : World} {B B' : Nat} {e : TypeId} {size : Nat} {v : Value} {n : Nat} {xs : List Value} (h : w.ownsRow B e size v n xs) (hB : B' ≤ B) : w.ownsRow B' e size v n xs := by
 refine ⟨h.1, ?_⟩
 rcases h.2 with h | ⟨g, cap, cur, hv, hg, r⟩
 ·exact .inl h
 ·exact .inr ⟨g, cap, cur, hv, Nat.le_trans hB hg, r⟩
theorem sizeBuilder : (Tryz.prog.info? 111).map (·.size) = some 2 := by kernel_rfl
theorem liesBuilder : liesAt Tryz.prog Tryz.prog.depth 111 (2 / Tryz.prog.cellsOf 111) 0 111 1 = true := by kernel_rfl
theorem copyCheck_used (b : Nat) (w : World) (h0 : w.cell? ⟨b, 0, none⟩ = some (.pointer (some ⟨b, 0, none⟩))) :
  Calls Tryz.prog 151 #[.pointer (some ⟨b, 0, none⟩)] w fun e w' => e = .returned (.tuple #[]) ∧ w' = w := by
 obtain ⟨j, hj, _⟩ := Option.map_eq_some_iff.1 sizeBuilder
 go_enter Tryz.func151, Tryz.ntmps151
 go_wp2
 rw [Lib.run_neq_ptr_same w _ Tryz.underlying108 hj]
 go_wp2
 go_end0
 exact ⟨rfl, rfl⟩
set_option maxHeartbeats 1000000 in
theorem copyCheck_fresh (b : Nat) (w : World) (h0 : w.cell? ⟨b, 0, none⟩ = some (.pointer none)) (hsh : w.shape? b = some (111, 2)) (hfz : w.frozen? ⟨b, 0, none⟩ = false) :
  Calls Tryz.prog 151 #[.pointer (some ⟨b, 0, none⟩)] w fun e w' => e = .returned (.tuple #[]) ∧ w' = w.setCell ⟨b, 0, none⟩ (.pointer (some ⟨b, 0, none⟩)) := by
 obtain ⟨j, hj, hjs⟩ := Option.map_eq_some_iff.1 sizeBuilder
 go_enter Tryz.func151, Tryz.ntmps151
 go_wp2
 rw [Lib.run_to_unsafe w ⟨b, 0, none⟩ Tryz.underlying108 Tryz.underlying205 hj (by rw [hjs]; decide) hsh (Nat.zero_lt_succ 1)]
 simp only [Result.andThen]
 rw [Oper.upon_value]
 go_wp2
 rw [run_callFunc_extern Tryz.func192 (by kernel_rfl) (by kernel_rfl) (by kernel_rfl) (e := Extern.AbiNoEscape.same) (by kernel_rfl)]
 rw [Lib.run_noEscape]
 simp only [Result.andThen]
 rw [Oper.upon_value]
 go_wp2
 rw [Lib.run_from_unsafe w ⟨b, 0, none⟩ Tryz.underlying205 Tryz.underlying108 hj hsh liesBuilder]
 simp only [Result.andThen]
 rw [Oper.upon_value]
 go_wp2
 go_end0
 exact ⟨rfl, rfl⟩
theorem copyCheck_c (B b : Nat) (l : List UInt8) (w : World) (h : Bld w B b l) :
  Calls Tryz.prog 151 #[.pointer (some ⟨b, 0, none⟩)] w fun e w' => e = .returned (.tuple #[]) ∧
   (∃ v, w'.heap[b]? = some (.cells #[.pointer (some ⟨b, 0, none⟩), v] 111 (0, 0)) ∧ w'.ownsRow B 5 1 v l.length (bcs l) ∧ v.ownBlock ≠ some b ∧ ∃ p, w.heap[b]? = some (.cells #[p, v] 111 (0, 0))) ∧ But B b w w' ∧ ∀ k, k ≠ b → w'.heap[k]? = w.heap[k]? := by
 obtain ⟨p, v, hp, hk, ho, hn⟩ := h
 rcases hp with rfl | rfl
 ·refine (copyCheck_fresh b w (by rw [Lib.cell_of_heap hk]; rfl) (by simp [World.shape?, hk]) (Lib.frozen_of_heap hk 0)).mono ?_
  rintro e w' ⟨rfl, rfl⟩
  refine ⟨rfl, ⟨v, ?_, ?_, hn, _, hk⟩, (But.refl B b w).set 0 _, fun k hk => Below.heap_setCell _ _ _ _ (fun e => hk (by simp [e]))⟩
  ·simp [World.setCell, Array.getElem?_modify, hk]
  ·exact ho.kept (row := some b) ⟨rfl, rfl, rfl, by simp [World.setCell], fun k _ hk => Below.heap_setCell _ _ _ _ (fun e => hk (by simp [e]))⟩ (Or.inr hn)
 ·refine (copyCheck_used b w (by rw [Lib.cell_of_heap hk]; rfl)).mono ?_
  rintro e w' ⟨rfl, rfl⟩
  exact ⟨rfl, ⟨v, hk, ho, hn, _, hk⟩, But.refl B b _, fun _ _ => rfl⟩
/-- all blocks are as they were, but for b and that of b's buffer -/
def Far (b : Nat) (w w' : World) : Prop := ∀ k, k < w.heap.size → k ≠ b → (∀ v, w.cell? ⟨b, 1, none⟩ = some v → v.ownBlock ≠ some k) → w'.heap[k]? = w.heap[k]?
theorem Far.set {b : Nat} {w w' : World} (h : Far b w w') (j : Nat) (u : Value) : Far b w (w'.setCell ⟨b, j, none⟩ u) := fun k hk hne hv =>
 (Below.heap_setCell _ _ _ _ (fun e => hne (by simp [e]))).trans (h k hk hne hv)
theorem far_mk {b : Nat} {w w1 w2 : World} {v : Value} (hv : ∃ p, w.heap[b]? = some (.cells #[p, v] 111 (0, 0))) (hf : ∀ k, k ≠ b → w1.heap[k]? = w.heap[k]?) (hs : w.heap.size ≤ w1.heap.size) (hg : w1.grownBy w2 v.ownBlock) : Far b w w2 := fun k hk hne hb => by
 obtain ⟨p, hp⟩ := hv
 refine (hg.block k (by omega) (fun e => hb v ?_ e.symm)).trans (hf k hne)
 rw [Lib.cell_of_heap hp]; rfl
set_option maxHeartbeats 2000000 in
theorem write_c (B b : Nat) (l s : List UInt8) (w : World) (h : Bld w B b l) (hlen : l.length + s.length ≤ 140737488355328) (hBw : B ≤ w.heap.size) :
  Calls Tryz.prog 86 #[.pointer (some ⟨b, 0, none⟩), .string (ba s)] w fun e w' => e = .returned (.tuple #[.int .i64 s.length, .nilIface]) ∧ Bld w' B b (l ++ s) ∧ But B b w w' ∧ Far b w w' := by
 obtain ⟨i0, hi, hz0, hz1, hz2⟩ := info_parts Tryz.info5
 have hsz := ba_size s
 go_enter Tryz.func86, Tryz.ntmps86
 go_wp2_with (go_at_call 151; refine (copyCheck_c B b l _ h).mono ?_)
 rintro e w1 ⟨rfl, h1, hb1, hfar⟩
 obtain ⟨v, hbk, hown, hne, hv0⟩ := h1
 have c0 : w1.cell? ⟨b, 0, none⟩ = some (.pointer (some ⟨b, 0, none⟩)) := by rw [Lib.cell_of_heap hbk]; rfl
 have c1 : w1.cell? ⟨b, 1, none⟩ = some v := by rw [Lib.cell_of_heap hbk]; rfl
 have hbl := bcs_len l
 go_wp2_with (at_builtin; refine Lib.wpList_append_own_string _ rfl _ _ 109 9 rfl B 5 i0 Tryz.underlying109 Tryz.underlying9 hi hz0 hz1 hz2 _ _ _ rfl hown (ba s) rfl ?c3 ?c4 ?c5 ?_)
 case c3 => unfold maxLen; omega
 case c4 => omega
 case c5 => have := hb1.size; omega
 intro v' w2 hown' hgrow _
 have hlt : b < w1.heap.size := (Array.getElem?_eq_some_iff.1 hbk).1
 have hb2 : w2.heap[b]? = some (.cells #[.pointer (some ⟨b, 0, none⟩), v] 111 (0, 0)) := by
  rw [hgrow.block b hlt (fun e => hne e.symm)]
  exact hbk
 have d0 : w2.cell? ⟨b, 0, none⟩ = some (.pointer (some ⟨b, 0, none⟩)) := by rw [Lib.cell_of_heap hb2]; rfl
 have d1 : w2.cell? ⟨b, 1, none⟩ = some v := by rw [Lib.cell_of_heap hb2]; rfl
 have f1 : w2.frozen? ⟨b, 1, none⟩ = false := Lib.frozen_of_heap hb2 1
 obtain ⟨ao, n', cap, rfl⟩ : ∃ ao n' cap, v' = .slice ao n' cap := by
  rcases hown'.2 with ⟨hv, _⟩ | ⟨g, cap, cur, hv, _⟩
  ·exact ⟨_, _, _, hv⟩
  ·exact ⟨_, _, _, hv⟩
 have hbelow : But B b w w2 := hb1.trans ⟨hgrow.os, hgrow.tape, hgrow.output, hgrow.size, fun k hk _ => hgrow.block k (by have := hb1.size; omega) (fun e => by have := (hown.lt k e.symm).1; omega)⟩
 have e1 : bcs (l ++ s) = bcs l ++ Lib.strCells (ba s) := by simp [bcs, Lib.strCells, ba, bc]
 have hown2 : w2.ownsRow B 5 1 (.slice ao n' cap) (l ++ s).length (bcs (l ++ s)) := by rw [e1, List.length_append]; exact hown'
 have hne2 := Lib.ownBlock_ne hown2 hb2 (by decide)
 have hput : Bld (w2.setCell ⟨b, 1, none⟩ (.slice ao n' cap)) B b (l ++ s) := by
  refine ⟨_, _, .inr rfl, ?_, ?_, hne2⟩
  ·simp [World.setCell, Array.getElem?_modify, hb2]
  ·exact hown2.kept (row := some b) ⟨rfl, rfl, rfl, by simp [World.setCell], fun k _ hk => Below.heap_setCell _ _ _ _ (fun e => hk (by simp [e]))⟩ (Or.inr hne2)
 have hfw : Far b w w2 := far_mk hv0 hfar hb1.size hgrow
 clear hbk hown hown' hgrow hb2 c0 c1 e1 hown2 hne2 hfar hv0
 go_wp2
 go_ret2
 exact ⟨rfl, hput, hbelow.set 1 _, hfw.set 1 _⟩
def Tryz.lays169_ren : Go.Shelf.Ren := ⟨fun | 169 => 88 | n => n, fun | 70 => 108 | 9 => 9 | 0 => 0 | 72 => 111 | 37 => 109 | 127 => 168 | 3 => 3 | 5 => 5 | n => n, fun | n => n⟩
theorem Tryz.lays169 : Go.Proofs.Lays.n169 Tryz.prog Tryz.lays169_ren := {
 mixed := by kernel_rfl
 f169 := Tryz.func88.trans (congrArg some (by kernel_rfl))
 t0 := Tryz.underlying0
 a0 := Tryz.isAgg0
 z0 := Tryz.sizeOf0
 v0 := Tryz.zeroValue0
 t3 := Tryz.underlying3
 a3 := Tryz.isAgg3
 z3 := Tryz.sizeOf3
 v3 := Tryz.zeroValue3
 t9 := Tryz.underlying9
 a9 := Tryz.isAgg9
 z9 := Tryz.sizeOf9
 v9 := Tryz.zeroValue9
 t37 := Tryz.underlying109
 a37 := Tryz.isAgg109
 z37 := Tryz.sizeOf109
 v37 := Tryz.zeroValue109
 t70 := Tryz.underlying108
 a70 := Tryz.isAgg108
 z70 := Tryz.sizeOf108
 v70 := Tryz.zeroValue108
 t72 := Tryz.underlying111
 a72 := Tryz.isAgg111
 z72 := Tryz.sizeOf111
 v72 := Tryz.zeroValue111
 t127 := Tryz.underlying168
 a127 := Tryz.isAgg168
 z127 := Tryz.sizeOf168
 v127 := Tryz.zeroValue168 }
theorem Tryz.Builder_Extra_169 : Builder.Extra Tryz.prog Tryz.lays169_ren := {
 sizeBuilder := by kernel_rfl
 liesBuilder := by kernel_rfl
 t5 := Tryz.underlying5
 a5 := Tryz.isAgg5
 z5 := Tryz.sizeOf5
 v5 := Tryz.zeroValue5
 infoByte := by kernel_rfl
 cellsByte := by kernel_rfl
 sizeByte := by kernel_rfl
 neB5 := by decide }
theorem string_c (B B0 b : Nat) (l : List UInt8) (w : World) (h : Bld w B b l) (hB : B0 ≤ B) (hb : B0 ≤ b) :
  Calls Tryz.prog 88 #[.pointer (some ⟨b, 0, none⟩)] w fun e w' => e = .returned (.string (ba l)) ∧ Below B0 w w' := by
 have hlt := bld_lt h
 refine Any.Builder_String_any Tryz.lays169 Tryz.Builder_Extra_169 B0 b l w ?_ (by omega)
 obtain ⟨p, v, hp, hk, ho, hn⟩ := h
 have ho' : w.ownsRow B0 5 1 v (Lib.byteCells l).length (Lib.byteCells l) := by rw [Lib.byteCells_length]; exact ownsRow_lower ho hB
 rcases hp with rfl | rfl
 ·exact .inl ⟨hb, v, hk, ho', hn⟩
 ·exact .inr ⟨hb, v, hk, ho', hn⟩
end Go.Proofs.YtojhenpaeedimaaGreat
end
section
namespace Go.Proofs.YtojhenpaeedimaaGreat
open Go.RowKit
open Pk
theorem write_b (B b : Nat) (l s : List UInt8) (w : World) (h : Bld w B b l) (hlen : l.length + s.length ≤ 140737488355328) (hBw : B ≤ w.heap.size) :
  Calls Tryz.prog 86 #[.pointer (some ⟨b, 0, none⟩), .string (ba s)] w fun e w' => e = .returned (.tuple #[.int .i64 s.length, .nilIface]) ∧ Bld w' B b (l ++ s) ∧ But B b w w' :=
 (write_c B b l s w h hlen hBw).mono fun _ _ hh => ⟨hh.1, hh.2.1, hh.2.2.1⟩
end Go.Proofs.YtojhenpaeedimaaGreat
end
section
namespace Go.Proofs.YtojhenpaeedimaaGreat.Pk
/-- what is read well of bytes is what it is put as -/
theorem num_read {l : List UInt8} (h : (numS ⟨l, 0⟩).e = 0) : l.take (l.length - (numS ⟨l, 0⟩).l.length) = put (numV ⟨l, 0⟩) ∧ l.length - (numS ⟨l, 0⟩).l.length = (put (numV ⟨l, 0⟩)).length ∧ (numS ⟨l, 0⟩).l.length ≤ l.length := by
 cases hr : rd l with
 | cut => rw [(num_cut (s := ⟨l, 0⟩) rfl hr).2] at h; simp at h
 | long => rw [(num_long (s := ⟨l, 0⟩) rfl hr).2] at h; simp at h
 | ok n u =>
  obtain ⟨h1, h2, h3, _⟩ := rd_inv hr
  have e1 := (num_ok (s := ⟨l, 0⟩) rfl hr).2
  have e2 := (num_ok (s := ⟨l, 0⟩) rfl hr).1
  have e3 : l.length - (l.drop u).length = u := by rw [List.length_drop]; omega
  rw [e1, e2]
  exact ⟨by simp only; rw [e3]; exact h1, by simp only; rw [e3]; exact h2, by simp⟩
theorem num_put {n : Nat} (h : n < 18446744073709551616) (R : List UInt8) : numV ⟨put n ++ R, 0⟩ = n ∧ numS ⟨put n ++ R, 0⟩ = ⟨R, 0⟩ := by
 have hr := rd_put h R
 have := num_ok (s := ⟨put n ++ R, 0⟩) rfl hr
 refine ⟨this.1, ?_⟩
 rw [this.2]
 simp
end Go.Proofs.YtojhenpaeedimaaGreat.Pk
end
section
namespace Go.Proofs.YtojhenpaeedimaaGreat
open Go.ChangeShapes Go.WideShapes Go.RowKit Go.Joins
set_option maxRecDepth 100000
theorem i64_in {n : Int} (h : (Lit.int .i64 n).wf = true) : -9223372036854775808 ≤ n ∧ n ≤ 9223372036854775807 := by
 simp [Lit.wf, IntKind.min, IntKind.max, IntKind.signed, IntKind.bits] at h
 omega
section
variable {H : Type} {enc : TypeId × Value → H} {w : World} {r : Reach} {b : Nat} {v : Value} {d : DataW H} {ps : List MemPlace}
theorem txt_read {t : TypeId} (ht : Tryz.prog.underlying t = some .string) (hval : Value.okWide Tryz.prog w r b t v) (hj : DataW.Trod enc Tryz.prog w 0 (fun _ => true) true t v d ps) :
  ∃ l : List UInt8, v = .string (ba l) ∧ l.length ≤ maxLen := by
 obtain ⟨s, h, _, _, hs⟩ := Go.ChangeMaps.open_string ht hval hj
 refine ⟨s.data.toList, by rw [ba_of]; exact h, ?_⟩
 have := ba_size s.data.toList
 rw [ba_of] at this
 rw [← this]
 exact hs
end
end Go.Proofs.YtojhenpaeedimaaGreat
end
section
namespace Go.Proofs.YtojhenpaeedimaaGreat.Ck
open Pk
abbrev Chk := Int × List UInt8
end Go.Proofs.YtojhenpaeedimaaGreat.Ck
end
section
namespace Go.Proofs.YtojhenpaeedimaaGreat
open Go.RowKit
open Pk
set_option maxRecDepth 100000
/-- behind the address A lie the cells xs, below B -/
def At (w : World) (B : Nat) (A : Option Addr) (xs : List Value) : Prop := ∀ (i : Nat) (v : Value), xs[i]? = some v → ∃ b off, A = some ⟨b, off, none⟩ ∧ b < B ∧ w.cell? ⟨b, off + i, none⟩ = some v
theorem At.below {B : Nat} {w w' : World} {A : Option Addr} {xs : List Value} (h : At w B A xs) (hb : Below B w w') : At w' B A xs := fun i v hv => by
 obtain ⟨b, off, ha, hlt, hc⟩ := h i v hv
 exact ⟨b, off, ha, hlt, (hb.cell (p := ⟨b, off + i, none⟩) hlt).trans hc⟩
theorem At.mono {B B' : Nat} {w : World} {A : Option Addr} {xs : List Value} (h : At w B A xs) (hB : B ≤ B') : At w B' A xs := fun i v hv => by
 obtain ⟨b, off, ha, hlt, hc⟩ := h i v hv
 exact ⟨b, off, ha, Nat.lt_of_lt_of_le hlt hB, hc⟩
theorem At.keep {w w' : World} {A : Option Addr} {xs : List Value} (h : At w w.heap.size A xs) (hb : Below w.heap.size w w') : At w' w'.heap.size A xs := (h.below hb).mono hb.size
theorem At.nil (w : World) (B : Nat) (A : Option Addr) : At w B A [] := fun i v hv => by simp at hv
theorem At.drop {w : World} {B b off : Nat} {xs : List Value} (h : At w B (some ⟨b, off, none⟩) xs) (n : Nat) : At w B (some ⟨b, off + n, none⟩) (xs.drop n) := fun i v hv => by
 rw [List.getElem?_drop] at hv
 obtain ⟨b', off', ha, hlt, hc⟩ := h _ v hv
 cases ha
 exact ⟨b, off + n, rfl, hlt, by rw [Nat.add_assoc]; exact hc⟩
/-- the address is nobody's yet, at a heap of N blocks -/
def Fresh (N : Nat) (A : Option Addr) : Prop := ∀ a, A = some a → N ≤ a.block
/-- a row of the call's own -/
theorem own_at {w : World} {base : Nat} {e : TypeId} {size : Nat} {v : Value} {n : Nat} {xs : List Value} (h : w.ownsRow base e size v n xs) : ∃ A cap, v = .slice A n cap ∧ At w w.heap.size A xs ∧ Fresh base A ∧ n ≤ cap := by
 rcases hv : v.ownBlock with _ | g
 ·rcases h.2 with ⟨rfl, rfl⟩ | ⟨g, cap, cur, rfl, _⟩
  ·have : xs = [] := List.eq_nil_of_length_eq_zero (by rw [h.1]; simp)
   subst this
   exact ⟨none, 0, rfl, At.nil _ _ _, fun a ha => (by cases ha), Nat.le_refl _⟩
  ·simp [Value.ownBlock] at hv
 ·have hlt := (h.lt g hv).2
  have hcell := h.cells hv
  rcases h.2 with ⟨rfl, rfl⟩ | ⟨g', cap, cur, rfl, hg', _, hcap, _⟩
  ·simp [Value.ownBlock] at hv
  ·have hg : g' = g := by simpa [Value.ownBlock] using hv
   subst hg
   refine ⟨_, _, rfl, fun i u hu => ⟨g', 0, rfl, hlt, ?_⟩, fun a ha => by cases ha; exact hg', hcap⟩
   have := hcell i u hu
   rw [add_head] at this
   rw [Nat.zero_add]
   exact this
def ivs (l : List Int) : List Value := l.map (Value.int .i64)
def uvs (l : List Nat) : List Value := l.map fun (u : Nat) => Value.int .u64 (u : Int)
theorem ivs_at {l : List Int} {k : Nat} {x : Int} (h : l[k]? = some x) : (ivs l)[k]? = some (.int .i64 x) := by simp [ivs, h]
theorem uvs_at {l : List Nat} {k : Nat} {x : Nat} (h : l[k]? = some x) : (uvs l)[k]? = some (.int .u64 (x : Int)) := by simp [uvs, h]
theorem some_at {α : Type} {l : List α} {k : Nat} (h : k < l.length) : ∃ x, l[k]? = some x := ⟨_, List.getElem?_eq_getElem h⟩
theorem mem_at {α : Type} {l : List α} {k : Nat} {x : α} (h : l[k]? = some x) : x ∈ l := List.mem_of_getElem? h
theorem below_drewN {B : Nat} {a w : World} (h : Below B a w) (n : Nat) : Below B a (w.drewN n) := ⟨h.os, h.tape, h.output, h.size, h.block⟩
theorem ext_take {α : Type} {xs ys : List α} {k : Nat} (h : xs.take k = ys.take k) {x y : α} (hx : xs[k]? = some x) (hy : ys[k]? = some y) : (xs.take (k + 1) = ys.take (k + 1) ↔ x = y) := by
 rw [List.take_add_one, List.take_add_one, h, hx, hy]
 simp
theorem at_drewN' {w : World} {B : Nat} {A : Option Addr} {xs : List Value} (h : At w B A xs) (n : Nat) : At (w.drewN n) B A xs := h
theorem at_drewE {w w' : World} {B : Nat} {A : Option Addr} {xs : List Value} (h : At w B A xs) (hq : ∃ q, w' = w.drewN q) : At w' B A xs := by
 obtain ⟨q, rfl⟩ := hq
 exact h
theorem drewE {w w' : World} (hq : ∃ q, w' = w.drewN q) (n : Nat) : ∃ q, w'.drewN n = w.drewN q := by
 obtain ⟨q, rfl⟩ := hq
 exact ⟨q + n, by simp⟩
end Go.Proofs.YtojhenpaeedimaaGreat
end
section
namespace Go.Proofs.YtojhenpaeedimaaGreat
namespace Ck
open Go.RowKit Go.IntWalk
open Pk Ck
set_option maxRecDepth 100000
attribute [local go_sem] Oper.semAt_some
/-- the cells of a list of chunks -/
def cvs (l : List Chk) : List Value := l.flatMap fun x => [.int .i64 x.1, .string (ba x.2)]
theorem cvs_len (r : List Chk) : (cvs r).length = r.length * 2 := by
 induction r with
 | nil => rfl
 | cons x r ih =>
  have h : cvs (x :: r) = .int .i64 x.1 :: .string (ba x.2) :: cvs r := rfl
  rw [h, List.length_cons, List.length_cons, ih, List.length_cons]
  omega
theorem cvs_at {r : List Chk} {k : Nat} {x : Chk} (h : r[k]? = some x) : (cvs r)[k * 2]? = some (.int .i64 x.1) ∧ (cvs r)[k * 2 + 1]? = some (.string (ba x.2)) := by
 induction r generalizing k with
 | nil => simp at h
 | cons y r ih =>
  have hc : cvs (y :: r) = .int .i64 y.1 :: .string (ba y.2) :: cvs r := rfl
  rw [hc]
  match k, h with
  | 0, h => simp at h; subst h; exact ⟨rfl, rfl⟩
  | k + 1, h =>
   have := ih (k := k) (by simpa using h)
   rw [show (k + 1) * 2 = k * 2 + 1 + 1 by omega]
   simpa using this
theorem chunk_cells {w : World} {B k : Nat} {A : Option Addr} {r : List Chk} {x : Chk} (h : At w B A (cvs r)) (hk : r[k]? = some x) :
  ∃ b off, A = some ⟨b, off, none⟩ ∧ b < B ∧ w.cell? ⟨b, off + k * 2, none⟩ = some (.int .i64 x.1) ∧ w.cell? ⟨b, off + k * 2 + 1, none⟩ = some (.string (ba x.2)) := by
 obtain ⟨h1, h2⟩ := cvs_at hk
 obtain ⟨b, off, hA, hlt, hc⟩ := h _ _ h1
 obtain ⟨b', off', hA', _, hc'⟩ := h _ _ h2
 rw [hA] at hA'
 cases hA'
 exact ⟨b, off, hA, hlt, hc, hc'⟩
theorem Tryz.info53 : (Tryz.prog.info? 53).map (fun i => (i.zero, i.size, i.bytes)) = some (some (.agg #[.int .i64 0, .string ByteArray.empty]), 2, 24) := by kernel_rfl
theorem ba_beq (a b : List UInt8) : ((ba a).toList == (ba b).toList) = decide (a = b) := by
 rw [ByteArray.toList_eq, ByteArray.toList_eq, ba_list, ba_list]
 by_cases h : a = b <;> simp [h]
end Ck
end Go.Proofs.YtojhenpaeedimaaGreat
end
section
namespace Go.Proofs.YtojhenpaeedimaaGreat
namespace Ck
open Go.RowKit Go.IntWalk
open Pk Ck
set_option maxRecDepth 100000
attribute [local go_sem] Oper.semAt_some
def few (l : List Chk) : Bool := decide (l.length ≤ 20) && l.all fun c => decide (c.2.length ≤ 200)
theorem few_step {l : List Chk} {i : Nat} {c : Chk} (h : l[i]? = some c) : ((l.drop i).all fun c => decide (c.2.length ≤ 200)) = (decide (c.2.length ≤ 200) && (l.drop (i + 1)).all fun c => decide (c.2.length ≤ 200)) := by
 have hk := (List.getElem?_eq_some_iff.1 h).1
 have hc := (List.getElem?_eq_some_iff.1 h).2
 rw [List.drop_eq_getElem_cons hk, hc, List.all_cons]
theorem few_in {l : List Chk} (h : few l = true) : l.length ≤ 20 ∧ ∀ c ∈ l, c.2.length ≤ 200 := by
 simp only [few, Bool.and_eq_true, decide_eq_true_eq, List.all_eq_true] at h
 exact h
theorem few_c (A : Option Addr) (cap : Nat) (l : List Chk) (hl : l.length ≤ maxLen) (w : World) (hc : At w w.heap.size A (cvs l)) :
  Calls Tryz.prog 20 #[.slice A l.length cap] w fun e w' => e = .returned (.bool (few l)) ∧ w = w' := by
 unfold maxLen at hl
 obtain ⟨r, hr⟩ : ∃ r, r = few l := ⟨_, rfl⟩
 rw [← hr]
 have hr0 := hr
 unfold few at hr0
 have HC := Lib.hid hc
 clear hr hc
 by_cases h20 : 20 < l.length
 ·rw [decide_eq_false (show ¬ l.length ≤ 20 by omega), Bool.false_and] at hr0
  subst hr0
  go_enter Tryz.func20, Tryz.ntmps20
  go_wp2_with fail
  go_ret
  exact ⟨rfl, rfl⟩
 ·rw [decide_eq_true (show l.length ≤ 20 by omega), Bool.true_and] at hr0
  have HR := Lib.hid hr0
  clear hr0
  go_enter Tryz.func20, Tryz.ntmps20
  go_wp2_with fail
  go_loopw [3] (fun i wr => ∃ j : Nat, i = .int .i64 (j : Int) ∧ j ≤ l.length ∧ ((l.drop j).all fun c => decide (c.2.length ≤ 200)) = r ∧ wr = w)
   (fun i _ => l.length - (Go.RowKit.intOf i).toNat)
  case atStart => exact ⟨0, rfl, Nat.zero_le _, HR.out.symm, rfl⟩
  case round =>
   obtain ⟨j, rfl, hj, hf, rfl⟩ := hrel
   by_cases hlt : j < l.length
   ·obtain ⟨c, hcj⟩ := some_at hlt
    obtain ⟨b0, o0, rfl, hb0, c0, c1⟩ := chunk_cells HC.out hcj
    rw [few_step hcj] at hf
    have hsz := ba_size c.2
    have HF := Lib.hid hf
    clear hf hcj
    by_cases hk : 200 < c.2.length
    ·go_wp2_with fail
     go_ret
     have := HF.out
     rw [decide_eq_false (show ¬ c.2.length ≤ 200 by omega), Bool.false_and] at this
     exact ⟨ret_bool this, rfl⟩
    ·go_wp2_with fail
     go_roundw
     case rel => exact ⟨j + 1, by go_num, by omega, by rw [← HF.out, decide_eq_true (show c.2.length ≤ 200 by omega), Bool.true_and], by first | rfl | trivial⟩
     case measure => simp only [Go.RowKit.intOf]; omega
   ·obtain rfl : j = l.length := by omega
    rw [List.drop_length] at hf
    have HF := Lib.hid hf
    clear hf
    go_wp2_with fail
    go_ret
    exact ⟨ret_bool HF.out, rfl⟩
end Ck
end Go.Proofs.YtojhenpaeedimaaGreat
end
section
namespace Go.Proofs.YtojhenpaeedimaaGreat
namespace Ck
open Go.RowKit Go.IntWalk
open Pk Ck
set_option maxRecDepth 100000
attribute [local go_sem] Oper.semAt_some
end Ck
end Go.Proofs.YtojhenpaeedimaaGreat
end
section
namespace Go.Proofs.YtojhenpaeedimaaGreat
namespace Ck
open Go.RowKit Go.IntWalk
open Pk Ck
set_option maxRecDepth 100000
attribute [local go_sem] Oper.semAt_some
theorem chunk_under : Tryz.prog.underlying 53 = some (.struct (Tryz.prog.fieldsOf 53)) := by kernel_rfl
theorem chunk_stood : Tryz.prog.stoodInHeld 53 = false := by kernel_rfl
def chkNe (a : Int) (b : List UInt8) (c : Int) (d : List UInt8) : Bool := !(a == c && decide (b = d))
theorem neq_chunks (a : Int) (b : List UInt8) (c : Int) (d : List UInt8) (w : World) : (binOp .neq 53 (.agg #[.int .i64 a, .string (ba b)]) (.agg #[.int .i64 c, .string (ba d)])).run Tryz.prog w = .ok (.bool (chkNe a b c d)) w := by
 unfold chkNe
 rw [run_neq_struct, show (10000 : Nat) = 9999 + 1 from rfl, run_equalIn_agg w 9999 _ _ _ chunk_under chunk_stood]
 simp only [Program.fieldsOf, Tryz.underlying53]
 simp [Op.eqFields, go_sem, run_equalIn_int _ 9998 _ _ _ _ _ Tryz.underlying3, run_equalIn_string _ 9998 _ _ _ Tryz.underlying9, ba_beq]
 by_cases h1 : a = c <;> by_cases h2 : b = d <;> simp [h1, h2]
theorem chkNe_same (x : Chk) : chkNe x.1 x.2 x.1 x.2 = false := by simp [chkNe]
theorem chkNe_not {x y : Chk} (h : x ≠ y) : chkNe x.1 x.2 y.1 y.2 = true := by
 simp only [chkNe, Bool.not_eq_true', Bool.and_eq_false_iff, beq_eq_false_iff_ne, decide_eq_false_iff_not]
 rcases Decidable.em (x.1 = y.1) with h1 | h1
 ·exact .inr fun e => h (Prod.ext h1 e)
 ·exact .inl h1
attribute [-go_sem] run_neq_struct
attribute [local go_sem] neq_chunks
theorem same11_q (A1 A2 : Option Addr) (c1 c2 : Nat) (xs ys : List Chk) (hx : xs.length ≤ maxLen) (hy : ys.length ≤ maxLen) (w : World) (h1 : At w w.heap.size A1 (cvs xs)) (h2 : At w w.heap.size A2 (cvs ys)) :
  Calls Tryz.prog 15 #[.slice A1 xs.length c1, .slice A2 ys.length c2] w fun e w' => e = .returned (.bool (decide (xs = ys))) ∧ ∃ q, w' = w.drewN q := by
 unfold maxLen at hx hy
 have H1 := Lib.hid h1
 have H2 := Lib.hid h2
 clear h1 h2
 by_cases hl : xs.length = ys.length
 ·obtain ⟨n, hn⟩ : ∃ n, n = ys.length := ⟨_, rfl⟩
  have hn1 : xs.length = n := by omega
  rw [← hn, hn1]
  rw [hn1] at hx hl
  rw [← hn] at hy hl
  have HN := Lib.hid hn
  have HN1 := Lib.hid hn1
  clear hn hn1
  go_enter Tryz.func15, Tryz.ntmps15
  go_wp2_with fail
  go_loopw [5] (fun i wr => ∃ k : Nat, i = .int .i64 (k : Int) ∧ k ≤ n ∧ xs.take k = ys.take k ∧ ∃ q, wr = w.drewN q) (fun i _ => n - (Go.RowKit.intOf i).toNat)
  case atStart => exact ⟨0, rfl, Nat.zero_le _, rfl, 0, rfl⟩
  case round =>
   obtain ⟨k, rfl, hk, heq, hq⟩ := hrel
   have HQ := Lib.hid hq
   clear hq
   have HEQ := Lib.hid heq
   clear heq
   by_cases hlt : k < n
   ·obtain ⟨x, hxk⟩ := some_at (show k < xs.length by rw [HN1.out]; exact hlt)
    obtain ⟨y, hyk⟩ := some_at (show k < ys.length by rw [← HN.out]; exact hlt)
    obtain ⟨b1, o1, rfl, _, hc1, hd1⟩ := chunk_cells (at_drewE H1.out HQ.out) hxk
    obtain ⟨b2, o2, rfl, _, hc2, hd2⟩ := chunk_cells (at_drewE H2.out HQ.out) hyk
    have HE := Lib.hid (ext_take HEQ.out hxk hyk)
    have HX := Lib.hid hxk
    have HY := Lib.hid hyk
    clear hxk hyk
    by_cases hxy : x = y
    ·have ht := chkNe_same y
     rw [hxy] at hc1 hd1
     have HT := Lib.hid hxy
     clear hxy
     go_wp2_with fail
     go_quiet (fail)
     go_wp2
     go_roundw
     case rel => exact ⟨k + 1, by go_num, by omega, HE.out.2 HT.out, drewE HQ.out _⟩
     case measure => simp only [Go.RowKit.intOf]; omega
    ·have ht := chkNe_not hxy
     have HT := Lib.hid hxy
     clear hxy
     go_wp2_with fail
     go_quiet (fail)
     go_wp2
     go_ret
     refine ⟨ret_bool ?_, drewE HQ.out _⟩
     have : ¬ xs = ys := fun e => HT.out (HE.out.1 (by rw [e]))
     simp [this]
   ·obtain rfl : k = n := by omega
    go_wp2_with fail
    go_ret
    refine ⟨ret_bool ?_, HQ.out⟩
    have h := HEQ.out
    rw [List.take_of_length_le (by rw [HN1.out]; exact Nat.le_refl _), List.take_of_length_le (by rw [← HN.out]; exact Nat.le_refl _)] at h
    simp [h]
 ·have HL := Lib.hid hl
  have ht : ((xs.length : Int) != (ys.length : Int)) = true := by simp only [bne_iff_ne, ne_eq]; omega
  clear hl
  go_enter Tryz.func15, Tryz.ntmps15
  go_wp2_with fail
  go_ret
  refine ⟨ret_bool ?_, 0, rfl⟩
  have : ¬ xs = ys := fun e => HL.out (by rw [e])
  simp [this]
end Ck
end Go.Proofs.YtojhenpaeedimaaGreat
end
section
namespace Go.Proofs.YtojhenpaeedimaaGreat.Pk
/-- a number as 64 bits go round -/
def w64 (x : Int) : Int := (x + 9223372036854775808) % 18446744073709551616 - 9223372036854775808
def In64 (x : Int) : Prop := -9223372036854775808 ≤ x ∧ x ≤ 9223372036854775807
def Ints (l : List Int) : Prop := ∀ x ∈ l, In64 x
theorem w64_in (x : Int) : In64 (w64 x) := by unfold In64 w64; omega
theorem w64_id {x : Int} (h : In64 x) : w64 x = x := by unfold In64 at h; unfold w64; omega
theorem w64_back (a x : Int) (hx : In64 x) : w64 (a + w64 (x - a)) = x := by unfold In64 at hx; unfold w64; omega
theorem w64_forth (a x : Int) (hx : In64 x) : w64 (w64 (a + x) - a) = x := by unfold In64 at hx; unfold w64; omega
/-- each number, with the one ahead of it -/
def prs : Int → List Int → List (Int × Int)
 | _, [] => []
 | a, x :: l => (a, x) :: prs x l
def dl (a : Int) (l : List Int) : List Int := (prs a l).map fun p => w64 (p.2 - p.1)
def sm : Int → List Int → List Int
 | _, [] => []
 | a, x :: l => w64 (a + x) :: sm (w64 (a + x)) l
def encD (d : List Int) : List UInt8 := d.flatMap fun x => put (zig x)
def encL (l : List Int) : List UInt8 := encD (dl 0 l)
theorem prs_len (l : List Int) : ∀ a, (prs a l).length = l.length := by
 induction l with
 | nil => intro a; rfl
 | cons x l ih => intro a; simp [prs, ih]
theorem dl_cons (a x : Int) (l : List Int) : dl a (x :: l) = w64 (x - a) :: dl x l := rfl
theorem dl_len (a : Int) (l : List Int) : (dl a l).length = l.length := by simp [dl, prs_len]
theorem sm_len (l : List Int) : ∀ a, (sm a l).length = l.length := by
 induction l with
 | nil => intro a; rfl
 | cons x l ih => intro a; simp [sm, ih]
theorem dl_in (a : Int) (l : List Int) : Ints (dl a l) := by
 intro x hx
 simp only [dl, List.mem_map] at hx
 obtain ⟨p, _, rfl⟩ := hx
 exact w64_in _
theorem sm_dl (l : List Int) : ∀ a, Ints l → sm a (dl a l) = l := by
 induction l with
 | nil => intro a _; rfl
 | cons x l ih =>
  intro a h
  rw [dl_cons, sm, w64_back a x (h x (by simp)), ih x (fun y hy => h y (by simp [hy]))]
theorem dl_sm (l : List Int) : ∀ a, Ints l → dl a (sm a l) = l := by
 induction l with
 | nil => intro a _; rfl
 | cons x l ih =>
  intro a h
  rw [sm, dl_cons, w64_forth a x (h x (by simp)), ih _ (fun y hy => h y (by simp [hy]))]
theorem drop_at_cons {α : Type} {l : List α} {k : Nat} {x : α} (h : l[k]? = some x) : l.drop k = x :: l.drop (k + 1) := by
 obtain ⟨hk, rfl⟩ := List.getElem?_eq_some_iff.1 h
 exact List.drop_eq_getElem_cons hk
theorem encD_cons (x : Int) (d : List Int) : encD (x :: d) = put (zig x) ++ encD d := rfl
theorem encD_len (d : List Int) (h : Ints d) : d.length ≤ (encD d).length ∧ (encD d).length ≤ 10 * d.length := by
 induction d with
 | nil => simp [encD]
 | cons x d ih =>
  have h1 := h x (by simp)
  have h2 := ih (fun y hy => h y (by simp [hy]))
  have h3 := put_len10 (zig_lt h1.1 (by have := h1.2; omega))
  have h4 := put_len_pos (zig x)
  rw [encD_cons, List.length_append, List.length_cons]
  omega
theorem encL_len (l : List Int) : l.length ≤ (encL l).length ∧ (encL l).length ≤ 10 * l.length := by
 have := encD_len (dl 0 l) (dl_in 0 l)
 rw [dl_len] at this
 exact this
/-- n numbers read of a Reader, whatever comes, and the Reader behind them -/
def rdn : Nat → St → List Int × St
 | 0, s => ([], s)
 | n + 1, s => (zag (numV s) :: (rdn n (numS s)).1, (rdn n (numS s)).2)
theorem rdn_len (n : Nat) : ∀ s, (rdn n s).1.length = n := by
 induction n with
 | zero => intro s; rfl
 | succ n ih => intro s; simp [rdn, ih]
theorem rdn_stuck (n : Nat) : ∀ s, s.e ≠ 0 → (rdn n s).2 = s := by
 induction n with
 | zero => intro s _; rfl
 | succ n ih => intro s h; rw [rdn, (num_err h).2]; exact ih s h
theorem rdn_in (n : Nat) : ∀ s, Ints (rdn n s).1 := by
 induction n with
 | zero => intro s x hx; simp [rdn] at hx
 | succ n ih =>
  intro s x hx
  simp only [rdn, List.mem_cons] at hx
  rcases hx with rfl | hx
  ·have := zag_bd (numV_lt s)
   exact ⟨this.1, by omega⟩
  ·exact ih _ x hx
/-- what was encoded is read -/
theorem rdn_enc (d : List Int) : ∀ R, Ints d → rdn d.length ⟨encD d ++ R, 0⟩ = (d, ⟨R, 0⟩) := by
 induction d with
 | nil => intro R _; rfl
 | cons x d ih =>
  intro R h
  have h1 := h x (by simp)
  obtain ⟨e1, e2⟩ := num_put (zig_lt h1.1 (by have := h1.2; omega)) (encD d ++ R)
  have e3 := ih R (fun y hy => h y (by simp [hy]))
  rw [List.length_cons, rdn, encD_cons, List.append_assoc, e1, e2, e3, zag_zig]
/-- what was read was encoded -/
theorem enc_rdn (n : Nat) : ∀ s, s.e = 0 → (rdn n s).2.e = 0 → encD (rdn n s).1 ++ (rdn n s).2.l = s.l := by
 induction n with
 | zero => intro s _ _; rfl
 | succ n ih =>
  intro s h0 h
  by_cases he : (numS s).e = 0
  ·obtain ⟨l, e⟩ := s
   simp only at h0
   subst h0
   have h2 := ih _ he h
   obtain ⟨f1, f2, f3⟩ := num_read he
   rw [rdn, encD_cons, zig_zag, List.append_assoc]
   simp only
   rw [h2, ← f1]
   have h3 : (numS ⟨l, 0⟩).l = l.drop (l.length - (numS ⟨l, 0⟩).l.length) := by
    revert he
    unfold numS
    simp only [if_true]
    cases hr : rd l with
    | cut => simp
    | long => simp
    | ok m u =>
     intro _
     have := (rd_inv hr).2.2.1
     simp only [List.length_drop]
     congr 1
     omega
   conv => lhs; rhs; rw [h3]
   exact List.take_append_drop _ _
  ·rw [rdn] at h
   rw [rdn_stuck n _ he] at h
   exact absurd h he
end Go.Proofs.YtojhenpaeedimaaGreat.Pk
namespace Go.Proofs.YtojhenpaeedimaaGreat.Pk
/-- P5.2: the list of n numbers of which s is told, and the error -/
def decV (l : List UInt8) (n : Int) : List Int × Int :=
 if n < 0 then ([], 1) else if (l.length : Int) < n then ([], 2) else
 if doneV (rdn n.toNat ⟨l, 0⟩).2 = 0 then (sm 0 (rdn n.toNat ⟨l, 0⟩).1, 0) else ([], doneV (rdn n.toNat ⟨l, 0⟩).2)
theorem decV_neg {l : List UInt8} {n : Int} (h : n < 0) : decV l n = ([], 1) := by rw [decV, if_pos h]
theorem decV_far {l : List UInt8} {n : Int} (h : (l.length : Int) < n) : decV l n = ([], 2) := by rw [decV, if_neg (by omega), if_pos h]
theorem decV_bad {l : List UInt8} {n : Nat} (h : n ≤ l.length) (hd : doneV (rdn n ⟨l, 0⟩).2 ≠ 0) : decV l n = ([], doneV (rdn n ⟨l, 0⟩).2) := by
 rw [decV, if_neg (by omega), if_neg (by omega), Int.toNat_natCast, if_neg hd]
theorem decV_ok {l : List UInt8} {n : Nat} (h : n ≤ l.length) (hd : doneV (rdn n ⟨l, 0⟩).2 = 0) : decV l n = (sm 0 (rdn n ⟨l, 0⟩).1, 0) := by
 rw [decV, if_neg (by omega), if_neg (by omega), Int.toNat_natCast, if_pos hd]
theorem doneV_zero {s : St} (h : doneV s = 0) : s.e = 0 ∧ s.l = [] := by
 unfold doneV at h
 split at h
 ·split at h
  ·omega
  ·exact ⟨by assumption, List.eq_nil_of_length_eq_zero (by omega)⟩
 ·contradiction
/-- what is encoded is decoded -/
theorem dec_enc (l : List Int) (h : Ints l) : decV (encL l) l.length = (l, 0) := by
 have hr := rdn_enc (dl 0 l) [] (dl_in 0 l)
 rw [dl_len, List.append_nil] at hr
 have hr' : rdn l.length ⟨encL l, 0⟩ = (dl 0 l, ⟨[], 0⟩) := hr
 rw [decV_ok (encL_len l).1 (by rw [hr']; rfl), hr', sm_dl l 0 h]
/-- what is decoded was encoded -/
theorem enc_dec {s : List UInt8} {n : Int} (h : (decV s n).2 = 0) : encL (decV s n).1 = s ∧ ((decV s n).1.length : Int) = n := by
 rcases Int.lt_or_le n 0 with hn | hn
 ·rw [decV_neg hn] at h; simp at h
 ·rcases Int.lt_or_le (s.length : Int) n with hf | hf
  ·rw [decV_far hf] at h; simp at h
  ·obtain ⟨k, rfl⟩ := Int.eq_ofNat_of_zero_le hn
   have hk : k ≤ s.length := by omega
   by_cases hd : doneV (rdn k ⟨s, 0⟩).2 = 0
   ·rw [decV_ok hk hd]
    obtain ⟨h1, h2⟩ := doneV_zero hd
    have h3 := enc_rdn k ⟨s, 0⟩ rfl h1
    rw [h2, List.append_nil] at h3
    refine ⟨?_, by simp [sm_len, rdn_len]⟩
    simp only [encL]
    rw [dl_sm _ 0 (rdn_in k _)]
    exact h3
   ·rw [decV_bad hk hd] at h
    exact absurd h hd
end Go.Proofs.YtojhenpaeedimaaGreat.Pk
end
