/-
 Mathematics of layer 3's statements. No Go.
 What texts, and pairs and fours of numbers, that came in are, as values.
 Plain mathematics of layer 11: a chunk's bytes; chunks that are joined, and split; chunks that are found. No Go.
 Slices as cells that lie below a bound; two lists held against each other; iterators over them.
 What stands ahead of a chunk's body; its sum; a chunk as bytes: the program's.
-/
import Derived.Test.YtojhenpaeedimaaBd
import Derived.Test.YtojhenpaeedimaaBb
import Derived.ProofKit
import Derived.OpenShut
import Derived.SliceStrings
import Derived.ChangeOld
import Derived.Lib.SmallJoins
import Derived.Deep.QuietTactic
import Derived.BigQuiet
import Derived.Deep.RegionHeld3
import Derived.Test.YtojhenpaeedimaaBc
import Derived.Test.YtojhenpaeedimaaBi
section
namespace Go.Proofs.Ytojhenpaeedimaa.Pk
theorem num_put {n : Nat} (h : n < 18446744073709551616) (R : List UInt8) : numV ⟨put n ++ R, 0⟩ = n ∧ numS ⟨put n ++ R, 0⟩ = ⟨R, 0⟩ := by
 have hr := rd_put h R
 have := num_ok (s := ⟨put n ++ R, 0⟩) rfl hr
 refine ⟨this.1, ?_⟩
 rw [this.2]
 simp
theorem fix_fixed {n : Nat} (h : n < 18446744073709551616) (R : List UInt8) : fixV ⟨fixed 8 n ++ R, 0⟩ = n ∧ fixS ⟨fixed 8 n ++ R, 0⟩ = ⟨R, 0⟩ := by
 have hl := fixed_len 8 n
 have := fix_ok (s := ⟨fixed 8 n ++ R, 0⟩) rfl (by simp [hl])
 have ht : (fixed 8 n ++ R).take 8 = fixed 8 n := by rw [List.take_append_of_le_length (by omega), List.take_of_length_le (by omega)]
 have hd : (fixed 8 n ++ R).drop 8 = R := by rw [List.drop_append_of_le_length (by omega), List.drop_of_length_le (by omega)]; rfl
 refine ⟨?_, ?_⟩
 ·rw [this.1]
  simp only
  rw [ht]
  exact num8_fixed 8 n (by omega)
 ·rw [this.2]
  simp only
  rw [hd]
end Go.Proofs.Ytojhenpaeedimaa.Pk
end
section
namespace Go.Proofs.Ytojhenpaeedimaa
open Go.ChangeShapes Go.WideShapes Go.RowKit Go.Joins
set_option maxRecDepth 100000
section
variable {H : Type} {enc : TypeId × Value → H} {w : World} {r : Reach} {b : Nat} {v : Value} {d : DataW H} {ps : List MemPlace}
theorem txt_read {t : TypeId} (ht : Try.prog.underlying t = some .string) (hval : Value.okWide Try.prog w r b t v) (hj : DataW.Trod enc Try.prog w 0 (fun _ => true) true t v d ps) :
  ∃ l : List UInt8, v = .string (ba l) ∧ l.length ≤ maxLen := by
 obtain ⟨s, h, _, _, hs⟩ := Go.ChangeMaps.open_string ht hval hj
 refine ⟨s.data.toList, by rw [ba_of]; exact h, ?_⟩
 have := ba_size s.data.toList
 rw [ba_of] at this
 rw [← this]
 exact hs
end
end Go.Proofs.Ytojhenpaeedimaa
end
section
namespace Go.Proofs.Ytojhenpaeedimaa.Ck
open Pk Cr
def byt8 (k : Int) : UInt8 := UInt8.ofNat (k % 256).toNat
theorem byt8_nat (k : Int) : (byt8 k).toNat = (k % 256).toNat := ofNat_toNat_lt (by omega)
theorem byt8_of (b : UInt8) : byt8 (b.toNat : Int) = b := by
 have := b.toNat_lt
 refine UInt8.toNat_inj.1 ?_
 rw [byt8_nat]; omega
def magic : List UInt8 := [66, 78, 83, 73]
def verE (s : List UInt8) : Int := if s.take 4 ≠ magic then 7 else if s.length < 5 then 2 else 0
def verV (s : List UInt8) : Int := if verE s = 0 then ((s.getD 4 0).toNat : Int) else 0
theorem cut_back {k : UInt8} {r : List UInt8} (h : cutE k r = 0) : k :: r = one (cutC k r) ++ cutR r ∧ (cutC k r).2.length ≤ 1048576 := by
 unfold cutE at h
 split at h
 ·omega
 ·rename_i he
  have he0 : (numS ⟨r, 0⟩).e = 0 := by omega
  have hp := put_num he0
  split at h
  ·omega
  ·split at h
   ·omega
   ·split at h
    ·omega
    ·rename_i hn hl hst
     have hst2 := Decidable.not_not.1 hst
     have hl2 : ((numS ⟨r, 0⟩).l.take (numV ⟨r, 0⟩)).length = numV ⟨r, 0⟩ := by rw [List.length_take]; omega
     refine ⟨?_, by show List.length (List.take _ _) ≤ _; omega⟩
     unfold one front cutC cutR
     simp only
     rw [byt8_of, hl2, ← hst2, List.cons_append, List.cons_append, List.cons_append]
     refine congrArg (List.cons k) ?_
     rw [← List.drop_drop, List.append_assoc, List.append_assoc, List.take_append_drop, List.take_append_drop]
     exact hp.symm
theorem ver_back {s : List UInt8} (h : verE s = 0) : s = magic ++ (byt8 (verV s) :: s.drop 5) ∧ 0 ≤ verV s ∧ verV s ≤ 255 := by
 have h0 := h
 unfold verE at h
 split at h
 ·omega
 ·split at h
  ·omega
  ·rename_i g1 g2
   have g := Decidable.not_not.1 g1
   obtain ⟨b, hb⟩ : ∃ b, s[4]? = some b := ⟨s[4], by simp⟩
   have hv : verV s = (b.toNat : Int) := by unfold verV; rw [if_pos h0, List.getD_eq_getElem?_getD, hb]; rfl
   rw [hv, byt8_of, ← g, ← Pk.drop_cons hb, List.take_append_drop]
   have := b.toNat_lt
   exact ⟨rfl, by omega, by omega⟩
end Go.Proofs.Ytojhenpaeedimaa.Ck
end
section
namespace Go.Proofs.Ytojhenpaeedimaa
open Go.RowKit
open Pk
set_option maxRecDepth 100000
/-- behind the address A lie the cells xs, below B -/
def At (w : World) (B : Nat) (A : Option Addr) (xs : List Value) : Prop := ∀ (i : Nat) (v : Value), xs[i]? = some v → ∃ b off, A = some ⟨b, off, none⟩ ∧ b < B ∧ w.cell? ⟨b, off + i, none⟩ = some v
theorem At.below {B : Nat} {w w' : World} {A : Option Addr} {xs : List Value} (h : At w B A xs) (hb : Below B w w') : At w' B A xs := fun i v hv => by
 obtain ⟨b, off, ha, hlt, hc⟩ := h i v hv
 exact ⟨b, off, ha, hlt, (hb.cell (p := ⟨b, off + i, none⟩) hlt).trans hc⟩
theorem At.mono {B B' : Nat} {w : World} {A : Option Addr} {xs : List Value} (h : At w B A xs) (hB : B ≤ B') : At w B' A xs := fun i v hv => by
 obtain ⟨b, off, ha, hlt, hc⟩ := h i v hv
 exact ⟨b, off, ha, Nat.lt_of_lt_of_le hlt hB, hc⟩
theorem At.keep {w w' : World} {A : Option Addr} {xs : List Value} (h : At w w.heap.size A xs) (hb : Below w.heap.size w w') : At w' w'.heap.size A xs := (h.below hb).mono hb.size
theorem At.nil (w : World) (B : Nat) (A : Option Addr) : At w B A [] := fun i v hv => by simp at hv
theorem At.take {w : World} {B : Nat} {A : Option Addr} {xs : List Value} (h : At w B A xs) (n : Nat) : At w B A (xs.take n) := fun i v hv => by
 by_cases hi : i < n
 ·rw [List.getElem?_take_of_lt hi] at hv
  exact h i v hv
 ·rw [List.getElem?_eq_none (by rw [List.length_take]; omega)] at hv
  cases hv
/-- the address is nobody's yet, at a heap of N blocks -/
def Fresh (N : Nat) (A : Option Addr) : Prop := ∀ a, A = some a → N ≤ a.block
/-- a row of the call's own -/
theorem own_at {w : World} {base : Nat} {e : TypeId} {size : Nat} {v : Value} {n : Nat} {xs : List Value} (h : w.ownsRow base e size v n xs) : ∃ A cap, v = .slice A n cap ∧ At w w.heap.size A xs ∧ Fresh base A ∧ n ≤ cap := by
 rcases hv : v.ownBlock with _ | g
 ·rcases h.2 with ⟨rfl, rfl⟩ | ⟨g, cap, cur, rfl, _⟩
  ·have : xs = [] := List.eq_nil_of_length_eq_zero (by rw [h.1]; simp)
   subst this
   exact ⟨none, 0, rfl, At.nil _ _ _, fun a ha => (by cases ha), Nat.le_refl _⟩
  ·simp [Value.ownBlock] at hv
 ·have hlt := (h.lt g hv).2
  have hcell := h.cells hv
  rcases h.2 with ⟨rfl, rfl⟩ | ⟨g', cap, cur, rfl, hg', _, hcap, _⟩
  ·simp [Value.ownBlock] at hv
  ·have hg : g' = g := by simpa [Value.ownBlock] using hv
   subst hg
   refine ⟨_, _, rfl, fun i u hu => ⟨g', 0, rfl, hlt, ?_⟩, fun a ha => by cases ha; exact hg', hcap⟩
   have := hcell i u hu
   rw [add_head] at this
   rw [Nat.zero_add]
   exact this
theorem some_at {α : Type} {l : List α} {k : Nat} (h : k < l.length) : ∃ x, l[k]? = some x := ⟨_, List.getElem?_eq_getElem h⟩
theorem mem_at {α : Type} {l : List α} {k : Nat} {x : α} (h : l[k]? = some x) : x ∈ l := List.mem_of_getElem? h
theorem below_drewN {B : Nat} {a w : World} (h : Below B a w) (n : Nat) : Below B a (w.drewN n) := ⟨h.os, h.tape, h.output, h.size, h.block⟩
theorem at_drewE {w w' : World} {B : Nat} {A : Option Addr} {xs : List Value} (h : At w B A xs) (hq : ∃ q, w' = w.drewN q) : At w' B A xs := by
 obtain ⟨q, rfl⟩ := hq
 exact h
end Go.Proofs.Ytojhenpaeedimaa
end
section
namespace Go.Proofs.Ytojhenpaeedimaa
namespace Ck
open Go.RowKit
open Pk Cr Ck
set_option maxRecDepth 100000
/-- one byte of a new block, as a string -/
theorem conv1 {w : World} {G : Nat} {b : UInt8} (h : w.cell? ⟨G, 0, none⟩ = some (.int .u8 (b.toNat : Int))) :
  (convert 42 9 (.slice (some ⟨G, 0, none⟩) 1 1)).run Try.prog w = .ok (.string (ba [b])) w := by
 refine run_convert_bytes_back _ 42 9 5 ⟨G, 0, none⟩ 1 [b] Try.underlying42 Try.underlying5 Try.underlying9 fun j hj => ?_
 match j, hj with
 | 0, _ => rw [Addr.add_lit]; exact h
end Ck
end Go.Proofs.Ytojhenpaeedimaa
end
