/-
 Words for bytes: a string of a list of bytes, its cells; rows of bytes that the call owns, as strings.
 Contracts of Put.
-/
import Derived.Test.YtojhenpaeedimaaRows
import Derived.Test.YtojhenpaeedimaaMa
import Derived.WalkKit
import Derived.WalkLawsBesides
import Derived.WalkSpells
import Derived.Lib.Hide
import Derived.Outline
import Derived.Laws.IdiomStrings
import Derived.Laws.BytesArg
import Derived.Deep.DeepFit
import Derived.Laws.BitsAllLaws
import Derived.Laws.Rows
import Derived.Deep.Draws
import Derived.WalkSmall
section
namespace Go.Proofs.Ytojhenpaeedimaa
open Go.RowKit
open Pk
set_option maxRecDepth 100000
/-- a list of bytes as a string -/
def ba (l : List UInt8) : ByteArray := ⟨l.toArray⟩
theorem ba_size (l : List UInt8) : (ba l).size = l.length := by simp [ba, ByteArray.size]
theorem ba_list (l : List UInt8) : (ba l).data.toList = l := rfl
theorem ba_of (s : ByteArray) : ba s.data.toList = s := by cases s; simp [ba]
theorem ba_get {l : List UInt8} {k : Nat} {b : UInt8} (h : l[k]? = some b) (hk : k < (ba l).size) : (ba l)[k] = b := by
 have h1 : (ba l)[k] = l[k]'(by simpa [ba_size] using hk) := rfl
 rw [h1]
 exact (List.getElem_eq_iff _).2 h
/-- a byte of a string -/
theorem index_ba {l : List UInt8} {k : Nat} {b : UInt8} (h : l[k]? = some b) (i : Int) (hi : i = (k : Int)) (wx : World) : (Instr.index 9 (.string (ba l)) (.int .i64 i)).run Try.prog wx = .ok (.int .u8 (b.toNat : Int)) wx := by
 subst hi
 have hk : k < l.length := (List.getElem?_eq_some_iff.1 h).1
 have hk2 : k < (ba l).size := by rw [ba_size]; exact hk
 have hg := ba_get h hk2
 rw [run_index_string wx 9 (ba l) .i64 (k : Int) Try.underlying9]
 simp [hk2, hg]
theorem ret_str {a b : ByteArray} (h : a = b) : Ending.returned (.string a) = .returned (.string b) := by rw [h]
theorem ret_int {k : IntKind} {a b : Int} (h : a = b) : Ending.returned (.int k a) = .returned (.int k b) := by rw [h]
theorem ret_bool {a b : Bool} (h : a = b) : Ending.returned (.bool a) = .returned (.bool b) := by rw [h]
/-- a byte as a cell -/
def bc (b : UInt8) : Value := .int .u8 (b.toNat : Int)
def bcs (l : List UInt8) : List Value := l.map bc
theorem bcs_len (l : List UInt8) : (bcs l).length = l.length := by simp [bcs]
theorem bcs_snoc (l : List UInt8) (b : UInt8) : bcs (l ++ [b]) = bcs l ++ [bc b] := by simp [bcs]
/-- a row of bytes of the call's own, as a string -/
theorem run_own_string {w : World} {base : Nat} {v : Value} {l : List UInt8} (hown : w.ownsRow base 5 1 v l.length (bcs l)) :
  (convert 42 9 v).run Try.prog w = .ok (.string (ba l)) w := by
 rcases hown.2 with ⟨rfl, h0⟩ | ⟨g, cap, cur, rfl, hg, hh, hn, hm, hs, hx⟩
 ·have : l = [] := List.eq_nil_of_length_eq_zero h0
  subst this
  exact run_convert_bytes_nil w 42 5 Try.underlying42 Try.underlying5 0 0 9 Try.underlying9
 ·refine run_convert_bytes_back w 42 9 5 ⟨g, 0, none⟩ cap l Try.underlying42 Try.underlying5 Try.underlying9 fun j hj => ?_
  have := hown.cells (g := g) rfl j (bc l[j]) (by simp [bcs, hj])
  exact this
theorem Try.info5 : (Try.prog.info? 5).map (fun i => (i.zero, i.size, i.bytes)) = some (some (.int .u8 0), 1, 1) := by kernel_rfl
/-- a byte of a number, with its highest bit -/
theorem bits_or128 : ∀ x : Nat, x < 256 → bits BinOp.or IntKind.u8 (x : Int) 128 = ((x % 128 + 128 : Nat) : Int) := by decide +kernel
theorem or128 (k : Nat) (b : UInt8) (h : b = UInt8.ofNat (k % 128 + 128)) : bits BinOp.or IntKind.u8 ((k : Int) % 256) 128 = (b.toNat : Int) := by
 subst h
 rw [Pk.ofNat_toNat_lt (by omega)]
 have e : ((k : Int) % 256) = ((k % 256 : Nat) : Int) := by omega
 rw [e, bits_or128 _ (by omega)]
 congr 2
 omega
theorem mod256 (k : Nat) (b : UInt8) (h : b = UInt8.ofNat (k % 256)) : (k : Int) % 256 = (b.toNat : Int) := by
 subst h
 rw [Pk.ofNat_toNat_lt (by omega)]
 omega
theorem plus128 (k : Nat) (b : UInt8) (h : b = UInt8.ofNat (k % 128 + 128)) : (k : Int) % 128 + 128 = (b.toNat : Int) := by
 subst h
 rw [Pk.ofNat_toNat_lt (by omega)]
 omega
theorem add_head (g j : Nat) : (⟨g, 0, none⟩ : Addr).add j = ⟨g, j, none⟩ := by unfold Addr.add; split <;> simp_all
/-- the one cell of a new block -/
theorem cell_one (w : World) (b : UInt8) (t : TypeId) : ∀ (j : Nat) (u : Value), [bc b][j]? = some u → (w.alloc (.cells #[.int .u8 (b.toNat : Int)] t)).cell? ((⟨w.heap.size, 0, none⟩ : Addr).add j) = some u := by
 intro j u hj
 match j, hj with
 | 0, hj =>
  simp at hj
  subst hj
  simp [Addr.add, bc]
theorem one_cell (b : UInt8) : ∀ u ∈ [bc b], u.oneCell' = true := by
 intro u hu
 simp at hu
 subst hu
 rfl
/-- a byte more -/
theorem own_snoc {w : World} {base : Nat} {v : Value} {xs : List UInt8} {b : UInt8} (h : w.ownsRow base 5 1 v (xs.length + 1) (bcs xs ++ [bc b])) :
  w.ownsRow base 5 1 v (xs ++ [b]).length (bcs (xs ++ [b])) := by
 rw [bcs_snoc, List.length_append]
 exact h
/-- an empty row that was made -/
theorem own_empty (w : World) : (w.alloc (.cells #[] 5)).ownsRow w.heap.size 5 1 (.slice (some ⟨w.heap.size, 0, none⟩) 0 0) 0 (bcs []) :=
 World.ownsRow_made w #[] 0 (Nat.le_refl _) (by unfold maxLen; omega) rfl
theorem below_grown_own {B : Nat} {w w1 w2 : World} {v : Value} {o : Obj} {n : Nat} {xs : List Value} (hb : Below B w w1) (hB : B ≤ w1.heap.size) (hown : w1.ownsRow B 5 1 v n xs) (hg : (w1.alloc o).grownBy w2 v.ownBlock) : Below B w w2 :=
 (hb.alloc hB o).grown hg (by simp; omega) (fun k hk => (hown.lt k hk).1)
/-- block g is whole the list l, of type t -/
def Is (w : World) (g : Nat) (t : TypeId) (l : List Value) : Prop := w.heap[g]? = some (.cells l.toArray t (0, 0))
theorem is_lt {w : World} {g : Nat} {t : TypeId} {l : List Value} (h : Is w g t l) : g < w.heap.size := by
 unfold Is at h
 exact (Array.getElem?_eq_some_iff.1 h).1
theorem is_cell {w : World} {g : Nat} {t : TypeId} {l : List Value} (h : Is w g t l) (i : Nat) : w.cell? ⟨g, i, none⟩ = l[i]? := by
 have := cell_of_row w g i l.toArray t (0, 0) h
 simpa using this
theorem is_at {w : World} {g : Nat} {t : TypeId} {l : List Value} (h : Is w g t l) {i : Nat} (hi : i < l.length) : ∃ u, w.cell? ⟨g, i, none⟩ = some u :=
 ⟨l[i], by rw [is_cell h, List.getElem?_eq_getElem hi]⟩
theorem is_free {w : World} {g : Nat} {t : TypeId} {l : List Value} (h : Is w g t l) (i : Nat) : w.frozen? ⟨g, i, none⟩ = false := by
 unfold Is at h
 simp [World.frozen?, h]
theorem is_new (w : World) (t : TypeId) (l : List Value) : Is (w.alloc (.cells l.toArray t)) w.heap.size t l := heap_alloc_new w _
theorem is_set {w : World} {g : Nat} {t : TypeId} {l : List Value} (h : Is w g t l) (i : Nat) (u : Value) : Is (w.setCell ⟨g, i, none⟩ u) g t (l.set i u) := by
 have := heap_setCell_same w g i l.toArray t u h
 simpa [Is] using this
theorem is_far {w : World} {g : Nat} {t : TypeId} {l : List Value} (h : Is w g t l) (a : Addr) (hne : g ≠ a.block) (u : Value) : Is (w.setCell a u) g t l :=
 (heap_setCell_other w a g u hne).trans h
theorem is_alloc {w : World} {g : Nat} {t : TypeId} {l : List Value} (h : Is w g t l) (o : Obj) : Is (w.alloc o) g t l :=
 (Below.heap_alloc w o g (is_lt h)).trans h
theorem is_drew {w : World} {g : Nat} {t : TypeId} {l : List Value} (h : Is w g t l) : Is w.drew g t l := h
theorem is_below {B : Nat} {w w' : World} {g : Nat} {t : TypeId} {l : List Value} (h : Is w g t l) (hb : Below B w w') (hg : g < B) : Is w' g t l := (hb.block g hg).trans h
theorem is_grown {w w' : World} {g : Nat} {t : TypeId} {l : List Value} {row : Option Nat} (h : Is w g t l) (hb : w.grownBy w' row) (hg : some g ≠ row) : Is w' g t l := (hb.block g (is_lt h) hg).trans h
theorem shr8 (n k : Nat) (b : UInt8) (h : b = UInt8.ofNat (n / 256 ^ k % 256)) : (n : Int) / 2 ^ (8 * k) % 256 = (b.toNat : Int) := by
 subst h
 rw [Pk.ofNat_toNat_lt (by omega)]
 have e : ((2 : Int) ^ (8 * k)) = ((256 ^ k : Nat) : Int) := by
  have h2 : (2 : Nat) ^ (8 * k) = 256 ^ k := by rw [Nat.pow_mul]
  rw [← h2]; simp
 rw [e]
 omega
theorem or_add {y x k : Nat} (hy : y < 2 ^ k) : y ||| (x * 2 ^ k) = y + x * 2 ^ k := by
 have h := Nat.two_pow_add_eq_or_of_lt hy x
 rw [Nat.or_comm, Nat.mul_comm, ← h, Nat.add_comm]
end Go.Proofs.Ytojhenpaeedimaa
end
section
namespace Go.Proofs.Ytojhenpaeedimaa
open Go.RowKit
open Pk
set_option maxRecDepth 100000
theorem put_c (n : Nat) (hn : n < 18446744073709551616) (w : World) :
  Calls Try.prog 19 #[.int .u64 (n : Int)] w fun e w' => e = .returned (.string (ba (put n))) ∧ Below w.heap.size w w' := by
 obtain ⟨i0, hi, hz0, hz1, hz2⟩ := info_parts Try.info5
 have hlen := put_len10 hn
 go_enter Try.func19, Try.ntmps19
 go_wp2
 go_loopw [0, 3] (fun m v wr => ∃ (k : Nat) (xs : List UInt8), m = .int .u64 (k : Int) ∧ k ≤ n ∧ wr.ownsRow w.heap.size 5 1 v xs.length (bcs xs) ∧ xs ++ put k = put n ∧ Below w.heap.size w wr)
  (fun m _ _ => (Go.RowKit.intOf m).toNat)
 case atStart => exact ⟨n, [], rfl, Nat.le_refl _, World.ownsRow_nil _ _ _ _, rfl, Below.refl _ _⟩
 case round =>
  obtain ⟨k, xs, rfl, hk, hown, hput, hb⟩ := hrel
  have hb0 := hb.size
  have hx := congrArg List.length hput
  rw [List.length_append] at hx
  have hx1 := put_len_pos k
  have HP := Lib.hid hput
  have hxl : xs.length ≤ 10 := by omega
  clear hput hx hx1 hlen
  by_cases hlt : k < 128
  ·obtain ⟨b, rfl⟩ : ∃ b : UInt8, k = b.toNat := ⟨UInt8.ofNat k, (ofNat_toNat_lt (by omega)).symm⟩
   go_wp2_with (at_builtin; refine wpList_append_own _ rfl (.tmp 14) (.tmp 17) 42 rfl w.heap.size 5 i0 (.int .u8 0) 1 1 Try.underlying42 hi hz0 hz1 hz2 rfl (by decide) _ _ _ rfl (hown.alloc _) ⟨wr.heap.size, 0, none⟩ 1 1 [bc b] rfl rfl (cell_one _ _ _) (one_cell b) ?c3 ?c4 ?c5 ?_)
   case c3 => unfold maxLen; omega
   case c4 => omega
   case c5 => simp; omega
   intro v' w1 hown' hgrow _
   have hb1 := below_grown_own hb hb0 hown hgrow
   have hstr := run_own_string (own_snoc hown')
   have e1 : put n = xs ++ [b] := by rw [← HP.out, put_byte hlt]
   have HE := Lib.hid e1
   clear hown hown' hgrow e1 hb
   go_wp2
   go_ret
   exact ⟨ret_str (by rw [HE.out]), hb1⟩
  ·obtain ⟨b, hbe⟩ : ∃ b : UInt8, b = UInt8.ofNat (k % 128 + 128) := ⟨_, rfl⟩
   have hcv := or128 k b hbe
   have HBE := Lib.hid hbe
   clear hbe
   go_wp2_with (at_builtin; refine wpList_append_own _ rfl (.tmp 6) (.tmp 10) 42 rfl w.heap.size 5 i0 (.int .u8 0) 1 1 Try.underlying42 hi hz0 hz1 hz2 rfl (by decide) _ _ _ rfl (hown.alloc _) ⟨wr.heap.size, 0, none⟩ 1 1 [bc b] rfl rfl (cell_one _ _ _) (one_cell b) ?c3 ?c4 ?c5 ?_)
   case c3 => unfold maxLen; omega
   case c4 => omega
   case c5 => simp; omega
   intro v' w1 hown' hgrow _
   have hb1 := below_grown_own hb hb0 hown hgrow
   have ho1 := own_snoc hown'
   have e1 : (xs ++ [b]) ++ put (k / 128) = put n := by rw [← HP.out, put_hi (n := k) (by omega), HBE.out, List.append_assoc]; rfl
   have HE := Lib.hid e1
   clear hcv hown hown' hgrow e1 hb
   go_wp2
   go_roundw
   case rel => exact ⟨k / 128, xs ++ [b], by go_num, by omega, ho1, HE.out, hb1⟩
   case measure => simp [Go.RowKit.intOf]; omega
theorem rPut_c (n : Nat) (hn : n < 18446744073709551616) (w : World) :
  Calls Try.prog 24 #[.int .u64 (n : Int)] w fun e w' => e = .returned (.string (ba (put n))) ∧ Below w.heap.size w w' := by
 obtain ⟨i0, hi, hz0, hz1, hz2⟩ := info_parts Try.info5
 have hlen := put_len10 hn
 go_enter Try.func24, Try.ntmps24
 go_wp2
 go_loopw [0, 3] (fun m v wr => ∃ (k : Nat) (xs : List UInt8), m = .int .u64 (k : Int) ∧ k ≤ n ∧ wr.ownsRow w.heap.size 5 1 v xs.length (bcs xs) ∧ xs ++ put k = put n ∧ Below w.heap.size w wr)
  (fun m _ _ => (Go.RowKit.intOf m).toNat)
 case atStart => exact ⟨n, [], rfl, Nat.le_refl _, own_empty w, rfl, (Below.refl _ _).alloc (Nat.le_refl _) _⟩
 case round =>
  obtain ⟨k, xs, rfl, hk, hown, hput, hb⟩ := hrel
  have hb0 := hb.size
  have hx := congrArg List.length hput
  rw [List.length_append] at hx
  have hx1 := put_len_pos k
  have HP := Lib.hid hput
  have hxl : xs.length ≤ 10 := by omega
  clear hput hx hx1 hlen
  by_cases hlt : k < 128
  ·obtain ⟨b, rfl⟩ : ∃ b : UInt8, k = b.toNat := ⟨UInt8.ofNat k, (ofNat_toNat_lt (by omega)).symm⟩
   go_wp2_with (at_builtin; refine wpList_append_own _ rfl (.tmp 16) (.tmp 19) 42 rfl w.heap.size 5 i0 (.int .u8 0) 1 1 Try.underlying42 hi hz0 hz1 hz2 rfl (by decide) _ _ _ rfl (hown.alloc _) ⟨wr.heap.size, 0, none⟩ 1 1 [bc b] rfl rfl (cell_one _ _ _) (one_cell b) ?c3 ?c4 ?c5 ?_)
   case c3 => unfold maxLen; omega
   case c4 => omega
   case c5 => simp; omega
   intro v' w1 hown' hgrow _
   have hb1 := below_grown_own hb hb0 hown hgrow
   have hstr := run_own_string (own_snoc hown')
   have e1 : put n = xs ++ [b] := by rw [← HP.out, put_byte hlt]
   have HE := Lib.hid e1
   clear hown hown' hgrow e1 hb
   go_wp2
   go_ret
   exact ⟨ret_str (by rw [HE.out]), hb1⟩
  ·obtain ⟨b, hbe⟩ : ∃ b : UInt8, b = UInt8.ofNat (k % 128 + 128) := ⟨_, rfl⟩
   have hcv := plus128 k b hbe
   have HBE := Lib.hid hbe
   clear hbe
   go_wp2_with (at_builtin; refine wpList_append_own _ rfl (.tmp 7) (.tmp 12) 42 rfl w.heap.size 5 i0 (.int .u8 0) 1 1 Try.underlying42 hi hz0 hz1 hz2 rfl (by decide) _ _ _ rfl (hown.alloc _) ⟨wr.heap.size, 0, none⟩ 1 1 [bc b] rfl rfl (cell_one _ _ _) (one_cell b) ?c3 ?c4 ?c5 ?_)
   case c3 => unfold maxLen; omega
   case c4 => omega
   case c5 => simp; omega
   intro v' w1 hown' hgrow _
   have hb1 := below_grown_own hb hb0 hown hgrow
   have ho1 := own_snoc hown'
   have e1 : (xs ++ [b]) ++ put (k / 128) = put n := by rw [← HP.out, put_hi (n := k) (by omega), HBE.out, List.append_assoc]; rfl
   have HE := Lib.hid e1
   clear hcv hown hown' hgrow e1 hb
   go_wp2
   go_roundw
   case rel => exact ⟨k / 128, xs ++ [b], by go_num, by omega, ho1, HE.out, hb1⟩
   case measure => simp [Go.RowKit.intOf]; omega
end Go.Proofs.Ytojhenpaeedimaa
end
