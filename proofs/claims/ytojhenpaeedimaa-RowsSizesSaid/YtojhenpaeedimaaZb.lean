/-
 A Builder under way: its bytes, and what stays beside it.
-/
import Derived.Test.YtojhenpaeedimaaBs
import Derived.Test.YtojhenpaeedimaaCue
import Derived.WalkKit
namespace Go.Proofs.Ytojhenpaeedimaa
open Go.RowKit Go.IntWalk
set_option maxRecDepth 100000
/-- the Builder at b holds L; of what lay in w0, below B, nothing else is turned -/
structure Bd (w0 : World) (B b : Nat) (L : List UInt8) (W : World) : Prop where
 bld : Bld W B b L
 but : But B b w0 W
 sz : B ≤ W.heap.size
 lt : b < B
theorem Bd.start {w w0 : World} (hb : Below (w.alloc (.cells #[.pointer none, .slice none 0 0] 45)).heap.size (w.alloc (.cells #[.pointer none, .slice none 0 0] 45)) w0) : Bd w0 w0.heap.size w.heap.size [] w0 :=
 ⟨bld_grown (bld_new w _) hb, But.refl _ _ _, Nat.le_refl _, by have := hb.size; rw [World.size_alloc] at this; omega⟩
theorem Bd.step {w0 : World} {B b : Nat} {L : List UInt8} {W W' : World} (h : Bd w0 B b L W) (hb : Below W.heap.size W W') : Bd w0 B b L W' :=
 ⟨bld_grown h.bld hb, h.but.trans (but_below (b := b) (hb.mono h.sz)), Nat.le_trans h.sz hb.size, h.lt⟩
theorem bwrite_v {w0 : World} {B b : Nat} {L s : List UInt8} {W : World} (h : Bd w0 B b L W) (hl : L.length + s.length ≤ 140737488355328) :
  Calls Try.prog 18 #[.pointer (some ⟨b, 0, none⟩), .string (ba s)] W fun e w' => e = .returned (.tuple #[.int .i64 s.length, .nilIface]) ∧ Bd w0 B b (L ++ s) w' :=
 (write_c B b L s W h.bld hl h.sz).mono fun e w' hh => ⟨hh.1, hh.2.1, h.but.trans hh.2.2.1, Nat.le_trans h.sz hh.2.2.1.size, h.lt⟩
theorem bstring_v {w0 : World} {B b : Nat} {L : List UInt8} {W : World} (h : Bd w0 B b L W) :
  Calls Try.prog 23 #[.pointer (some ⟨b, 0, none⟩)] W fun e w' => e = .returned (.string (ba L)) ∧ Below b W w' :=
 string_c B b b L W h.bld (Nat.le_of_lt h.lt) (Nat.le_refl _)
theorem Bd.cell {w0 : World} {B b : Nat} {L : List UInt8} {W : World} (h : Bd w0 B b L W) {p : Addr} (hp : p.block < B) (hne : p.block ≠ b) : W.cell? p = w0.cell? p := World.cell?_of_block (a := p) (h.but.block _ hp hne)
theorem Bd.below {w w0 : World} {B b : Nat} {L : List UInt8} {W : World} (h : Bd w0 B b L W) (hw : Below w.heap.size w w0) (hB : w.heap.size ≤ B) (hb : w.heap.size ≤ b) : Below w.heap.size w W := hw.trans (h.but.below hB hb)
/-- what lay there ahead of the Builder lies there still -/
theorem Bd.at_ {w w0 : World} {B b : Nat} {L : List UInt8} {W : World} {A : Option Addr} {xs : List Value} (hd : Bd w0 B b L W) (hw : Below w.heap.size w w0) (hb : w.heap.size ≤ b) (h : At w w.heap.size A xs) : At W W.heap.size A xs :=
 h.keep (hd.below hw (by have := hd.lt; omega) hb)
end Go.Proofs.Ytojhenpaeedimaa
