/-
  Contracts of package rank's Before and Less, and of the document's.
-/
import Derived.Test.YtaahfcljcejemaaBq
namespace Go.Proofs.Ytaahfcljcejemaa
open Go.RowKit
open Fl
set_option maxRecDepth 100000

/-- three blocks, laid one behind the other -/
def three (w : World) (A B C : Array Value) (T T2 : TypeId) : World := ((w.alloc (.cells A T)).alloc (.cells B T)).alloc (.cells C T2)
theorem three_facts (w : World) (A B C : Array Value) (T T2 : TypeId) :
    (∀ j, (three w A B C T T2).cell? ⟨w.heap.size, j, none⟩ = A[j]?) ∧ (∀ j, (three w A B C T T2).cell? ⟨w.heap.size + 1, j, none⟩ = B[j]?) ∧ (∀ j, (three w A B C T T2).cell? ⟨w.heap.size + 1 + 1, j, none⟩ = C[j]?) ∧
    w.heap.size + 1 + 1 < (three w A B C T T2).heap.size ∧ Below w.heap.size w (three w A B C T T2) := by
  have s1 : (w.alloc (.cells A T)).heap.size = w.heap.size + 1 := by simp
  have s2 : ((w.alloc (.cells A T)).alloc (.cells B T)).heap.size = w.heap.size + 1 + 1 := by simp
  have s3 : (three w A B C T T2).heap.size = w.heap.size + 1 + 1 + 1 := by simp [three]
  refine ⟨fun j => ?_, fun j => ?_, fun j => ?_, by omega, ?_⟩
  · unfold three
    rw [World.cell?_alloc_past _ _ _ (by omega), World.cell?_alloc_past _ _ _ (by omega), World.cell?_alloc_at _ _ _ _ rfl]
  · unfold three
    rw [World.cell?_alloc_past _ _ _ (by omega), World.cell?_alloc_at _ _ _ _ s1.symm]
  · unfold three
    rw [World.cell?_alloc_at _ _ _ _ s2.symm]
  · exact (((Below.refl _ _).alloc (Nat.le_refl _) _).alloc (by omega) _).alloc (by omega) _

theorem before_c (c1 r1 c2 r2 : Int) (w : World) :
    Calls Try.prog 39 #[.agg #[.int .i64 c1, .int .i64 r1], .agg #[.int .i64 c2, .int .i64 r2]] w fun e w' => e = .returned (.bool (decide (fr (ci c1 c2) (ci r1 r2) < 0))) ∧ Below w.heap.size w w' := by
  have hF := three_facts w #[.int .i64 c1, .int .i64 r1] #[.int .i64 c2, .int .i64 r2]
    #[.func (.func 55) #[] #[.pointer (some ⟨w.heap.size, 0, none⟩), .pointer (some ⟨w.heap.size + 1, 0, none⟩)], .func (.func 56) #[] #[.pointer (some ⟨w.heap.size, 0, none⟩), .pointer (some ⟨w.heap.size + 1, 0, none⟩)]] 43 58
  have HF := Lib.hid hF
  clear hF
  go_enter Try.func39, Try.ntmps39
  go_wp2_with fail
  obtain ⟨f1, f2, f3, f4, f5⟩ := HF.out
  refine (firstB_c (.pointer (some ⟨w.heap.size, 0, none⟩)) (.pointer (some ⟨w.heap.size + 1, 0, none⟩)) (w.heap.size + 1 + 1) (ci c1 c2) (ci r1 r2)
    (three w #[.int .i64 c1, .int .i64 r1] #[.int .i64 c2, .int .i64 r2]
      #[.func (.func 55) #[] #[.pointer (some ⟨w.heap.size, 0, none⟩), .pointer (some ⟨w.heap.size + 1, 0, none⟩)], .func (.func 56) #[] #[.pointer (some ⟨w.heap.size, 0, none⟩), .pointer (some ⟨w.heap.size + 1, 0, none⟩)]] 43 58)
    (f3 0) (f3 1) f4 ?_ ?_).mono ?_
  · intro wx hb
    refine (bef1_c w.heap.size (w.heap.size + 1) c1 c2 wx ((hb.cell (p := ⟨w.heap.size, 0, none⟩) (Nat.lt_of_succ_lt (Nat.lt_of_succ_lt f4))).trans (f1 0)) ((hb.cell (p := ⟨w.heap.size + 1, 0, none⟩) (Nat.lt_of_succ_lt f4)).trans (f2 0))).mono ?_
    rintro e w' ⟨rfl, rfl⟩
    exact ⟨rfl, hb⟩
  · intro wx hb
    refine (bef2_c w.heap.size (w.heap.size + 1) r1 r2 wx ((hb.cell (p := ⟨w.heap.size, 1, none⟩) (Nat.lt_of_succ_lt (Nat.lt_of_succ_lt f4))).trans (f1 1)) ((hb.cell (p := ⟨w.heap.size + 1, 1, none⟩) (Nat.lt_of_succ_lt f4)).trans (f2 1))).mono ?_
    rintro e w' ⟨rfl, rfl⟩
    exact ⟨rfl, hb⟩
  · rintro e w' ⟨rfl, hb⟩
    clear f1 f2 f3
    go_wp2
    go_ret
    exact ⟨rfl, f5.trans (hb.mono f5.size)⟩

theorem less_c (a1 p1 a2 p2 : Int) (n1 n2 : ByteArray) (x y : Nat) (hx : x < 18446744073709551616) (hy : y < 18446744073709551616) (w : World) :
    Calls Try.prog 37 #[.agg #[.int .i64 a1, .int .i64 p1, .string n1, .float .f64 x], .agg #[.int .i64 a2, .int .i64 p2, .string n2, .float .f64 y]] w fun e w' => e = .returned (.bool (decide (fr (cm (ky x) (ky y)) (ci a1 a2) < 0))) ∧ Below w.heap.size w w' := by
  have hF := three_facts w #[.int .i64 a1, .int .i64 p1, .string n1, .float .f64 x] #[.int .i64 a2, .int .i64 p2, .string n2, .float .f64 y]
    #[.func (.func 52) #[] #[.pointer (some ⟨w.heap.size, 0, none⟩), .pointer (some ⟨w.heap.size + 1, 0, none⟩)], .func (.func 53) #[] #[.pointer (some ⟨w.heap.size, 0, none⟩), .pointer (some ⟨w.heap.size + 1, 0, none⟩)]] 41 58
  have HF := Lib.hid hF
  clear hF
  go_enter Try.func37, Try.ntmps37
  go_wp2_with fail
  obtain ⟨f1, f2, f3, f4, f5⟩ := HF.out
  refine (firstL_c (.pointer (some ⟨w.heap.size, 0, none⟩)) (.pointer (some ⟨w.heap.size + 1, 0, none⟩)) (w.heap.size + 1 + 1) (cm (ky x) (ky y)) (ci a1 a2)
    (three w #[.int .i64 a1, .int .i64 p1, .string n1, .float .f64 x] #[.int .i64 a2, .int .i64 p2, .string n2, .float .f64 y]
      #[.func (.func 52) #[] #[.pointer (some ⟨w.heap.size, 0, none⟩), .pointer (some ⟨w.heap.size + 1, 0, none⟩)], .func (.func 53) #[] #[.pointer (some ⟨w.heap.size, 0, none⟩), .pointer (some ⟨w.heap.size + 1, 0, none⟩)]] 41 58)
    (f3 0) (f3 1) f4 ?_ ?_).mono ?_
  · intro wx hb
    refine (les1_c w.heap.size (w.heap.size + 1) x y hx hy wx ((hb.cell (p := ⟨w.heap.size, 3, none⟩) (Nat.lt_of_succ_lt (Nat.lt_of_succ_lt f4))).trans (f1 3)) ((hb.cell (p := ⟨w.heap.size + 1, 3, none⟩) (Nat.lt_of_succ_lt f4)).trans (f2 3))).mono ?_
    rintro e w' ⟨rfl, hb2⟩
    exact ⟨rfl, hb.trans (hb2.mono hb.size)⟩
  · intro wx hb
    refine (les2_c w.heap.size (w.heap.size + 1) a1 a2 wx ((hb.cell (p := ⟨w.heap.size, 0, none⟩) (Nat.lt_of_succ_lt (Nat.lt_of_succ_lt f4))).trans (f1 0)) ((hb.cell (p := ⟨w.heap.size + 1, 0, none⟩) (Nat.lt_of_succ_lt f4)).trans (f2 0))).mono ?_
    rintro e w' ⟨rfl, rfl⟩
    exact ⟨rfl, hb⟩
  · rintro e w' ⟨rfl, hb⟩
    clear f1 f2 f3
    go_wp2
    go_ret
    exact ⟨rfl, f5.trans (hb.mono f5.size)⟩
end Go.Proofs.Ytaahfcljcejemaa
