/-
  Who is above whom: the document's.
-/
import Derived.Test.YtbhejaokkkggjaaTi
namespace Go.Proofs.Ytbhejaokkkggjaa
open Go.RowKit Go.IntWalk
set_option maxRecDepth 100000
attribute [local go_sem] Oper.semAt_some

/-- is a above b within n steps -/
def abv (l : List Rw) (a : Int) : Nat → Int → Bool
  | 0, _ => false
  | n + 1, b => match fnd l b with
    | none => false
    | some r => if pa r = a then true else abv l a n (pa r)

theorem rfind_none {A : Option Addr} {cap : Nat} {l : List Rw} {c : Int} (h : fnd l c = none) (hl : l.length ≤ maxLen) {w : World} (hc : At w w.heap.size A (tvs l)) :
    Calls Try.prog 80 #[.slice A l.length cap, .int .i64 c] w fun e w' => e = .returned (.tuple #[.agg #[.int .i64 0, .int .i64 0, .string ⟨#[]⟩, .float .f64 0], .bool false]) ∧ Below w.heap.size w w' :=
  (rfind_c A cap l c hl w hc).mono fun e w' ⟨h1, h2⟩ => ⟨by rw [h1, h]; rfl, h2⟩
theorem rfind_some {A : Option Addr} {cap : Nat} {l : List Rw} {c : Int} {r : Rw} (h : fnd l c = some r) (hl : l.length ≤ maxLen) {w : World} (hc : At w w.heap.size A (tvs l)) :
    Calls Try.prog 80 #[.slice A l.length cap, .int .i64 c] w fun e w' => e = .returned (.tuple #[.agg #[.int .i64 (ch r), .int .i64 (pa r), .string (ba (nm r)), .float .f64 (rk r)], .bool true]) ∧ Below w.heap.size w w' :=
  (rfind_c A cap l c hl w hc).mono fun e w' ⟨h1, h2⟩ => ⟨by rw [h1, h]; rfl, h2⟩
set_option maxHeartbeats 4000000 in
theorem rabove_c (A : Option Addr) (cap : Nat) (l : List Rw) (a b : Int) (hl : l.length ≤ maxLen) (w : World) (hc : At w w.heap.size A (tvs l)) :
    Calls Try.prog 55 #[.slice A l.length cap, .int .i64 a, .int .i64 b] w fun e w' => e = .returned (.bool (abv l a l.length b)) ∧ Below w.heap.size w w' := by
  obtain ⟨R, hR⟩ : ∃ R, abv l a l.length b = R := ⟨_, rfl⟩
  rw [hR]
  have HR := Lib.hid hR
  have HC := Lib.hid hc
  have HL := Lib.hid hl
  unfold maxLen at hl
  clear hR hc
  go_enter Try.func55, Try.ntmps55
  go_wp2_with fail
  go_loopw [2, 7] (fun y i wr => ∃ (k : Nat) (c : Int), i = .int .i64 (k : Int) ∧ y = .int .i64 c ∧ k ≤ l.length ∧ abv l a (l.length - k) c = R ∧ Below w.heap.size w wr) (fun _ i _ => l.length - (intOf i).toNat)
  case atStart => exact ⟨0, b, rfl, rfl, Nat.zero_le _, HR.out, Below.refl _ _⟩
  case round =>
    obtain ⟨k, c, rfl, rfl, hk, hab, hbw⟩ := hrel
    by_cases hlt : k < l.length
    · have hcw := HC.out.keep hbw
      obtain ⟨m, hm⟩ : ∃ m, l.length - k = m + 1 := ⟨l.length - k - 1, by omega⟩
      rw [hm] at hab
      have HAB := Lib.hid hab
      have HM := Lib.hid hm
      clear hab hm
      cases hf : fnd l c with
      | none =>
        have HF := Lib.hid hf
        clear hf
        go_wp2_with fail
        refine (rfind_none HF.out HL.out hcw).mono ?_
        rintro e w1 ⟨rfl, hb1⟩
        have hbw1 := hbw.trans (hb1.mono hbw.size)
        clear hb1 hcw hbw
        go_wp2_with fail
        go_ret
        refine ⟨?_, hbw1.alloc hbw1.size _⟩
        have h := HAB.out
        rw [abv, HF.out] at h
        rw [← h]; rfl
      | some r =>
        have HF := Lib.hid hf
        clear hf
        by_cases hq : pa r = a
        · have hqb : (pa r == a) = true := by simpa using hq
          have HQ := Lib.hid hq
          clear hq
          go_wp2_with fail
          refine (rfind_some HF.out HL.out hcw).mono ?_
          rintro e w1 ⟨rfl, hb1⟩
          have hbw1 := hbw.trans (hb1.mono hbw.size)
          clear hb1 hcw hbw
          go_wp2_with fail
          go_ret
          refine ⟨?_, hbw1.alloc hbw1.size _⟩
          have h := HAB.out
          simp only [abv, HF.out, HQ.out, if_true] at h
          rw [← h]; rfl
        · have hqb : (pa r == a) = false := by simpa using hq
          have HQ := Lib.hid hq
          clear hq
          go_wp2_with fail
          refine (rfind_some HF.out HL.out hcw).mono ?_
          rintro e w1 ⟨rfl, hb1⟩
          have hbw1 := hbw.trans (hb1.mono hbw.size)
          clear hb1 hcw hbw
          go_wp2_with fail
          go_roundw
          case rel =>
            refine ⟨k + 1, pa r, by go_num, rfl, by omega, ?_, hbw1.alloc hbw1.size _⟩
            have h := HAB.out
            simp only [abv, HF.out, HQ.out, if_false] at h
            rw [show l.length - (k + 1) = m by have := HM.out; omega]
            exact h
          case measure => simp only [intOf]; omega
    · obtain rfl : k = l.length := by omega
      rw [Nat.sub_self] at hab
      have HAB := Lib.hid hab
      clear hab
      go_wp2_with fail
      go_ret
      exact ⟨by rw [← HAB.out]; rfl, hbw⟩
end Go.Proofs.Ytbhejaokkkggjaa
