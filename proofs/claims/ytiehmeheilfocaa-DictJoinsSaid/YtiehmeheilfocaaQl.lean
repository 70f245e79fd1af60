/-
  The contracts at written lengths; the live answers of runs.
-/
import Derived.Test.YtiehmeheilfocaaQj
import Derived.Test.YtiehmeheilfocaaQk
import Derived.Test.YtiehmeheilfocaaRj
namespace Go.Proofs.Ytiehmeheilfocaa
open Go.RowKit Go.IntWalk
open Pk
set_option maxRecDepth 100000
attribute [local go_sem] Oper.semAt_some

theorem runs_k {A : Option Addr} {cap n m : Nat} (xs : List Nat) (r : List Run) (hr : runsL xs = r) (hn : xs.length = n) (hm : r.length = m) (hx : n ≤ 100000) {w : World} (hc : At w w.heap.size A (uvs xs)) :
    Calls Try.prog 68 #[.slice A n cap] w fun e w' => ∃ A' cap', e = .returned (.slice A' m cap') ∧ At w' w'.heap.size A' (rvs r) ∧ Below w.heap.size w w' := by
  subst hr; subst hn; subst hm
  refine (runs_c A cap xs hx w hc).mono ?_
  rintro e w' ⟨A', cap', rfl, -, -, ha, hb⟩
  exact ⟨A', cap', rfl, ha, hb⟩
theorem rruns_k {A : Option Addr} {cap n m : Nat} (xs : List Nat) (r : List Run) (hr : runsL xs = r) (hn : xs.length = n) (hm : r.length = m) (hx : n ≤ 100000) {w : World} (hc : At w w.heap.size A (uvs xs)) :
    Calls Try.prog 69 #[.slice A n cap] w fun e w' => ∃ A' cap', e = .returned (.slice A' m cap') ∧ At w' w'.heap.size A' (rvs r) ∧ Below w.heap.size w w' := by
  subst hr; subst hn; subst hm
  refine (rruns_c A cap xs hx w hc).mono ?_
  rintro e w' ⟨A', cap', rfl, -, -, ha, hb⟩
  exact ⟨A', cap', rfl, ha, hb⟩
theorem udecode_k (l : List UInt8) (n : Int) (ys : List Nat) (x : Int) (k : Nat) (h : decU l n = (ys, x)) (hk : ys.length = k) (hn1 : -9223372036854775808 ≤ n) (hn2 : n ≤ 9223372036854775807) (hl : l.length ≤ 100000) (w : World) :
    Calls Try.prog 60 #[.string (ba l), .int .i64 n] w fun e w' => ∃ A cap, e = .returned (.tuple #[.slice A k cap, .int .i64 x]) ∧ At w' w'.heap.size A (uvs ys) ∧ Below w.heap.size w w' := by
  subst hk
  refine (udecode_c l n hn1 hn2 hl w).mono ?_
  rintro e w' ⟨A, cap, rfl, -, -, ha, hb⟩
  rw [h] at ha ⊢
  exact ⟨A, cap, rfl, ha, hb⟩
theorem urdecode_k (l : List UInt8) (n : Int) (ys : List Nat) (x : Int) (k : Nat) (h : decU l n = (ys, x)) (hk : ys.length = k) (hn1 : -9223372036854775808 ≤ n) (hn2 : n ≤ 9223372036854775807) (hl : l.length ≤ 100000) (w : World) :
    Calls Try.prog 62 #[.string (ba l), .int .i64 n] w fun e w' => ∃ A cap, e = .returned (.tuple #[.slice A k cap, .int .i64 x]) ∧ At w' w'.heap.size A (uvs ys) ∧ Below w.heap.size w w' := by
  subst hk
  refine (urdecode_c l n hn1 hn2 hl w).mono ?_
  rintro e w' ⟨A, cap, rfl, -, -, ha, hb⟩
  rw [h] at ha ⊢
  exact ⟨A, cap, rfl, ha, hb⟩
theorem uencode_k {A : Option Addr} {cap n : Nat} (xs : List Nat) (hn : xs.length = n) (hx : n ≤ 100000) (hxn : Nums xs) {w : World} (hc : At w w.heap.size A (uvs xs)) :
    Calls Try.prog 56 #[.slice A n cap] w fun e w' => e = .returned (.string (ba (encU xs))) ∧ Below w.heap.size w w' := by
  subst hn; exact uencode_c A cap xs hx hxn w hc
theorem urencode_k {A : Option Addr} {cap n : Nat} (xs : List Nat) (hn : xs.length = n) (hx : n ≤ 100000) (hxn : Nums xs) {w : World} (hc : At w w.heap.size A (uvs xs)) :
    Calls Try.prog 58 #[.slice A n cap] w fun e w' => e = .returned (.string (ba (encU xs))) ∧ Below w.heap.size w w' := by
  subst hn; exact urencode_c A cap xs hx hxn w hc
theorem same6_k {A1 A2 : Option Addr} {c1 c2 n m : Nat} (xs ys : List Nat) (hn : xs.length = n) (hm : ys.length = m) (hx : n ≤ 100000) (hy : m ≤ 100000) {w : World} (h1 : At w w.heap.size A1 (uvs xs)) (h2 : At w w.heap.size A2 (uvs ys)) :
    Calls Try.prog 33 #[.slice A1 n c1, .slice A2 m c2] w fun e w' => e = .returned (.bool (decide (xs = ys))) ∧ Below w.heap.size w w' := by
  subst hn; subst hm; exact same6_c A1 A2 c1 c2 xs ys (by unfold maxLen; omega) (by unfold maxLen; omega) w h1 h2
namespace live6
theorem r1 : runsL [7, 7, 0] = [(7, 2), (0, 1)] := rfl
theorem e1 : encU [7, 7, 0] = [7, 2, 0, 1] := by
  have h1 : put 7 = [7] := by rw [put_lo (by omega)]; rfl
  have h2 : put 2 = [2] := by rw [put_lo (by omega)]; rfl
  have h3 : put 0 = [0] := by rw [put_lo (by omega)]; rfl
  have h4 : put 1 = [1] := by rw [put_lo (by omega)]; rfl
  unfold encU
  rw [r1, encR_cons, encR_cons, encR_nil, show (2 : Int).toNat = 2 from rfl, show (1 : Int).toNat = 1 from rfl, h1, h2, h3, h4]
  rfl
theorem nums : Nums [7, 7, 0] := fun x hx => by simp at hx; rcases hx with rfl | rfl | rfl <;> omega
theorem d3 : decU [7, 2, 0, 1] 3 = ([7, 7, 0], 0) := by
  have := decU_enc nums (by decide)
  rw [e1] at this
  exact this
theorem d2 : decU [7, 2, 0, 1] 2 = ([], 5) := rfl
theorem d7 : decU [7, 1, 7, 1] 2 = ([], 5) := rfl
theorem dc : decU [7] 1 = ([], 2) := rfl
theorem dg : decU [] 4097 = ([], 10) := rfl
theorem s3 : sprV [(7, 2), (0, 1)] 3 = ([7, 7, 0], true) := rfl
theorem s2 : sprV [(7, 2), (0, 1)] 2 = ([], false) := rfl
theorem ri : ∀ x ∈ ([(7, 2), (0, 1)] : List Run), In64 x.2 := fun x hx => by simp at hx; rcases hx with rfl | rfl <;> (unfold In64; omega)
end live6
end Go.Proofs.Ytiehmeheilfocaa
