/-
  Contracts at written values; what the document gives for answers (live of the layer chunk).
-/
import Derived.Test.YtcbkggjphoeceaaUg
import Derived.Test.YtcbkggjphoeceaaUj
namespace Go.Proofs.Ytcbkggjphoeceaa
open Go.RowKit Go.IntWalk
open Pk Cr Ck
set_option maxRecDepth 100000
attribute [local go_sem] Oper.semAt_some

theorem at_new (w : World) (t : TypeId) (xs : List Value) : At (w.alloc (.cells xs.toArray t)) (w.alloc (.cells xs.toArray t)).heap.size (some ⟨w.heap.size, 0, none⟩) xs := fun i v hv =>
  ⟨w.heap.size, 0, rfl, by simp, by rw [Nat.zero_add]; exact (is_cell (is_new w t xs) i).trans hv⟩

theorem join_k {v : Int} {A : Option Addr} {cap n : Nat} (l : List Chk) (S : ByteArray) (x : Int) (hn : n = l.length) (hT : ba (joinT v l) = S) (hE : joinE v l = x) (hF : (flat l).length ≤ 100000) (hl : l.length ≤ 1000) {w : World} (hc : At w w.heap.size A (cvs l)) :
    Calls Try.prog 10 #[.int .i64 v, .slice A n cap] w fun e w' => e = .returned (.tuple #[.string S, .int .i64 x]) ∧ Below w.heap.size w w' := by
  subst hn hT hE
  exact join_c v A cap l hF (by unfold maxLen; omega) w hc
theorem split_k {S : ByteArray} (s : List UInt8) (l : List Chk) (v x : Int) (hS : S = ba s) (hP : splitP s = (l, x)) (hV : splitV s = v) (hl : s.length ≤ 100000) (w : World) :
    Calls Try.prog 16 #[.string S] w fun e w' => ∃ A cap, e = .returned (.tuple #[.int .i64 v, .slice A l.length cap, .int .i64 x]) ∧ At w' w'.heap.size A (cvs l) ∧ Below w.heap.size w w' := by
  subst hS hV
  refine (split_c s hl w).mono ?_
  rintro e w' ⟨A, cap, he, ha, hb⟩
  rw [hP] at he ha
  exact ⟨A, cap, he, ha, hb⟩
theorem find_k {A : Option Addr} {cap n : Nat} (l : List Chk) (k : Int) (S : ByteArray) (b : Bool) (hn : n = l.length) (hS : ba ((find l k).getD []) = S) (hb : (find l k).isSome = b) (hl : l.length ≤ 1000) {w : World} (hc : At w w.heap.size A (cvs l)) :
    Calls Try.prog 12 #[.slice A n cap, .int .i64 k] w fun e w' => e = .returned (.tuple #[.string S, .bool b]) ∧ Below w.heap.size w w' := by
  subst hn hS hb
  exact find_c A cap l k (by unfold maxLen; omega) w hc
theorem version_kk {S : ByteArray} (s : List UInt8) (e v : Int) (hS : S = ba s) (he : verE s = e) (hv : verV s = v) (hs : s.length ≤ 1000) (w : World) :
    Calls Try.prog 18 #[.string S] w fun e' w' => e' = .returned (.tuple #[.int .i64 v, .int .i64 e]) ∧ w = w' := by
  subst hS
  exact version_k e v he hv (by omega) w
theorem one_kk {k : Int} {B : ByteArray} (b : List UInt8) (S : ByteArray) (hB : B = ba b) (hS : ba (one (k, b)) = S) (hb : b.length ≤ 1000) (w : World) :
    Calls Try.prog 14 #[.agg #[.int .i64 k, .string B]] w fun e w' => e = .returned (.string S) ∧ Below w.heap.size w w' := by
  subst hB hS
  exact one_c k b (by omega) w
theorem same11_k {A1 A2 : Option Addr} {c1 c2 n1 n2 : Nat} (xs ys : List Chk) (b : Bool) (h1 : n1 = xs.length) (h2 : n2 = ys.length) (hb : decide (xs = ys) = b) (hx : xs.length ≤ 1000) (hy : ys.length ≤ 1000) {w : World} (ha1 : At w w.heap.size A1 (cvs xs)) (ha2 : At w w.heap.size A2 (cvs ys)) :
    Calls Try.prog 20 #[.slice A1 n1 c1, .slice A2 n2 c2] w fun e w' => e = .returned (.bool b) ∧ Below w.heap.size w w' := by
  subst h1 h2 hb
  exact same11_c A1 A2 c1 c2 xs ys (by unfold maxLen; omega) (by unfold maxLen; omega) w ha1 ha2

theorem flat_count : ∀ l : List Chk, l.length ≤ (flat l).length
  | [] => by simp
  | c :: l => by have := flat_count l; have := one_len c; rw [flat, List.length_append, List.length_cons]; omega
theorem split_few (s : List UInt8) (hl : s.length ≤ 100000) : (splitP s).1.length ≤ 1000000 := by
  by_cases h : (splitP s).2 = 0
  · obtain ⟨h1, h2⟩ := split_join h
    have h3 := (join_split h1).2.2.1
    rw [h2] at h3
    have h4 := congrArg List.length h3
    have := flat_count (splitP s).1
    simp only [List.length_append, List.length_cons] at h4
    omega
  · rw [(split_err h).2]; simp
namespace live11
def L : List Chk := [(1, [97, 98]), (3, [])]
def O1 : List UInt8 := [1, 2, 97, 98, 133, 54, 38, 69]
def O2 : List UInt8 := [3, 0, 60, 65, 244, 106]
def F : List UInt8 := [66, 78, 83, 73, 2] ++ O1 ++ O2
theorem o1 : one (1, [97, 98]) = O1 := by
  have h : front (1, [97, 98]) = [1, 2, 97, 98].take 2 := by unfold front; rw [show ([97, 98] : List UInt8).length = 2 from rfl, put_lo (by omega)]; rfl
  unfold one stamp
  rw [h]
  decide
theorem o2 : one (3, []) = O2 := by
  have h : front (3, []) = [3, 0] := by unfold front; rw [show ([] : List UInt8).length = 0 from rfl, put_lo (by omega)]; rfl
  unfold one stamp
  rw [h]
  decide
theorem fl : flat L = O1 ++ O2 := by
  unfold L
  rw [flat, flat, flat, o1, o2]; rfl
theorem je : joinE 2 L = 0 := by decide
theorem jt : joinT 2 L = F := by rw [(join_split je).2.2.1, fl]; rfl
theorem sp : splitP F = (L, 0) := by rw [← jt]; exact (join_split je).1
theorem sv : splitV F = 2 := by rw [← jt]; exact (join_split je).2.1
theorem fll : (flat L).length = 14 := by rw [fl]; rfl
theorem jb : joinE 2 [(3, []), (3, [])] = 12 := by decide
theorem jbt : joinT 2 [(3, []), (3, [])] = [] := join_err (by rw [jb]; decide)
theorem jbl : (flat [(3, []), (3, [])]).length ≤ 100000 := by rw [flat, flat, flat, o2]; decide
theorem ja : joinE 256 [] = 1 := by decide
theorem jat : joinT 256 [] = [] := by decide
theorem sx : splitP [66, 78, 83, 88, 2] = ([], 7) := by decide
theorem sxv : splitV [66, 78, 83, 88, 2] = 0 := by decide
theorem sc : splitP [66, 78, 83, 73] = ([], 2) := by decide
theorem scv : splitV [66, 78, 83, 73] = 0 := by decide
theorem cut0 : cutE 3 [0, 60, 65, 244] = 2 := by decide +kernel
theorem st : splitP (F.take 18) = ([], 2) := by
  have h0 : verE (F.take 18) = 0 := by decide
  rw [split_in h0]
  have hd : (F.take 18).drop 5 = one (1, [97, 98]) ++ [3, 0, 60, 65, 244] := by rw [o1]; decide
  obtain ⟨r, e1, e2, e3, e4⟩ := cut_one (c := (1, [97, 98])) (by decide) (by decide) (by decide) [3, 0, 60, 65, 244]
  rw [hd, e1, show (F.take 18).length = 16 + 1 + 1 from by decide, cuts, e2, if_neg (by decide), if_neg (by decide), e4, cuts, cut0, if_pos (by decide)]
theorem stv : splitV (F.take 18) = 0 := by unfold splitV; rw [st]; rfl
theorem f1 : find L 1 = some [97, 98] := by decide
theorem f2 : find L 2 = none := by decide
end live11
end Go.Proofs.Ytcbkggjphoeceaa
