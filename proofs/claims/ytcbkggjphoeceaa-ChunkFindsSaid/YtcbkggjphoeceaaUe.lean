/-
  A file's version; the chunk of a kind; few chunks; two lists of chunks held against each other.
-/
import Derived.Test.YtcbkggjphoeceaaUd
namespace Go.Proofs.Ytcbkggjphoeceaa
open Go.RowKit Go.IntWalk
open Pk Cr Ck
set_option maxRecDepth 100000
attribute [local go_sem] Oper.semAt_some

theorem prefix_k {m : ByteArray} (hm : m = ba magic) (t : Bool) (s : List UInt8) (ht : decide (s.take 4 = magic) = t) (hs : s.length ≤ 9223372036854775807) (w : World) :
    Calls Try.prog 35 #[.string (ba s), .string m] w fun e w' => e = .returned (.bool t) ∧ w = w' := by
  subst hm ht
  exact prefix_c s hs w

theorem version_c (s : List UInt8) (hs : s.length ≤ 9223372036854775807) (w : World) :
    Calls Try.prog 18 #[.string (ba s)] w (VerEnd s w) := by
  have hz := ba_size s
  by_cases h : s.take 4 = magic
  · have HH := Lib.hid h
    have ht : decide (s.take 4 = magic) = true := decide_eq_true h
    clear h
    by_cases hl : s.length < 5
    · go_enter Try.func18, Try.ntmps18
      go_wp2_with fail
      refine (prefix_k rfl true s ht hs _).mono ?_
      rintro e w1 ⟨rfl, rfl⟩
      clear ht
      go_wp2
      go_ret2
      exact verEnd_cut HH.out hl
    · obtain ⟨b, hb⟩ : ∃ b, s[4]? = some b := ⟨s[4], by simp⟩
      have hidx := index_ba hb 4 rfl
      have HB := Lib.hid hb
      have hbt : b.toNat ≤ 255 := by have := b.toNat_lt; omega
      have hlt : (4 : Int) < (s.length : Int) := by omega
      clear hb
      go_enter Try.func18, Try.ntmps18
      go_wp2_with fail
      refine (prefix_k rfl true s ht hs _).mono ?_
      rintro e w1 ⟨rfl, rfl⟩
      clear ht
      go_wp2
      go_ret2
      exact verEnd_ok HH.out (by omega) HB.out
  · have HH := Lib.hid h
    have ht : decide (s.take 4 = magic) = false := decide_eq_false h
    clear h
    go_enter Try.func18, Try.ntmps18
    go_wp2_with fail
    refine (prefix_k rfl false s ht hs _).mono ?_
    rintro e w1 ⟨rfl, rfl⟩
    clear ht
    go_wp2
    go_ret2
    exact verEnd_magic HH.out

theorem rversion_c (s : List UInt8) (hs : s.length ≤ 9223372036854775807) (w : World) :
    Calls Try.prog 19 #[.string (ba s)] w (VerEnd s w) := by
  have hz := ba_size s
  have hx := extract_take s 4
  have hq := ba_beq (s.take 4) magic
  have hq2 : ((ba (s.take 4)).toList == [66, 78, 83, 73]) = decide (s.take 4 = magic) := by
    rw [← hq, ByteArray.toList_eq (ba magic), ba_list]; rfl
  clear hq
  by_cases h4 : s.length < 4
  · have hne : s.take 4 ≠ magic := fun e => by
      have := congrArg List.length e
      rw [List.length_take] at this
      simp [magic] at this
      omega
    have HH := Lib.hid hne
    clear hne hq2
    have hd : decide ((s.length : Int) < 4) = true := decide_eq_true (by omega)
    go_enter Try.func19, Try.ntmps19
    go_wp2
    go_ret2
    exact verEnd_magic HH.out
  · have h4i : (4 : Int) ≤ (s.length : Int) := by omega
    have hd : decide ((s.length : Int) < 4) = false := decide_eq_false (by omega)
    by_cases h : s.take 4 = magic
    · have HH := Lib.hid h
      rw [decide_eq_true h] at hq2
      have hq3 : (!((ba (s.take 4)).toList == [66, 78, 83, 73])) = false := by rw [hq2]; rfl
      clear h
      by_cases hl : s.length < 5
      · go_enter Try.func19, Try.ntmps19
        go_wp2
        go_ret2
        exact verEnd_cut HH.out hl
      · obtain ⟨b, hb⟩ : ∃ b, s[4]? = some b := ⟨s[4], by simp⟩
        have hidx := index_ba hb 4 rfl
        have HB := Lib.hid hb
        have hbt : b.toNat ≤ 255 := by have := b.toNat_lt; omega
        have hlt : (4 : Int) < (s.length : Int) := by omega
        clear hb
        go_enter Try.func19, Try.ntmps19
        go_wp2
        go_ret2
        exact verEnd_ok HH.out (by omega) HB.out
    · have HH := Lib.hid h
      rw [decide_eq_false h] at hq2
      have hq3 : (!((ba (s.take 4)).toList == [66, 78, 83, 73])) = true := by rw [hq2]; rfl
      clear h
      go_enter Try.func19, Try.ntmps19
      go_wp2
      go_ret2
      exact verEnd_magic HH.out

/-- the body of the first chunk of that kind, and whether there is one -/
def FindEnd (l : List Chk) (k : Int) (w : World) (e : Ending) (w' : World) : Prop := e = .returned (.tuple #[.string (ba ((find l k).getD [])), .bool (find l k).isSome]) ∧ Below w.heap.size w w'
theorem find_step {l : List Chk} {i : Nat} {k : Int} {c : Chk} (h : l[i]? = some c) : find (l.drop i) k = if c.1 = k then some c.2 else find (l.drop (i + 1)) k := by
  have hk := (List.getElem?_eq_some_iff.1 h).1
  have hc := (List.getElem?_eq_some_iff.1 h).2
  rw [List.drop_eq_getElem_cons hk, hc]
  unfold find
  rw [List.find?_cons]
  by_cases e : c.1 = k
  · rw [beq_iff_eq.2 e, if_pos e]; rfl
  · rw [beq_eq_false_iff_ne.2 e, if_neg e]

set_option maxHeartbeats 2000000 in
theorem find_c (A : Option Addr) (cap : Nat) (l : List Chk) (k : Int) (hl : l.length ≤ maxLen) (w : World) (hc : At w w.heap.size A (cvs l)) :
    Calls Try.prog 12 #[.slice A l.length cap, .int .i64 k] w (FindEnd l k w) := by
  unfold maxLen at hl
  obtain ⟨r, hr⟩ : ∃ r, r = find l k := ⟨_, rfl⟩
  unfold FindEnd
  rw [← hr]
  have HR := Lib.hid hr
  have HC := Lib.hid hc
  clear hr hc
  go_enter Try.func12, Try.ntmps12
  go_wp2_with fail
  go_loopw [10] (fun i wr => ∃ j : Nat, i = .int .i64 (j : Int) ∧ j ≤ l.length ∧ find (l.drop j) k = r ∧ Below w.heap.size w wr)
    (fun i _ => l.length - (intOf i).toNat)
  case atStart => exact ⟨0, rfl, Nat.zero_le _, HR.out.symm, Below.refl _ _⟩
  case round =>
    obtain ⟨j, rfl, hj, hf, hb⟩ := hrel
    have hbs := hb.size
    by_cases hlt : j < l.length
    · obtain ⟨c, hcj⟩ := some_at hlt
      obtain ⟨b0, o0, rfl, hb0, c0, c1⟩ := chunk_cells (HC.out.below hb) hcj
      rw [find_step hcj] at hf
      have HF := Lib.hid hf
      clear hf hcj
      by_cases hk : c.1 = k
      · have HK := Lib.hid hk
        rw [hk] at c0
        clear hk
        go_wp2_with fail
        go_ret2
        have := HF.out
        rw [if_pos HK.out] at this
        rw [← this]
        exact ⟨rfl, hb.alloc hbs _⟩
      · have hne : (c.1 == k) = false := beq_eq_false_iff_ne.2 hk
        have HK := Lib.hid hk
        clear hk
        go_wp2_with fail
        go_roundw
        case rel => exact ⟨j + 1, by go_num, by omega, by rw [← HF.out, if_neg HK.out], hb.alloc hbs _⟩
        case measure => simp only [intOf]; omega
    · obtain rfl : j = l.length := by omega
      have HF := Lib.hid hf
      clear hf
      go_wp2_with fail
      go_ret2
      have := HF.out
      rw [List.drop_length] at this
      rw [← this]
      exact ⟨rfl, hb⟩

set_option maxHeartbeats 2000000 in
theorem rfind_c (A : Option Addr) (cap : Nat) (l : List Chk) (k : Int) (hl : l.length ≤ maxLen) (w : World) (hc : At w w.heap.size A (cvs l)) :
    Calls Try.prog 13 #[.slice A l.length cap, .int .i64 k] w (FindEnd l k w) := by
  unfold maxLen at hl
  obtain ⟨r, hr⟩ : ∃ r, r = find l k := ⟨_, rfl⟩
  unfold FindEnd
  rw [← hr]
  have HR := Lib.hid hr
  have HC := Lib.hid hc
  clear hr hc
  go_enter Try.func13, Try.ntmps13
  go_wp2_with fail
  go_loopw [6] (fun i wr => ∃ j : Nat, i = .int .i64 (j : Int) ∧ j ≤ l.length ∧ find (l.drop j) k = r ∧ wr = w)
    (fun i _ => l.length - (intOf i).toNat)
  case atStart => exact ⟨0, rfl, Nat.zero_le _, HR.out.symm, rfl⟩
  case round =>
    obtain ⟨j, rfl, hj, hf, rfl⟩ := hrel
    by_cases hlt : j < l.length
    · obtain ⟨c, hcj⟩ := some_at hlt
      obtain ⟨b0, o0, rfl, hb0, c0, c1⟩ := chunk_cells HC.out hcj
      rw [find_step hcj] at hf
      have HF := Lib.hid hf
      clear hf hcj
      by_cases hk : c.1 = k
      · have HK := Lib.hid hk
        rw [hk] at c0
        clear hk
        go_wp2_with fail
        go_ret2
        have := HF.out
        rw [if_pos HK.out] at this
        rw [← this]
        exact ⟨rfl, Below.refl _ _⟩
      · have hne : (c.1 == k) = false := beq_eq_false_iff_ne.2 hk
        have HK := Lib.hid hk
        clear hk
        go_wp2_with fail
        go_roundw
        case rel => exact ⟨j + 1, by go_num, by omega, by rw [← HF.out, if_neg HK.out], by first | rfl | trivial⟩
        case measure => simp only [intOf]; omega
    · obtain rfl : j = l.length := by omega
      have HF := Lib.hid hf
      clear hf
      go_wp2_with fail
      go_ret2
      have := HF.out
      rw [List.drop_length] at this
      rw [← this]
      exact ⟨rfl, Below.refl _ _⟩

def few (l : List Chk) : Bool := decide (l.length ≤ 20) && l.all fun c => decide (c.2.length ≤ 200)
theorem few_step {l : List Chk} {i : Nat} {c : Chk} (h : l[i]? = some c) : ((l.drop i).all fun c => decide (c.2.length ≤ 200)) = (decide (c.2.length ≤ 200) && (l.drop (i + 1)).all fun c => decide (c.2.length ≤ 200)) := by
  have hk := (List.getElem?_eq_some_iff.1 h).1
  have hc := (List.getElem?_eq_some_iff.1 h).2
  rw [List.drop_eq_getElem_cons hk, hc, List.all_cons]
theorem few_in {l : List Chk} (h : few l = true) : l.length ≤ 20 ∧ ∀ c ∈ l, c.2.length ≤ 200 := by
  simp only [few, Bool.and_eq_true, decide_eq_true_eq, List.all_eq_true] at h
  exact h
theorem few_c (A : Option Addr) (cap : Nat) (l : List Chk) (hl : l.length ≤ maxLen) (w : World) (hc : At w w.heap.size A (cvs l)) :
    Calls Try.prog 8 #[.slice A l.length cap] w fun e w' => e = .returned (.bool (few l)) ∧ w = w' := by
  unfold maxLen at hl
  obtain ⟨r, hr⟩ : ∃ r, r = few l := ⟨_, rfl⟩
  rw [← hr]
  have hr0 := hr
  unfold few at hr0
  have HC := Lib.hid hc
  clear hr hc
  by_cases h20 : 20 < l.length
  · rw [decide_eq_false (show ¬ l.length ≤ 20 by omega), Bool.false_and] at hr0
    subst hr0
    go_enter Try.func8, Try.ntmps8
    go_wp2_with fail
    go_ret
    exact ⟨rfl, rfl⟩
  · rw [decide_eq_true (show l.length ≤ 20 by omega), Bool.true_and] at hr0
    have HR := Lib.hid hr0
    clear hr0
    go_enter Try.func8, Try.ntmps8
    go_wp2_with fail
    go_loopw [3] (fun i wr => ∃ j : Nat, i = .int .i64 (j : Int) ∧ j ≤ l.length ∧ ((l.drop j).all fun c => decide (c.2.length ≤ 200)) = r ∧ wr = w)
      (fun i _ => l.length - (intOf i).toNat)
    case atStart => exact ⟨0, rfl, Nat.zero_le _, HR.out.symm, rfl⟩
    case round =>
      obtain ⟨j, rfl, hj, hf, rfl⟩ := hrel
      by_cases hlt : j < l.length
      · obtain ⟨c, hcj⟩ := some_at hlt
        obtain ⟨b0, o0, rfl, hb0, c0, c1⟩ := chunk_cells HC.out hcj
        rw [few_step hcj] at hf
        have hsz := ba_size c.2
        have HF := Lib.hid hf
        clear hf hcj
        by_cases hk : 200 < c.2.length
        · go_wp2_with fail
          go_ret
          have := HF.out
          rw [decide_eq_false (show ¬ c.2.length ≤ 200 by omega), Bool.false_and] at this
          exact ⟨ret_bool this, rfl⟩
        · go_wp2_with fail
          go_roundw
          case rel => exact ⟨j + 1, by go_num, by omega, by rw [← HF.out, decide_eq_true (show c.2.length ≤ 200 by omega), Bool.true_and], by first | rfl | trivial⟩
          case measure => simp only [intOf]; omega
      · obtain rfl : j = l.length := by omega
        rw [List.drop_length] at hf
        have HF := Lib.hid hf
        clear hf
        go_wp2_with fail
        go_ret
        exact ⟨ret_bool HF.out, rfl⟩
end Go.Proofs.Ytcbkggjphoeceaa
