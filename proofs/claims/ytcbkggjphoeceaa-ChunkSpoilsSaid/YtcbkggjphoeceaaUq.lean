/-
  Plain: a file of one chunk of which some bytes are changed. No Go.
-/
import Derived.Test.YtcbkggjphoeceaaUa
namespace Go.Proofs.Ytcbkggjphoeceaa.Ck
open Pk Cr

theorem spl_get (l ms : List UInt8) (a k i : Nat) : (spl l ms a k)[i]? = l[i]?.map fun b => b ^^^ ekf a ms k i := by
  unfold spl
  rw [List.getElem?_mapIdx]
theorem ekf_low {a k i : Nat} (ms : List UInt8) (h : i < a) : ekf a ms k i = 0 := by unfold ekf; rw [if_neg (by omega)]
theorem xor_zero8 (b : UInt8) : b ^^^ 0 = b := by
  refine UInt8.toNat_inj.1 ?_
  rw [UInt8.toNat_xor]; simp
theorem spl_take {l ms : List UInt8} {a k j : Nat} (h : j ≤ a) : (spl l ms a k).take j = l.take j := by
  refine List.ext_getElem? fun i => ?_
  by_cases hi : i < j
  · rw [List.getElem?_take_of_lt hi, List.getElem?_take_of_lt hi, spl_get, ekf_low ms (by omega)]
    simp only [xor_zero8]
    cases l[i]? <;> rfl
  · rw [List.getElem?_eq_none (by rw [List.length_take]; omega), List.getElem?_eq_none (by rw [List.length_take]; omega)]
theorem spl_drop {l ms : List UInt8} {a k j : Nat} (h : j ≤ a) : (spl l ms a k).drop j = spl (l.drop j) ms (a - j) k := by
  refine List.ext_getElem? fun i => ?_
  rw [List.getElem?_drop, spl_get, spl_get, List.getElem?_drop]
  have : ekf a ms k (j + i) = ekf (a - j) ms k i := by
    unfold ekf
    by_cases hc : a ≤ j + i ∧ j + i < a + k
    · rw [if_pos hc, if_pos (by omega), show j + i - a = i - (a - j) by omega]
    · rw [if_neg hc, if_neg (by omega)]
  rw [this]
theorem spl_same {l ms : List UInt8} {a k : Nat} (h : chg ms k = false) : spl l ms a k = l := by
  refine List.ext_getElem? fun i => ?_
  rw [spl_get]
  have he : ekf a ms k i = 0 := by
    unfold ekf
    split
    · rename_i hc
      rw [List.getD_eq_getElem?_getD]
      cases hm : ms[i - a]? with
      | none => rfl
      | some m =>
        have hmem : m ∈ ms.take k := List.mem_of_getElem? (i := i - a) (by rw [List.getElem?_take_of_lt (by omega)]; exact hm)
        unfold chg at h
        rw [List.any_eq_false] at h
        have := h m hmem
        simpa using this
    · rfl
  rw [he]
  simp only [xor_zero8]
  cases l[i]? <;> rfl
theorem file_one {c : Chk} (h0 : 1 ≤ c.1) (h1 : c.1 ≤ 255) (h2 : c.2.length ≤ 1048576) : joinE 1 [c] = 0 ∧ joinT 1 [c] = magic ++ (byt8 1 :: one c) := by
  have hb : bad 0 [c] = 0 := bad_mk (by omega) h1 h2 rfl
  have he : joinE 1 [c] = 0 := by unfold joinE; rw [if_neg (by omega), hb]
  refine ⟨he, ?_⟩
  rw [(join_split he).2.2.1, flat, flat, List.append_nil]
theorem spoilt_file {c : Chk} (h0 : 1 ≤ c.1) (h1 : c.1 ≤ 255) (h2 : c.2.length ≤ 1048576) {ms : List UInt8} {a k : Nat} (hk : k ≤ ms.length) (h4 : k ≤ 4)
    (ha : 6 + (put c.2.length).length ≤ a) (hak : a + k ≤ (magic ++ (byt8 1 :: one c)).length) (hch : chg ms k = true) : splitP (spl (magic ++ (byt8 1 :: one c)) ms a k) = ([], 6) := by
  have hol := one_len c
  have hfl := front_len c
  have hL : (magic ++ (byt8 1 :: one c)).length = 5 + (one c).length := by
    simp only [magic, List.length_append, List.length_cons, List.length_nil]; omega
  have hd5 : (magic ++ (byt8 1 :: one c)).drop 5 = one c := by simp [magic]
  have ht5 : (magic ++ (byt8 1 :: one c)).take 5 = magic ++ [byt8 1] := by simp [magic]
  obtain ⟨x, hx⟩ : ∃ x, x = spl (one c) ms (a - 5) k := ⟨_, rfl⟩
  have hxs : spl (magic ++ (byt8 1 :: one c)) ms a k = magic ++ (byt8 1 :: x) := by
    have e := (List.take_append_drop 5 (spl (magic ++ (byt8 1 :: one c)) ms a k)).symm
    rw [spl_take (by omega), spl_drop (by omega), hd5, ht5, ← hx] at e
    rw [e]; simp
  have hxl : x.length = (one c).length := by rw [hx, spl_len]
  rw [hxs]
  have htf : x.take (front c).length = front c := by
    rw [hx, spl_take (by omega)]
    unfold one
    rw [List.append_assoc, List.take_left]
  refine spoil h0 h1 h2 (b := (x.drop (front c).length).take c.2.length) (u := x.drop ((front c).length + c.2.length)) ?_ ?_ ?_ ?_
  · rw [List.length_take, List.length_drop]; omega
  · rw [List.length_drop]; omega
  · have e1 := (List.take_append_drop (front c).length x).symm
    have e2 := (List.take_append_drop c.2.length (x.drop (front c).length)).symm
    rw [List.drop_drop] at e2
    rw [htf, e2, ← List.append_assoc] at e1
    exact e1
  · have := spl_sum (one c) ms (a - 5) k hk h4 (by omega)
    rw [← hx, hch] at this
    simpa using this
end Go.Proofs.Ytcbkggjphoeceaa.Ck
