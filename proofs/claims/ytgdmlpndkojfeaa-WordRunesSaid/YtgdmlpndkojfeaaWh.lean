/-
  The walk of WordRunes.
-/
import Derived.Test.YtgdmlpndkojfeaaEg
import Derived.Test.YtgdmlpndkojfeaaMf
import Derived.Test.YtgdmlpndkojfeaaWa
import Derived.Laws.IdiomStrings
import Derived.Laws.Cover4
import Derived.Laws.Cells
namespace Go.Proofs.Ytgdmlpndkojfeaa
open Go.RowKit
open Wd
set_option maxRecDepth 100000

/-- a rune in its cell -/
def rc (c : Nat) : Value := .int .i32 (c : Int)
theorem runes_from (l : List UInt8) : ∀ (bound i : Nat) (acc : Array Value), l.length - i ≤ bound → Conv.runesFrom (ba l) bound i acc = acc ++ ((rl (l.drop i)).map rc).toArray
  | 0, i, acc, h => by
    have : l.drop i = [] := List.drop_eq_nil_of_le (by omega)
    rw [this, rl_nil]
    simp [Conv.runesFrom]
  | bound + 1, i, acc, h => by
    unfold Conv.runesFrom
    rw [ba_size]
    by_cases hi : i < l.length
    · have hne : l.drop i ≠ [] := fun e => by
        have := congrArg List.length e
        rw [List.length_drop] at this
        simp at this
        omega
      have hd : Utf8.decode (ba l) i = dN (l.drop i) := decode_drop l i
      rw [if_pos hi, hd]
      have hsn := dN_snd hne
      have h1 : 1 ≤ max 1 (sgn (l.drop i)) := by omega
      simp only
      rw [hsn, runes_from l bound _ _ (by omega), rl_cons hne, List.drop_drop]
      simp only [List.map_cons]
      apply Array.ext'
      simp [rc]
    · have : l.drop i = [] := List.drop_eq_nil_of_le (by omega)
      rw [if_neg hi, this, rl_nil]
      simp

theorem runes_all (l : List UInt8) : Conv.runesFrom (ba l) (ba l).size 0 #[] = ((rl l).map rc).toArray := by
  rw [runes_from l _ 0 #[] (by rw [ba_size]; omega)]
  simp
theorem ba_join (a b : List UInt8) : ba a ++ ba b = ba (a ++ b) := ByteArray.ext (by simp [ba, ByteArray.data_append])
theorem bytes_fold (ns : List Nat) : ∀ s : List UInt8, (ns.map fun c : Nat => (c : Int)).foldl (fun r n => r ++ Utf8.encode n) (ba s) = ba (s ++ flat ns) := by
  induction ns with
  | nil => intro s; simp [flat]
  | cons c ns ih =>
    intro s
    rw [List.map_cons, List.foldl_cons]
    have he : ba s ++ Utf8.encode (c : Int) = ba (s ++ enc c) := by
      have : Utf8.encode (c : Int) = ba (enc c) := (ba_of _).symm
      rw [this, ba_join]
    rw [he, ih]
    congr 1
    simp [flat]
theorem runes_bytes (ns : List Nat) : runesBytes (ns.map fun c : Nat => (c : Int)) = ba (flat ns) := by
  have := bytes_fold ns []
  rw [List.nil_append] at this
  exact this

theorem runes_new (l : List UInt8) (hl : l.length ≤ 140737488351232) (h46 : l.length ≤ 70368744177664) (w : World) :
    ∃ cap w1, (convert 9 53 (.string (ba l))).run Try.prog w = .ok (.slice (some ⟨w.heap.size, 0, none⟩) (rl l).length cap) w1 ∧ Below w.heap.size w w1 ∧
      (convert 53 9 (.slice (some ⟨w.heap.size, 0, none⟩) (rl l).length cap)).run Try.prog w1 = .ok (.string (ba (flat (rl l)))) w1 := by
  have hr := runes_all l
  have hn : (Conv.runesFrom (ba l) (ba l).size 0 #[]).size = (rl l).length := by rw [hr]; simp
  have hlen := rl_len l
  have h := run_runes_of_string (P := Try.prog) w 9 53 21 (ba l) Try.underlying9 Try.underlying53 Try.underlying21 (by rw [hn]; omega)
  rw [hn] at h
  refine ⟨_, _, h, ?_, ?_⟩
  · exact (Below.refl _ _).drew.alloc (Nat.le_refl _) _
  · rw [run_convert_runes_string _ _ _ 21 _ _ _ Try.underlying53 Try.underlying21 Try.underlying9]
    have hc := run_loadCells_list (P := Try.prog) (w.drew.alloc (.cells (Conv.runesFrom (ba l) (ba l).size 0 #[] ++ Array.replicate (grownCap w (rl l).length 0 21 - (rl l).length) (.int .i32 0)) 21)) ⟨w.heap.size, 0, none⟩ ((rl l).map rc) (fun j v hj => by
      have hj2 : j < (rl l).length := by
        have := (List.getElem?_eq_some_iff.1 hj).1
        simpa using this
      have := World.cell?_alloc_mark w.drew (Conv.runesFrom (ba l) (ba l).size 0 #[] ++ Array.replicate (grownCap w (rl l).length 0 21 - (rl l).length) (.int .i32 0)) 21 (0, 0) j
      rw [hr, Array.getElem?_append_left (by simpa using hj2)] at this
      have h2 : ((rl l).map rc).toArray[j]? = some v := by simpa using hj
      rw [h2, ← hr] at this
      have ha : Addr.add ⟨w.heap.size, 0, none⟩ j = ⟨w.heap.size, j, none⟩ := by unfold Addr.add; split <;> simp_all
      rw [ha]
      exact this)
    rw [List.length_map] at hc
    have := run_runesToString (P := Try.prog) _ ⟨w.heap.size, 0, none⟩ (rl l).length (grownCap w (rl l).length 0 21) ((rl l).map fun c : Nat => (c : Int)) (by rw [hc, List.map_map]; rfl)
    rw [this, runes_bytes]

namespace wordRunes
theorem walk_out (l : List UInt8) (hz : l.length ≤ maxLen) (h : 500 < l.length) (w : World) :
    Calls Try.prog 11 #[.string (ba l)] w fun e w' => e = .returned (.bool true) ∧ Below w.heap.size w w' := by
  have hs := ba_size l
  unfold maxLen at hz
  go_enter Try.func11, Try.ntmps11
  go_wp2_with (go_at_call 38; refine (live4_c _).mono ?_; rintro e w5 ⟨rfl, hb5⟩)
  go_ret
  exact ⟨rfl, hb5⟩
set_option maxHeartbeats 2000000 in
theorem walk_good (l : List UInt8) (h : l.length ≤ 500) (hv : valid l = true) (w : World) :
    Calls Try.prog 11 #[.string (ba l)] w fun e w' => e = .returned (.bool true) ∧ Below w.heap.size w w' := by
  have hs := ba_size l
  have hl : l.length ≤ 140737488351232 := by omega
  obtain ⟨cap, w1, hc1, hb1, hc2⟩ := runes_new l hl (by omega) w
  obtain ⟨r1, r2⟩ := rl_valid l (valid_iff.1 hv)
  rw [r1] at hc2
  have hcn : cntV l = (rl l).length := by unfold cntV; rw [if_pos hv, r2]
  obtain ⟨n, hn⟩ : ∃ n, n = (rl l).length := ⟨_, rfl⟩
  rw [← hn] at hc1 hc2 hcn
  have hnl := rl_len l
  rw [← hn] at hnl
  clear hn r1 r2
  go_enter Try.func11, Try.ntmps11
  go_wp2_with (first
    | (go_at_call 41; refine (count_c l hl _).mono ?_; rintro e wz ⟨rfl, rfl⟩; rw [hcn, hv])
    | (go_at_call 43; refine (valid_c l hl _).mono ?_; rintro e wz ⟨rfl, rfl⟩; rw [hv])
    | (go_at_call 38; refine (live4_c _).mono ?_; rintro e w5 ⟨rfl, hb5⟩))
  go_ret
  exact ⟨rfl, hb1.trans (hb5.mono hb1.size)⟩
set_option maxHeartbeats 2000000 in
theorem walk_bad (l : List UInt8) (h : l.length ≤ 500) (hv : valid l = false) (w : World) :
    Calls Try.prog 11 #[.string (ba l)] w fun e w' => e = .returned (.bool true) ∧ Below w.heap.size w w' := by
  have hs := ba_size l
  have hl : l.length ≤ 140737488351232 := by omega
  obtain ⟨cap, w1, hc1, hb1, hc2⟩ := runes_new l hl (by omega) w
  have r1 := rl_bad l (fun e => by rw [valid_iff.2 e] at hv; exact absurd hv (by decide))
  have hcn : cntV l = 0 := by unfold cntV; rw [if_neg (by rw [hv]; decide)]
  obtain ⟨n, hn⟩ : ∃ n, n = (rl l).length := ⟨_, rfl⟩
  rw [← hn] at hc1 hc2
  obtain ⟨f, hf⟩ : ∃ f, f = flat (rl l) := ⟨_, rfl⟩
  rw [← hf] at hc2 r1
  clear hn hf
  have hfb : (!((ba f).toList == (ba l).toList)) = true := by
    rw [ByteArray.toList_eq, ByteArray.toList_eq, ba_list, ba_list]
    simpa using r1
  go_enter Try.func11, Try.ntmps11
  go_wp2_with (first
    | (go_at_call 41; refine (count_c l hl _).mono ?_; rintro e wz ⟨rfl, rfl⟩; rw [hcn, hv])
    | (go_at_call 43; refine (valid_c l hl _).mono ?_; rintro e wz ⟨rfl, rfl⟩; rw [hv])
    | (go_at_call 38; refine (live4_c _).mono ?_; rintro e w5 ⟨rfl, hb5⟩))
  go_ret
  exact ⟨rfl, hb1.trans (hb5.mono hb1.size)⟩
theorem walk (l : List UInt8) (hz : l.length ≤ maxLen) (w : World) :
    Calls Try.prog 11 #[.string (ba l)] w fun e w' => e = .returned (.bool true) ∧ Below w.heap.size w w' := by
  rcases Nat.lt_or_ge 500 l.length with h | h
  · exact walk_out l hz h w
  · cases hv : valid l
    · exact walk_bad l h hv w
    · exact walk_good l h hv w
end wordRunes
end Go.Proofs.Ytgdmlpndkojfeaa
