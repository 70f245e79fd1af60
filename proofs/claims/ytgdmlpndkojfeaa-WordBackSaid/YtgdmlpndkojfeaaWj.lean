/-
  The walk of WordBack.
-/
import Derived.Test.YtgdmlpndkojfeaaWi
import Derived.Test.YtgdmlpndkojfeaaWe
namespace Go.Proofs.Ytgdmlpndkojfeaa
open Go.RowKit
open Wd
set_option maxRecDepth 100000

/-- few texts, none of them long -/
def fewV (xs : List (List UInt8)) : Bool := decide (xs.length ≤ 20) && xs.all (fun x => decide (x.length ≤ 200))
theorem few_true {xs : List (List UInt8)} (h : fewV xs = true) : xs.length ≤ 20 ∧ ∀ x ∈ xs, x.length ≤ 200 := by
  simpa [fewV] using h

theorem few_c (A : Option Addr) (cap : Nat) (xs : List (List UInt8)) (hz : xs.length ≤ maxLen) (hm : ∀ x ∈ xs, x.length ≤ maxLen) (w : World) (hc : Cells w A (xs.map fun x => .string (ba x))) :
    Calls Try.prog 51 #[.slice A xs.length cap, .int .i64 20, .int .i64 200] w fun e w' => e = .returned (.bool (fewV xs)) ∧ w = w' := by
  have HM := Lib.hid hm
  have HC := Lib.hid hc
  clear hm hc
  rcases Nat.lt_or_ge 20 xs.length with h | h
  · have HF : Hid (fewV xs = false) := by unfold Hid fewV; simp; omega
    unfold maxLen at hz
    go_enter Try.func51, Try.ntmps51
    go_wp2
    go_ret
    exact ⟨ret_bool HF.out.symm, rfl⟩
  · obtain ⟨F, hF⟩ : ∃ F, F = fewV xs := ⟨_, rfl⟩
    rw [← hF]
    have HF := Lib.hid hF
    clear hF hz
    go_enter Try.func51, Try.ntmps51
    go_wp2
    go_loopw [7] (fun i wr => ∃ k : Nat, i = .int .i64 (k : Int) ∧ k ≤ xs.length ∧ (∀ x ∈ xs.take k, x.length ≤ 200) ∧ w = wr)
      (fun i _ => xs.length - (intOf i).toNat)
    case atStart => exact ⟨0, rfl, Nat.zero_le _, fun x hx => by simp at hx, rfl⟩
    case round =>
      obtain ⟨k, rfl, hk, hb, rfl⟩ := hrel
      have HB := Lib.hid hb
      clear hb
      by_cases hlt : k < xs.length
      · obtain ⟨x, hxk⟩ : ∃ x, xs[k]? = some x := ⟨_, List.getElem?_eq_getElem hlt⟩
        obtain ⟨b, off, rfl, hbl, hcell⟩ := HC.out k (.string (ba x)) (by rw [List.getElem?_map, hxk]; rfl)
        have hxm := HM.out x (List.mem_of_getElem? hxk)
        have hxs := ba_size x
        unfold maxLen at hxm
        have HXK := Lib.hid hxk
        clear hxk hbl
        by_cases hx2 : x.length ≤ 200
        · go_wp2
          go_roundw
          case rel =>
            refine ⟨k + 1, by go_num, by omega, fun y hy => ?_, trivial⟩
            rw [List.take_add_one, HXK.out] at hy
            simp only [Option.toList_some, List.mem_append, List.mem_singleton] at hy
            rcases hy with hy | rfl
            · exact HB.out y hy
            · exact hx2
          case measure => simp only [intOf]; omega
        · go_wp2
          go_ret
          refine ⟨ret_bool ?_, rfl⟩
          rw [HF.out]
          have : ¬ fewV xs = true := fun e => hx2 ((few_true e).2 x (List.mem_of_getElem? HXK.out))
          simpa using this
      · obtain rfl : k = xs.length := by omega
        go_wp2
        go_ret
        refine ⟨ret_bool ?_, rfl⟩
        rw [HF.out]
        have h2 := HB.out
        rw [List.take_length] at h2
        simp [fewV, h]
        exact h2

/-- the two ends of Take at a text's start -/
theorem tk_zero (l : List UInt8) (most : Int) : (∃ e, e ≠ 0 ∧ tk l 0 most = ([], 0, e)) ∨ (∃ t u, tk l 0 most = (t, ((u : Nat) : Int), 0) ∧ 1 ≤ u ∧ u ≤ l.length ∧ Pk.put t.length ++ t = l.take u ∧ valid t = true) := by
  have hk : (0 : Nat) ≤ l.length := Nat.zero_le _
  cases hr : Pk.rd l with
  | cut => exact .inl ⟨2, by decide, by have := tk_err (most := most) hk rfl (by rw [(Pk.num_cut rfl hr).2]; exact (show (2 : Int) ≠ 0 by decide)); rw [(Pk.num_cut rfl (s := ⟨l.drop 0, 0⟩) hr).2] at this; exact this⟩
  | long => exact .inl ⟨3, by decide, by have := tk_err (most := most) hk rfl (by rw [(Pk.num_long rfl hr).2]; exact (show (3 : Int) ≠ 0 by decide)); rw [(Pk.num_long rfl (s := ⟨l.drop 0, 0⟩) hr).2] at this; exact this⟩
  | ok n u =>
    obtain ⟨i1, i2, i3, i4, i5, i6⟩ := Pk.rd_inv hr
    obtain ⟨hv, hs⟩ := Pk.num_ok (s := ⟨l.drop 0, 0⟩) rfl hr
    have hs' : (⟨l.drop u, 0⟩ : Pk.St) = Pk.numS ⟨l.drop 0, 0⟩ := hs.symm
    by_cases hb : most < 0 ∨ most < (n : Int)
    · exact .inl ⟨10, by decide, tk_big hk hs' hv.symm rfl hb⟩
    · by_cases hc : (l.drop u).length < n
      · exact .inl ⟨2, by decide, tk_cut hk hs' hv.symm rfl hb hc⟩
      · cases ht : valid ((l.drop u).take n)
        · exact .inl ⟨4, by decide, tk_text hk hs' hv.symm rfl hb hc ht⟩
        · refine .inr ⟨(l.drop u).take n, u + n, ?_, by omega, ?_, ?_, ht⟩
          · have := tk_ok (most := most) hk hs' hv.symm rfl hb hc ht
            refine this.trans ?_
            rw [List.length_drop] at hc
            simp only [List.length_drop]
            congr 2
            omega
          · rw [List.length_drop] at hc; omega
          · have hn : ((l.drop u).take n).length = n := by rw [List.length_take]; omega
            rw [hn, ← i1, List.take_add]

/-- Take of a text behind its length, where it stands -/
theorem tk_at {xs : List (List UInt8)} {k : Nat} {x : List UInt8} (h : xs[k]? = some x) (hx : x.length ≤ 200) (hv : valid x = true) :
    tk (enc4 xs) (((enc4 (xs.take k)).length : Nat) : Int) 200 = (x, (((enc4 (xs.take (k + 1))).length : Nat) : Int), 0) := by
  obtain ⟨h1, h2⟩ := enc4_at xs k
  rw [enc4_drop h, List.append_assoc] at h1
  obtain ⟨n1, n2⟩ := Pk.num_put (n := x.length) (by omega) (x ++ enc4 (xs.drop (k + 1)))
  rw [← h1] at n1 n2
  have ht : (x ++ enc4 (xs.drop (k + 1))).take x.length = x := List.take_left
  have := tk_ok (most := 200) h2 n2.symm n1.symm rfl (by omega) (by rw [List.length_append]; omega) (by rw [ht]; exact hv)
  refine this.trans ?_
  have h3 := enc4_at xs (k + 1)
  have hl := congrArg List.length h3.1
  rw [List.length_drop] at hl
  rw [ht, List.drop_left]
  congr 2
  omega
/-- Take of what is no text, behind its length -/
theorem tk_bad {x : List UInt8} (hx : x.length ≤ 200) (hv : valid x = false) : tk (Pk.put x.length ++ x) 0 200 = ([], 0, 4) := by
  obtain ⟨n1, n2⟩ := Pk.num_put (n := x.length) (by omega) x
  have ht : x.take x.length = x := List.take_length
  exact tk_text (k := 0) (Nat.zero_le _) n2.symm n1.symm rfl (by omega) (by simp) (by rw [ht]; exact hv)

namespace wordBack
theorem walk_out (A : Option Addr) (cap : Nat) (xs : List (List UInt8)) (l : List UInt8) (hz : xs.length ≤ maxLen) (hm : ∀ x ∈ xs, x.length ≤ maxLen) (hzl : l.length ≤ maxLen) (h : fewV xs = false ∨ (fewV xs = true ∧ 300 < l.length)) (w : World) (hc : Cells w A (xs.map fun x => .string (ba x))) :
    Calls Try.prog 13 #[.slice A xs.length cap, .string (ba l)] w fun e w' => e = .returned (.bool true) ∧ Below w.heap.size w w' := by
  have hs := ba_size l
  have HF := Lib.hid (few_c A cap xs hz hm w hc)
  clear hm hc hz
  unfold maxLen at hzl
  rcases h with h | ⟨h0, h⟩
  all_goals
    go_enter Try.func13, Try.ntmps13
    go_wp2_with (first | (go_at_call 51; (with_reducible refine HF.out.mono ?_); rintro e wz ⟨rfl, rfl⟩; first | rw [h] | rw [h0]) | (go_at_call 38; refine (live4_c _).mono ?_; rintro e w5 ⟨rfl, hb5⟩))
    go_ret
    exact ⟨rfl, hb5⟩

set_option maxHeartbeats 8000000 in
theorem walk_in (A : Option Addr) (cap : Nat) (xs : List (List UInt8)) (l : List UInt8) (hz : xs.length ≤ maxLen) (hm : ∀ x ∈ xs, x.length ≤ maxLen) (hl : l.length ≤ 300) (hf : fewV xs = true) (w : World) (hc : Cells w A (xs.map fun x => .string (ba x))) :
    Calls Try.prog 13 #[.slice A xs.length cap, .string (ba l)] w fun e w' => e = .returned (.bool true) ∧ Below w.heap.size w w' := by
  have hs := ba_size l
  obtain ⟨hn, hx2⟩ := few_true hf
  have HFEW := Lib.hid (few_c A cap xs hz hm w hc)
  have HC := Lib.hid hc
  have HX := Lib.hid hx2
  have HLEN := Lib.hid (fun ys (hy : ∀ x ∈ ys, x ∈ xs) => enc4_len ys 200 (by decide) (fun x hx => hx2 x (hy x hx)))
  clear hm hc hz hx2
  obtain ⟨g, hg⟩ : ∃ g, g = w.heap.size := ⟨_, rfl⟩
  have HG := Lib.hid hg
  clear hg
  go_enter Try.func13, Try.ntmps13
  go_wp2_with (go_at_call 51; (with_reducible refine HFEW.out.mono ?_); rintro e wz ⟨rfl, rfl⟩; rw [hf])
  clear HFEW
  go_loopw [5, 6] (fun a i wr => ∃ k : Nat, i = .int .i64 (k : Int) ∧ k ≤ xs.length ∧ a = .string (ba (enc4 (xs.take k))) ∧ (∀ x ∈ xs.take k, valid x = true) ∧ Below g w wr)
    (fun _ i _ => xs.length - (intOf i).toNat)
  case atStart => exact ⟨0, rfl, Nat.zero_le _, rfl, fun x hx => by simp at hx, Below.refl _ _⟩
  case round =>
    obtain ⟨k, rfl, hk, rfl, hval, hb⟩ := hrel
    have HV := Lib.hid hval
    clear hval
    have hgb : g ≤ wr.heap.size := by rw [HG.out]; exact hb.size
    by_cases hlt : k < xs.length
    · obtain ⟨x, hxk⟩ : ∃ x, xs[k]? = some x := ⟨_, List.getElem?_eq_getElem hlt⟩
      obtain ⟨b, off, rfl, hbl, hcell0⟩ := HC.out k (.string (ba x)) (by rw [List.getElem?_map, hxk]; rfl)
      rw [← HG.out] at hbl
      have hcell := (s_keep hcell0 hbl hb).1
      have hxm := HX.out x (List.mem_of_getElem? hxk)
      have hxl : x.length ≤ 140737488351232 := by omega
      have hxs := ba_size x
      have hp := Pk.put_len10 (n := x.length) (by omega)
      have HXK := Lib.hid hxk
      clear hxk hcell0
      cases hv : valid x
      · have HT := Lib.hid (tk_bad hxm hv)
        have hpl : (Pk.put x.length ++ x).length ≤ 140737488351232 := by rw [List.length_append]; omega
        go_wp2_with (first
          | (go_at_call 43; (with_reducible refine (valid_c x hxl _).mono ?_); rintro e wz ⟨rfl, rfl⟩; rw [hv])
          | (go_at_call 47; refine (wput_c x hxl _).mono ?_; rintro e w1 ⟨rfl, hm1⟩))
        refine (take_w (Pk.put x.length ++ x) hpl 0 200 (by decide) _).mono ?_
        rintro e w2 ⟨htk, hm2⟩
        unfold Tk at htk
        rw [HT.out] at htk
        subst htk
        have c1 := hb.trans (hm1.mono hgb)
        have c2 := c1.trans (hm2.mono (Nat.le_trans hgb hm1.size))
        clear hm1 hm2
        go_wp2_with (go_at_call 38; refine (live4_c _).mono ?_; rintro e w5 ⟨rfl, hb5⟩)
        go_ret
        rw [← HG.out]
        exact ⟨rfl, c2.trans (hb5.mono (by rw [HG.out]; exact c2.size))⟩
      · have he := HLEN.out (xs.take k) (fun x hx => List.mem_of_mem_take hx)
        have he2 : (enc4 (xs.take k)).length ≤ 4200 := by rw [List.length_take] at he; omega
        have hadd := add_ba4 (enc4 (xs.take k)) (Pk.put x.length ++ x) (by rw [List.length_append]; omega)
        clear he
        go_wp2_with (first
          | (go_at_call 43; (with_reducible refine (valid_c x hxl _).mono ?_); rintro e wz ⟨rfl, rfl⟩; rw [hv])
          | (go_at_call 47; refine (wput_c x hxl _).mono ?_; rintro e w1 ⟨rfl, hm1⟩))
        go_roundw
        case rel =>
          refine ⟨k + 1, by go_num, by omega, by rw [enc4_take HXK.out], fun y hy => ?_, hb.trans (hm1.mono hgb)⟩
          rw [List.take_add_one, HXK.out] at hy
          simp only [Option.toList_some, List.mem_append, List.mem_singleton] at hy
          rcases hy with hy | rfl
          · exact HV.out y hy
          · exact hv
        case measure => simp only [intOf]; omega
    · obtain rfl : k = xs.length := by omega
      rw [List.take_length]
      have he := HLEN.out xs (fun x hx => hx)
      have hval : ∀ x ∈ xs, valid x = true := by have := HV.out; rwa [List.take_length] at this
      have HV2 := Lib.hid hval
      clear hval HV
      obtain ⟨E, hE⟩ : ∃ E, E = enc4 xs := ⟨_, rfl⟩
      rw [← hE] at he ⊢
      have hel : E.length ≤ 4200 := by omega
      have hel2 : E.length ≤ 140737488351232 := by omega
      have hes := ba_size E
      have HE := Lib.hid hE
      clear hE he
      go_wp2_with fail
      go_loopw [10, 11] (fun a i wr => ∃ k : Nat, i = .int .i64 (k : Int) ∧ k ≤ xs.length ∧ a = .int .i64 (((enc4 (xs.take k)).length : Nat) : Int) ∧ Below g w wr)
        (fun _ i _ => xs.length - (intOf i).toNat)
      case atStart => exact ⟨0, rfl, Nat.zero_le _, rfl, hb⟩
      case round =>
        clear hb hgb
        obtain ⟨k, rfl, hk, rfl, hb⟩ := hrel
        have hgb : g ≤ wr.heap.size := by rw [HG.out]; exact hb.size
        by_cases hlt : k < xs.length
        · obtain ⟨x, hxk⟩ : ∃ x, xs[k]? = some x := ⟨_, List.getElem?_eq_getElem hlt⟩
          obtain ⟨b, off, rfl, hbl, hcell0⟩ := HC.out k (.string (ba x)) (by rw [List.getElem?_map, hxk]; rfl)
          rw [← HG.out] at hbl
          have hxm := HX.out x (List.mem_of_getElem? hxk)
          have HT := Lib.hid (tk_at hxk hxm (HV2.out x (List.mem_of_getElem? hxk)))
          have hab : (enc4 (xs.take k)).length < (enc4 (xs.take (k + 1))).length := by
            rw [enc4_take hxk, List.length_append, List.length_append]
            have := Pk.put_len_pos x.length
            omega
          have hbe := (enc4_at xs (k + 1)).2
          rw [← HE.out] at HT hbe
          obtain ⟨a, ha⟩ : ∃ a, a = (enc4 (xs.take k)).length := ⟨_, rfl⟩
          obtain ⟨c, hcc⟩ : ∃ c, c = (enc4 (xs.take (k + 1))).length := ⟨_, rfl⟩
          rw [← ha, ← hcc] at HT
          rw [← ha, ← hcc] at hab
          rw [← hcc] at hbe
          rw [← ha]
          have HCC := Lib.hid hcc
          have d1 : decide ((c : Int) ≤ (a : Int)) = false := by simp; omega
          have d2 : decide (c ≤ a) = false := by simp; omega
          have hxs := ba_size x
          clear ha hcc hxk
          go_wp2_with fail
          refine (take_w E hel2 (a : Int) 200 (by decide) _).mono ?_
          rintro e w1 ⟨htk, hm1⟩
          unfold Tk at htk
          rw [HT.out] at htk
          subst htk
          have hb1 := hb.trans (hm1.mono hgb)
          have hcell := (s_keep hcell0 hbl hb1).1
          clear hm1 hcell0
          go_wp2
          go_roundw
          case rel => exact ⟨k + 1, by go_num, by omega, by rw [HCC.out], hb1⟩
          case measure => simp only [intOf]; omega
        · obtain rfl : k = xs.length := by omega
          rw [List.take_length, ← HE.out]
          have hll : l.length ≤ 140737488351232 := by omega
          go_wp2_with fail
          refine (take_w l hll 0 300 (by decide) _).mono ?_
          rintro e w1 ⟨htk, hm1⟩
          unfold Tk at htk
          have hb1 := hb.trans (hm1.mono hgb)
          have hg1 := Nat.le_trans hgb hm1.size
          clear hm1 hb
          rcases tk_zero l 300 with ⟨er, he0, hT⟩ | ⟨t, u, hT, hu1, hul, hut, htv⟩
          · rw [hT] at htk
            rw [show ba ([] : List UInt8) = ⟨#[]⟩ from rfl] at htk
            subst htk
            have t1 : (er != 0) = true := by simpa using he0
            clear he0 hT
            go_wp2_with (go_at_call 38; refine (live4_c _).mono ?_; rintro e w5 ⟨rfl, hb5⟩)
            go_ret
            rw [← HG.out]
            exact ⟨rfl, hb1.trans (hb5.mono hg1)⟩
          · rw [hT] at htk
            subst htk
            have d1 : decide ((1 : Int) ≤ (u : Int)) = true := by simp; omega
            have d2 : decide (u ≤ l.length) = true := by simpa using hul
            have d3 : decide ((u : Int) ≤ (l.length : Int)) = true := by simp; omega
            have d4 : decide (1 ≤ u) = true := by simpa using hu1
            have hext : (ba l).extract 0 u = ba (Pk.put t.length ++ t) := by rw [extract_take, hut]
            have htl : t.length ≤ 140737488351232 := by
              have := congrArg List.length hut
              rw [List.length_append, List.length_take] at this
              omega
            clear hT hut
            go_wp2_with fail
            go_region_held3 (fun w' => Below g w w')
              (first
                | (exact hb1)
                | (exact hb1.drew)
                | (exact hb5)
                | (exact hb5.drew)
                | (exact hb6)
                | (exact hb6.drew)
                | go_keep)
              (first
                | (go_at_call 47; refine (wput_c t htl _).mono ?_; rintro e w5 ⟨rfl, hm5⟩; have hb5 := hb1.drew.trans (hm5.mono hg1); have hg5 : g ≤ w5.heap.size := Nat.le_trans hg1 hm5.size; clear hm5)
                | (go_at_call 43; (with_reducible refine (valid_c t htl _).mono ?_); rintro e wz ⟨rfl, rfl⟩; rw [htv])
                | (go_at_call 38; refine (live4_c _).mono ?_; rintro e w6 ⟨rfl, hm6⟩; have hb6 := hb5.trans (hm6.mono hg5); clear hm6))
            go_wp2
            go_ret
            rw [← HG.out]
            exact ⟨rfl, hb6⟩

theorem walk (A : Option Addr) (cap : Nat) (xs : List ByteArray) (l : List UInt8) (hz : xs.length ≤ maxLen) (hm : ∀ x ∈ xs, x.size ≤ maxLen) (hzl : l.length ≤ maxLen) (w : World) (hc : Cells w A (xs.map Value.string)) :
    Calls Try.prog 13 #[.slice A xs.length cap, .string (ba l)] w fun e w' => e = .returned (.bool true) ∧ Below w.heap.size w w' := by
  obtain ⟨ls, rfl⟩ : ∃ ls : List (List UInt8), xs = ls.map ba := ⟨xs.map fun x => x.data.toList, by rw [List.map_map]; exact (List.map_id'' (fun x => ba_of x) xs).symm⟩
  rw [List.length_map] at hz ⊢
  have hm2 : ∀ x ∈ ls, x.length ≤ maxLen := fun x hx => by
    have := hm (ba x) (List.mem_map_of_mem hx)
    rwa [ba_size] at this
  have hc2 : Cells w A (ls.map fun x => .string (ba x)) := by rwa [List.map_map] at hc
  cases hf : fewV ls
  · exact walk_out A cap ls l hz hm2 hzl (.inl hf) w hc2
  · rcases Nat.lt_or_ge 300 l.length with h | h
    · exact walk_out A cap ls l hz hm2 hzl (.inr ⟨hf, h⟩) w hc2
    · exact walk_in A cap ls l hz hm2 h hf w hc2
end wordBack
end Go.Proofs.Ytgdmlpndkojfeaa
