/-
  The walk of PackBack.
-/
import Derived.Test.YtgdmlpndkojfeaaWe
namespace Go.Proofs.Ytgdmlpndkojfeaa
open Go.RowKit
open Pk
set_option maxRecDepth 100000

theorem ba_append (a b : List UInt8) : ba a ++ ba b = ba (a ++ b) := by
  apply ByteArray.ext
  simp [ba]

theorem add_ba (a b : List UInt8) (h : a.length + b.length ≤ 9223372036854775807) (w : World) : (Op.stringOp .add (ba a) (ba b)).run Try.prog w = .ok (.string (ba (a ++ b))) w := by
  rw [run_string_add_sum w (ba a) (ba b) (by rw [ba_size, ba_size]; exact h), ba_append]

namespace packBack
theorem walk_out (A : Option Addr) (cap len : Nat) (i : Int) (l : List UInt8) (h : 40 < len ∨ (len ≤ 40 ∧ 300 < l.length)) (hz : l.length ≤ maxLen) (hz2 : len ≤ maxLen) (w : World) :
    Calls Try.prog 5 #[.slice A len cap, .int .i64 i, .string (ba l)] w fun e w' => e = .returned (.bool true) ∧ Below w.heap.size w w' := by
  have hs := ba_size l
  unfold maxLen at hz hz2
  rcases h with h | ⟨h0, h⟩
  all_goals
    go_enter Try.func5, Try.ntmps5
    go_wp2_with (go_at_call 23; refine (live3_c _).mono ?_; rintro e w5 ⟨rfl, hb5⟩)
    go_ret
    exact ⟨rfl, hb5⟩

set_option maxHeartbeats 8000000 in
theorem walk_in (A : Option Addr) (cap : Nat) (xs : List Int) (i : Int) (l : List UInt8) (hl : l.length ≤ 300) (hx : xs.length ≤ 40) (hw : ∀ x ∈ xs, (Lit.int .u64 x).wf = true) (hi : (Lit.int .i64 i).wf = true) (w : World) (hc : Cells w A (xs.map (Value.int .u64))) :
    Calls Try.prog 5 #[.slice A xs.length cap, .int .i64 i, .string (ba l)] w fun e w' => e = .returned (.bool true) ∧ Below w.heap.size w w' := by
  have hs := ba_size l
  have HW := Lib.hid hw
  obtain ⟨hi1, hi2⟩ := i64_of hi
  have HC := Lib.hid hc
  have HLEN := Lib.hid (fun ys (hy : ∀ x ∈ ys, x ∈ xs) => enc_len ys (fun x hx => by obtain ⟨u, hu, hlt⟩ := u64_of (hw x (hy x hx)); omega))
  clear hc hw hi
  obtain ⟨g, hg⟩ : ∃ g, g = w.heap.size := ⟨_, rfl⟩
  have HG := Lib.hid hg
  clear hg
  go_enter Try.func5, Try.ntmps5
  go_wp2_with fail
  go_loopw [7, 8] (fun a i wr => ∃ k : Nat, i = .int .i64 (k : Int) ∧ k ≤ xs.length ∧ a = .string (ba (enc (xs.take k))) ∧ Below g w wr)
    (fun _ i _ => xs.length - (intOf i).toNat)
  case atStart => exact ⟨0, rfl, Nat.zero_le _, rfl, Below.refl _ _⟩
  case round =>
    obtain ⟨k, rfl, hk, rfl, hb⟩ := hrel
    have hgb0 : g ≤ wr.drew.heap.size := by rw [HG.out]; exact hb.size
    by_cases hlt : k < xs.length
    · obtain ⟨x, hxk⟩ : ∃ x, xs[k]? = some x := ⟨_, List.getElem?_eq_getElem hlt⟩
      obtain ⟨b, off, rfl, hbl, hcell0⟩ := HC.out k (.int .u64 x) (by rw [List.getElem?_map, hxk]; rfl)
      rw [← HG.out] at hbl
      obtain ⟨u, rfl, hu⟩ := u64_of (HW.out x (List.mem_of_getElem? hxk))
      have hcell := (s_keep hcell0 hbl hb).1
      have HC0 := Lib.hid hcell0
      have HXK := Lib.hid hxk
      clear hxk hcell0
      have he := HLEN.out (xs.take k) (fun x hx => List.mem_of_mem_take hx)
      have he2 : (enc (xs.take k)).length ≤ 720 := by rw [List.length_take] at he; omega
      have hp := put_len10 hu
      have hf := fixed_len 8 u
      have hadd1 := add_ba (enc (xs.take k)) (put u) (by omega)
      have hadd2 := add_ba (enc (xs.take k) ++ put u) (fixed 8 u) (by rw [List.length_append]; omega)
      clear he hf
      go_wp2_with fail
      go_region_held3 (fun w' => w'.cell? ⟨b, off + k, none⟩ = some (.int .u64 (u : Int)) ∧ Below g w w')
          (first
            | (exact s_keep HC0.out hbl hb.drew)
            | (exact s_keep HC0.out hbl hb1)
            | (exact s_keep HC0.out hbl hb1.drew)
            | (exact s_keep HC0.out hbl hb2)
            | (exact s_keep HC0.out hbl hb2.drew)
            | go_keep)
          (first
            | (go_at_call 15; refine (put_c u hu _).mono ?_; rintro e w1 ⟨rfl, hm1⟩; have hb1 := hb.drew.trans (hm1.mono hgb0); have hg1 := Nat.le_trans hgb0 hm1.size; clear hm1)
            | (go_at_call 17; refine (fixed_c u hu _).mono ?_; rintro e w2 ⟨rfl, hm2⟩; have hb2 := hb1.trans (hm2.mono hg1); clear hm2))
      go_wp2
      go_roundw
      case rel => exact ⟨k + 1, by go_num, by omega, by rw [enc_take HXK.out]; simp, hb2⟩
      case measure => simp only [intOf]; omega
    · obtain rfl : k = xs.length := by omega
      rw [List.take_length]
      have he := HLEN.out xs (fun x hx => hx)
      have he2 : (enc xs).length ≤ 720 := by omega
      have hzl := zig_lt hi1 hi2
      have hp := put_len10 hzl
      obtain ⟨T, hT⟩ : ∃ T, T = put (zig i) ++ l := ⟨_, rfl⟩
      have hadd1 := add_ba (enc xs) (put (zig i)) (by omega)
      have hadd2 := add_ba (enc xs ++ put (zig i)) l (by rw [List.length_append]; omega)
      rw [List.append_assoc, ← hT] at hadd2
      have hTl : T.length ≤ 310 := by rw [hT, List.length_append]; omega
      have HT := Lib.hid hT
      clear he hT
      go_wp2_with fail
      refine (zig_c i hi1 hi2 _).mono ?_
      rintro e wz ⟨rfl, rfl⟩
      go_wp2_with fail
      refine (put_c (zig i) hzl _).mono ?_
      rintro e w1 ⟨rfl, hm1⟩
      have hb1 := hb.trans (hm1.mono (by rw [HG.out]; exact hb.size))
      clear hm1 hb hgb0
      go_wp2_with fail
      refine (new_c (enc xs ++ T) _).mono ?_
      rintro e w2 ⟨rfl, hr2, hw2⟩
      obtain ⟨q, hq⟩ : ∃ q, q = w1.heap.size := ⟨_, rfl⟩
      have hgq : g ≤ q := by rw [hq, HG.out]; exact hb1.size
      rw [← hq] at hr2 ⊢
      have hb2 : Below g w w2 := by rw [hw2]; exact hb1.alloc (by rw [← hq]; exact hgq) _
      clear hw2 hq hb1 hadd1 hadd2
      go_wp2_with fail
      go_loopw [10] (fun i wr => ∃ k : Nat, i = .int .i64 (k : Int) ∧ k ≤ xs.length ∧ Rdr wr q ⟨enc (xs.drop k) ++ T, 0⟩ ∧ Below g w wr)
        (fun i _ => xs.length - (intOf i).toNat)
      case atStart => exact ⟨0, rfl, Nat.zero_le _, hr2, hb2⟩
      case round =>
        clear hr2 hb2
        obtain ⟨k, rfl, hk, hr, hb⟩ := hrel
        have hqs := is_lt hr
        have hgb0 : g ≤ wr.drew.heap.size := Nat.le_trans hgq (Nat.le_of_lt hqs)
        by_cases hlt : k < xs.length
        · obtain ⟨x, hxk⟩ : ∃ x, xs[k]? = some x := ⟨_, List.getElem?_eq_getElem hlt⟩
          obtain ⟨b, off, rfl, hbl, hcell0⟩ := HC.out k (.int .u64 x) (by rw [List.getElem?_map, hxk]; rfl)
          rw [← HG.out] at hbl
          obtain ⟨u, rfl, hu⟩ := u64_of (HW.out x (List.mem_of_getElem? hxk))
          have hcell := (s_keep hcell0 hbl hb).1
          have HC0 := Lib.hid hcell0
          have hed := enc_drop hxk
          rw [hed, List.append_assoc, List.append_assoc] at hr
          have hn := num_put hu (fixed 8 u ++ (enc (xs.drop (k + 1)) ++ T))
          have hf := fix_fixed hu (enc (xs.drop (k + 1)) ++ T)
          have HN := Lib.hid hn
          have HF := Lib.hid hf
          clear hxk hcell0 hed hn hf
          go_wp2_with fail
          go_region_held3 (fun w' => w'.cell? ⟨b, off + k, none⟩ = some (.int .u64 (u : Int)) ∧ Below g w w')
            (first
              | (exact s_keep HC0.out hbl hb.drew)
              | (exact s_keep HC0.out hbl hb3)
              | (exact s_keep HC0.out hbl hb3.drew)
              | (exact s_keep HC0.out hbl hb4)
              | (exact s_keep HC0.out hbl hb4.drew)
              | go_keep)
            (first
              | (go_at_call 25; refine (num_m q _ _ (rdr_drew hr)).mono ?_; rintro e w3 ⟨rfl, hr3, ho3⟩; rw [show numV ⟨put (u : Int).toNat ++ (fixed 8 (u : Int).toNat ++ (enc (xs.drop (k + 1)) ++ T)), 0⟩ = u from HN.out.1]; have hr3 : Rdr w3 q ⟨fixed 8 u ++ (enc (xs.drop (k + 1)) ++ T), 0⟩ := HN.out.2 ▸ hr3; have hb3 := below_only hb.drew ho3 hgb0 hgq; have hg3 := Nat.le_trans hgb0 ho3.size; clear ho3)
              | (go_at_call 29; refine (fix_m q _ _ hr3).mono ?_; rintro e w4 ⟨rfl, hr4, ho4⟩; rw [HF.out.1]; rw [HF.out.2] at hr4; have hb4 := below_only hb3 ho4 hg3 hgq; clear ho4))
          go_wp2
          go_roundw
          case rel => exact ⟨k + 1, by go_num, by omega, hr4, hb4⟩
          case measure => simp only [intOf]; omega
        · obtain rfl : k = xs.length := by omega
          rw [List.drop_length, show enc [] ++ T = T from rfl, HT.out] at hr
          have hn := num_put hzl l
          have HN := Lib.hid hn
          have hzz := zag_zig i
          have HZ := Lib.hid hzz
          clear hn hzz
          go_wp2_with fail
          refine (int_m q _ _ hr).mono ?_
          rintro e w3 ⟨rfl, hr3, ho3⟩
          rw [HN.out.1, HZ.out]
          rw [HN.out.2] at hr3
          have hb3 := below_only hb ho3 hgb0 hgq
          have hg3 := Nat.le_trans hgb0 ho3.size
          clear ho3 hr hb
          go_wp2_with fail
          refine (left_c q _ _ hr3).mono ?_
          rintro e wz ⟨rfl, rfl⟩
          go_wp2_with fail
          refine (err_c q _ _ hr3).mono ?_
          rintro e wz ⟨rfl, rfl⟩
          go_wp2_with fail
          refine (zig_c i hi1 hi2 _).mono ?_
          rintro e wz ⟨rfl, rfl⟩
          go_wp2_with fail
          refine (zag_c (zig i) hzl _).mono ?_
          rintro e wz ⟨rfl, rfl⟩
          rw [HZ.out]
          go_wp2_with fail
          refine (num_m q ⟨l, 0⟩ _ hr3).mono ?_
          rintro e w4 ⟨rfl, hr4, ho4⟩
          have hb4 := below_only hb3 ho4 hg3 hgq
          have hg4 : g ≤ w4.heap.size := Nat.le_trans hg3 ho4.size
          clear ho4 hr3 hb3
          have hle := numS_len ⟨l, 0⟩
          have hlt4 := numV_lt ⟨l, 0⟩
          by_cases he : (numS ⟨l, 0⟩).e = 0
          · obtain ⟨f1, f2, f3⟩ := num_read he
            have hpos := put_len_pos (numV ⟨l, 0⟩)
            obtain ⟨y, hy⟩ : ∃ y, y = numV ⟨l, 0⟩ := ⟨_, rfl⟩
            obtain ⟨x, hxx⟩ : ∃ x, x = numS ⟨l, 0⟩ := ⟨_, rfl⟩
            rw [← hy] at f1 f2 hpos hlt4 ⊢
            rw [← hxx] at f1 f2 f3 hle he hr4
            obtain ⟨a, ha⟩ : ∃ a, a = l.length - x.l.length := ⟨_, rfl⟩
            rw [← ha] at f1 f2
            have hsub : (l.length : Int) - (x.l.length : Int) = (a : Int) := by omega
            have hge1 : 1 ≤ a := by omega
            have hale : a ≤ l.length := by omega
            have d1 : decide ((1 : Int) ≤ (a : Int)) = true := by simp; omega
            have d2 : decide (a ≤ l.length) = true := by simpa using hale
            have d3 : decide ((a : Int) ≤ (l.length : Int)) = true := by simp; omega
            have d4 : decide (1 ≤ a) = true := by simpa using hge1
            have hext : (ba l).extract 0 a = ba (put y) := by rw [extract_take, f1]
            have t1 : (x.e != 0) = false := by rw [he]; rfl
            clear hy hxx f1 f2 f3 hle he hpos ha
            go_wp2_with (first | (go_at_call 35; refine (err_c _ x _ hr4).mono ?_; rintro e wz ⟨rfl, rfl⟩) | (go_at_call 33; refine (left_c _ x _ hr4).mono ?_; rintro e wz ⟨rfl, rfl⟩))
            clear hsub
            go_region_held3 (fun w' => Below g w w')
              (first
                | (exact hb4.drew)
                | (exact hb5)
                | (exact hb5.drew)
                | (exact hb6)
                | (exact hb6.drew)
                | go_keep)
              (first
                | (go_at_call 15; refine (put_c y hlt4 _).mono ?_; rintro e w5 ⟨rfl, hm5⟩; have hb5 := hb4.drew.trans (hm5.mono hg4); have hg5 : g ≤ w5.heap.size := Nat.le_trans hg4 hm5.size; clear hm5)
                | (go_at_call 23; refine (live3_c _).mono ?_; rintro e w6 ⟨rfl, hm6⟩; have hb6 := hb5.trans (hm6.mono hg5); clear hm6))
            go_wp2
            go_ret
            rw [← HG.out]
            exact ⟨rfl, hb6⟩
          · obtain ⟨f1, f2, _⟩ := num_stays ⟨l, 0⟩ he
            have t1 : ((numS ⟨l, 0⟩).e != 0) = true := by simpa using he
            have t2 : (((numV ⟨l, 0⟩ : Nat) : Int) == 0) = true := by rw [f1]; rfl
            obtain ⟨y, hy⟩ : ∃ y, y = numV ⟨l, 0⟩ := ⟨_, rfl⟩
            obtain ⟨x, hxx⟩ : ∃ x, x = numS ⟨l, 0⟩ := ⟨_, rfl⟩
            rw [← hy] at t2 ⊢
            rw [← hxx] at t1 f2 hr4
            have t3 : ((x.l.length : Int) == (l.length : Int)) = true := by rw [f2]; simp
            clear hy hxx f1 f2 he hle hlt4
            go_wp2_with (first | (go_at_call 35; refine (err_c _ x _ hr4).mono ?_; rintro e wz ⟨rfl, rfl⟩) | (go_at_call 33; refine (left_c _ x _ hr4).mono ?_; rintro e wz ⟨rfl, rfl⟩) | (go_at_call 23; refine (live3_c _).mono ?_; rintro e w6 ⟨rfl, hm6⟩))
            go_ret
            rw [← HG.out]
            exact ⟨rfl, hb4.trans (hm6.mono hg4)⟩

theorem walk (A : Option Addr) (cap : Nat) (xs : List Int) (i : Int) (l : List UInt8) (hz2 : xs.length ≤ maxLen) (hw : ∀ x ∈ xs, (Lit.int .u64 x).wf = true) (hi : (Lit.int .i64 i).wf = true) (hz : l.length ≤ maxLen) (w : World) (hc : Cells w A (xs.map (Value.int .u64))) :
    Calls Try.prog 5 #[.slice A xs.length cap, .int .i64 i, .string (ba l)] w fun e w' => e = .returned (.bool true) ∧ Below w.heap.size w w' := by
  rcases Nat.lt_or_ge 40 xs.length with h | h
  · exact walk_out A cap _ i l (.inl h) hz hz2 w
  · rcases Nat.lt_or_ge 300 l.length with h2 | h2
    · exact walk_out A cap _ i l (.inr ⟨h, h2⟩) hz hz2 w
    · exact walk_in A cap xs i l h2 h hw hi w hc
end packBack
end Go.Proofs.Ytgdmlpndkojfeaa
