/-
  A chunk's sum, and a chunk as bytes: the program's, and the document's.
-/
import Derived.Test.YtcbkggjphoeceaaUb
namespace Go.Proofs.Ytcbkggjphoeceaa
open Go.RowKit
open Pk Cr Ck
set_option maxRecDepth 100000

theorem fixed_take (k : Nat) : ∀ (n u : Nat), k ≤ n → (fixed n u).take k = fixed k u := by
  induction k with
  | zero => intro n u _; simp [fixed]
  | succ k ih =>
    intro n u h
    cases n with
    | zero => omega
    | succ n => rw [fixed, fixed, List.take_succ_cons, ih n _ (by omega)]
theorem ext4 (u : Nat) : (ba (fixed 8 u)).extract 0 4 = ba (fixed 4 u) := by rw [extract_take, fixed_take 4 8 u (by omega)]

set_option maxHeartbeats 4000000 in
theorem stamp_c (k : Int) (b : List UInt8) (hb : b.length ≤ 140737488351232) (w : World) :
    Calls Try.prog 25 #[.agg #[.int .i64 k, .string (ba b)]] w fun e w' => e = .returned (.string (ba (stamp (k, b)))) ∧ Below w.heap.size w w' := by
  have hs := ba_size b
  have hfl := front_len (k, b)
  have hp := put_len10 (n := b.length) (by omega)
  obtain ⟨c0, c1, c2, c3⟩ := pair_new w (.int .i64 k) (.string (ba b)) 32
  obtain ⟨F, hF⟩ : ∃ F, F = front (k, b) := ⟨_, rfl⟩
  have hl1 : F.length ≤ 9223372036854775807 := by rw [hF, hfl]; simp only; omega
  obtain ⟨m, hm⟩ : ∃ m, m = more 0 (bn F) := ⟨_, rfl⟩
  obtain ⟨n, hn⟩ : ∃ n, n = more m (bn b) := ⟨_, rfl⟩
  have hm2 : m < 4294967296 := by rw [hm]; exact more_lt (by decide) (bn_lt F)
  have hn2 : n < 4294967296 := by rw [hn]; exact more_lt hm2 (bn_lt b)
  have hst : fixed 4 n = stamp (k, b) := by unfold stamp; rw [hn, hm, more_more, ← bn_append, hF]
  have HF := Lib.hid hF
  have HM := Lib.hid hm
  have HN := Lib.hid hn
  have HST := Lib.hid hst
  have hwn : IntKind.u64.wrap (n : Int) = (n : Int) := by rw [IntKind.wrap_u64]; omega
  have hx4 := ext4 n
  have hsz : (ba (fixed 8 n)).size = 8 := by rw [ba_size, fixed_len]
  have hb2 : b.length ≤ 9223372036854775807 := by omega
  clear hfl hp hF hm hn hst
  go_enter Try.func25, Try.ntmps25
  go_wp2_with fail
  go_region_held3 (fun w' => w'.cell? ⟨w.heap.size, 0, none⟩ = some (.int .i64 k) ∧ w'.cell? ⟨w.heap.size, 1, none⟩ = some (.string (ba b)) ∧ w.heap.size < w'.heap.size ∧ Below w.heap.size w w')
    (first
      | (exact pair_go (by assumption) hbn)
      | (exact pair_go (by assumption) (Below.refl _ _).drew)
      | (exact pair_go ⟨c0, c1, c2, c3⟩ (Below.refl _ _).drew)
      | go_keep)
    (first
      | (go_at_call 24; refine (lead_c k b hb _).mono ?_; rintro e w2 ⟨rfl, hbn⟩; rw [← HF.out])
      | (go_at_call 39; refine (sum_c F hl1 _).mono ?_; rintro e w2 ⟨rfl, rfl⟩; rw [← HM.out])
      | (go_at_call 38; refine (more_c m b hm2 hb2 _).mono ?_; rintro e w2 ⟨rfl, rfl⟩; rw [← HN.out]))
  have hbe := pair_below (B := w.heap.size) (w := w) (u := .int .i64 k) (v := .string (ba b)) (by assumption)
  have hbs := hbe.size
  go_wp2_with fail
  refine (fixed_c n (by omega) _).mono ?_
  rintro e w9 ⟨rfl, hb9⟩
  go_wp2_with fail
  go_ret
  exact ⟨ret_str (by rw [HST.out]), hbe.trans (hb9.mono hbs)⟩

set_option maxHeartbeats 4000000 in
theorem one_c (k : Int) (b : List UInt8) (hb : b.length ≤ 140737488351232) (w : World) :
    Calls Try.prog 14 #[.agg #[.int .i64 k, .string (ba b)]] w fun e w' => e = .returned (.string (ba (one (k, b)))) ∧ Below w.heap.size w w' := by
  have hs := ba_size b
  have hfl := front_len (k, b)
  have hp := put_len10 (n := b.length) (by omega)
  have hsl := stamp_len (k, b)
  obtain ⟨c0, c1, c2, c3⟩ := pair_new w (.int .i64 k) (.string (ba b)) 32
  obtain ⟨F, hF⟩ : ∃ F, F = front (k, b) := ⟨_, rfl⟩
  obtain ⟨T, hT⟩ : ∃ T, T = stamp (k, b) := ⟨_, rfl⟩
  have hl1 : F.length ≤ 100 := by rw [hF, hfl]; simp only; omega
  rw [← hT] at hsl
  have h1 := add_ba F b (by omega)
  have h2 := add_ba (F ++ b) T (by rw [List.length_append]; omega)
  have HF := Lib.hid hF
  have HT := Lib.hid hT
  clear hfl hp hF hT hsl
  go_enter Try.func14, Try.ntmps14
  go_wp2_with fail
  go_region_held3 (fun w' => w'.cell? ⟨w.heap.size, 0, none⟩ = some (.int .i64 k) ∧ w'.cell? ⟨w.heap.size, 1, none⟩ = some (.string (ba b)) ∧ w.heap.size < w'.heap.size ∧ Below w.heap.size w w')
    (first
      | (exact pair_go (by assumption) hbn)
      | (exact pair_go (by assumption) (Below.refl _ _).drew)
      | (exact pair_go ⟨c0, c1, c2, c3⟩ (Below.refl _ _).drew)
      | go_keep)
    (first
      | (go_at_call 24; refine (lead_c k b hb _).mono ?_; rintro e w2 ⟨rfl, hbn⟩; rw [← HF.out])
      | (go_at_call 25; refine (stamp_c k b hb _).mono ?_; rintro e w2 ⟨rfl, hbn⟩; rw [← HT.out]))
  have hbe := pair_below (B := w.heap.size) (w := w) (u := .int .i64 k) (v := .string (ba b)) (by assumption)
  go_wp2_with fail
  go_ret
  exact ⟨ret_str (by unfold one; rw [HF.out, HT.out]; simp), hbe⟩

set_option maxHeartbeats 8000000 in
theorem rone_c (k : Int) (b : List UInt8) (hb : b.length ≤ 140737488351232) (w : World) :
    Calls Try.prog 15 #[.agg #[.int .i64 k, .string (ba b)]] w fun e w' => e = .returned (.string (ba (one (k, b)))) ∧ Below w.heap.size w w' := by
  have hs := ba_size b
  have hp := put_len10 (n := b.length) (by omega)
  have hk := byt8_int k
  obtain ⟨kb, hkb⟩ : ∃ kb, kb = byt8 k := ⟨_, rfl⟩
  obtain ⟨n, hn⟩ : ∃ n, n = b.length := ⟨_, rfl⟩
  have hw : IntKind.u64.wrap (n : Int) = (n : Int) := by rw [IntKind.wrap_u64]; omega
  have hadd := add_ba [kb] (put n) (by simp; rw [hn]; omega)
  have hadd2 := add_ba ([kb] ++ put n) b (by simp; rw [hn]; omega)
  obtain ⟨c0, c1, c2, c3⟩ := pair_new w (.int .i64 k) (.string (ba b)) 32
  rw [← hkb] at hk
  rw [← hn] at hs
  have hFl : (([kb] ++ put n) ++ b).length ≤ 9223372036854775807 := by simp; rw [hn]; omega
  obtain ⟨F, hF⟩ : ∃ F, F = ([kb] ++ put n) ++ b := ⟨_, rfl⟩
  obtain ⟨m, hm⟩ : ∃ m, m = more 0 (bn F) := ⟨_, rfl⟩
  have hm2 : m < 4294967296 := by rw [hm]; exact more_lt (by decide) (bn_lt F)
  have hwm : IntKind.u64.wrap (m : Int) = (m : Int) := by rw [IntKind.wrap_u64]; omega
  have hx4 := ext4 m
  have hsz : (ba (fixed 8 m)).size = 8 := by rw [ba_size, fixed_len]
  have h4l := fixed_len 4 m
  rw [← hF] at hFl hadd2
  have hadd3 := add_ba F (fixed 4 m) (by rw [hF, h4l]; simp; rw [hn]; omega)
  have HFF := Lib.hid hF
  have HMM := Lib.hid hm
  have HN := Lib.hid hn
  have HK := Lib.hid hkb
  have hn2 : n < 18446744073709551616 := by omega
  have hkw : IntKind.u8.wrap k = (kb.toNat : Int) := by rw [IntKind.wrap_u8]; exact hk.symm
  have hcv : ∀ (W : World) (G : Nat), W.cell? ⟨G, 0, none⟩ = some (.int .u8 (kb.toNat : Int)) → (convert 42 9 (.slice (some ⟨G, 0, none⟩) 1 1)).run Try.prog W = .ok (.string (ba [kb])) W := fun W G h => conv1 h
  rw [List.singleton_append] at hadd hadd2
  clear hn hkb hp hk hF hm h4l
  go_enter Try.func15, Try.ntmps15
  go_wp2_with fail
  go_region_held (fun w' => w'.cell? ⟨w.heap.size, 0, none⟩ = some (.int .i64 k) ∧ w'.cell? ⟨w.heap.size, 1, none⟩ = some (.string (ba b)) ∧ w.heap.size < w'.heap.size ∧ Below w.heap.size w w')
    (first
      | assumption
      | (exact pair_go (by assumption) hbn)
      | (exact pair_go (by assumption) (Below.refl _ _).drew)
      | (exact pair_go ⟨c0, c1, c2, c3⟩ (Below.refl _ _).drew)
      | (exact pair_go ⟨c0, c1, c2, c3⟩ ((Below.refl _ _).alloc (Nat.le_refl _) _).drew)
      | (exact pair_go (by assumption) ((Below.refl _ _).alloc (Nat.le_refl _) _))
      | (exact pair_go (by assumption) ((Below.refl _ _).alloc (Nat.le_refl _) _).drew)
      | go_keep)
    (first
      | (go_at_call 26; refine (rPut_c n hn2 _).mono ?_; rintro e w2 ⟨rfl, hbn⟩; have kk := fun (p : Addr) (h : p.block < _) => hbn.cell (p := p) h))
  all_goals
    have hbe := pair_below (B := w.heap.size) (w := w) (u := .int .i64 k) (v := .string (ba b)) (by assumption)
    have hbs := hbe.size
    clear hcv
    go_wp2_with fail
    refine (rsum_c F hFl _).mono ?_
    rintro e w8 ⟨rfl, rfl⟩
    rw [← HMM.out]
    go_wp2_with fail
    refine (rFixed_c m (by omega) _).mono ?_
    rintro e w9 ⟨rfl, hb9⟩
    go_wp2_with fail
    go_ret
    exact ⟨ret_str (by unfold one stamp front; rw [HMM.out, HFF.out, HN.out, HK.out]; simp), hbe.trans (hb9.mono hbs)⟩
end Go.Proofs.Ytcbkggjphoeceaa
