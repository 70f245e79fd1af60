/-
  Contracts of the Readers' Done; of Swap, the program's and the document's; of the two closures that keep the word ahead.
-/
import Derived.Test.YtjjbiepmfngipaaLb
import Derived.Test.YtjjbiepmfngipaaRj
namespace Go.Proofs.Ytjjbiepmfngipaa
open Go.RowKit
open Pk
set_option maxRecDepth 100000

theorem done_c (g : Nat) (s : St) (w : World) (h : Rdr w g s) :
    Calls Try.prog 48 #[.pointer (some ⟨g, 0, none⟩)] w fun e w' => e = .returned (.int .i64 (doneV s)) ∧ w = w' := by
  by_cases he : s.e = 0
  · have hd : (s.e != 0) = false := by rw [he]; rfl
    by_cases hp : 0 < s.l.length
    · have HV : Hid (doneV s = 5) := by unfold Hid doneV; rw [if_pos he, if_pos hp]
      clear he
      go_enter Try.func48, Try.ntmps48
      go_wp2_with (first
        | (go_at_call 45; refine (err_c g s _ h).mono ?_; rintro e wz ⟨rfl, rfl⟩)
        | (go_at_call 72; refine (left_c g s _ h).mono ?_; rintro e wz ⟨rfl, rfl⟩))
      go_ret
      exact ⟨ret_int HV.out.symm, rfl⟩
    · have HV : Hid (doneV s = 0) := by unfold Hid doneV; rw [if_pos he, if_neg hp]
      clear he
      go_enter Try.func48, Try.ntmps48
      go_wp2_with (first
        | (go_at_call 45; refine (err_c g s _ h).mono ?_; rintro e wz ⟨rfl, rfl⟩)
        | (go_at_call 72; refine (left_c g s _ h).mono ?_; rintro e wz ⟨rfl, rfl⟩))
      go_ret
      exact ⟨ret_int HV.out.symm, rfl⟩
  · have hd : (s.e != 0) = true := by simpa using he
    have HV : Hid (doneV s = s.e) := by unfold Hid doneV; rw [if_neg he]
    clear he
    go_enter Try.func48, Try.ntmps48
    go_wp2_with (go_at_call 45; refine (err_c g s _ h).mono ?_; rintro e wz ⟨rfl, rfl⟩)
    go_ret
    exact ⟨ret_int HV.out.symm, rfl⟩

theorem rdone_m (g : Nat) (s : List UInt8) (st : St) (hl : s.length ≤ 140737488351232) (w : World) (h : Ref w g s st) :
    Calls Try.prog 52 #[.pointer (some ⟨g, 0, none⟩)] w fun e w' => e = .returned (.int .i64 (doneV st)) ∧ ∃ n, w' = w.drewN n := by
  obtain ⟨k, hk, hd, hr⟩ := h
  have hll := drop_at hd
  have h2 := ref_e hr
  by_cases he : st.e = 0
  · have ht : (st.e == 0) = true := by simpa using he
    by_cases hp : 0 < st.l.length
    · have HV : Hid (doneV st = 5) := by unfold Hid doneV; rw [if_pos he, if_pos hp]
      have hp2 : (0 : Int) < ((s.length - k : Nat) : Int) := by omega
      have HR := Lib.hid hr
      clear he hd hr hll
      go_enter Try.func52, Try.ntmps52
      go_wp2_with (go_at_call 73; refine (rLeft_c g s k st.e hk hl _ HR.out).mono ?_; rintro e wz ⟨rfl, n, rfl⟩)
      go_ret
      exact ⟨ret_int HV.out.symm, _, rfl⟩
    · have HV : Hid (doneV st = 0) := by unfold Hid doneV; rw [if_pos he, if_neg hp]
      have hp2 : ¬ (0 : Int) < ((s.length - k : Nat) : Int) := by omega
      have HR := Lib.hid hr
      have HE := Lib.hid he
      clear he hd hr hll
      go_enter Try.func52, Try.ntmps52
      go_wp2_with (go_at_call 73; refine (rLeft_c g s k st.e hk hl _ HR.out).mono ?_; rintro e wz ⟨rfl, n, rfl⟩)
      go_ret
      exact ⟨ret_int (by rw [HV.out, HE.out]), _, rfl⟩
  · have ht : (st.e == 0) = false := by simpa using he
    have HV : Hid (doneV st = st.e) := by unfold Hid doneV; rw [if_neg he]
    clear he hd hr hll
    go_enter Try.func52, Try.ntmps52
    go_wp2
    go_ret
    exact ⟨ret_int (by rw [HV.out]), 0, rfl⟩

theorem shr_nat (u k : Nat) (p : Nat) (hp : p = 2 ^ k) : (u : Int) / (p : Int) = ((u / p : Nat) : Int) := by subst hp; simp
theorem rev_c (u : Nat) (hu : u < 18446744073709551616) (w : World) :
    Calls Try.prog 32 #[.int .u64 (u : Int)] w fun e w' => e = .returned (.int .u64 (Re.sw u : Nat)) ∧ w = w' := by
  obtain ⟨x, hx⟩ : ∃ x, x = ((u / 256) &&& 71777214294589695) ||| ((u &&& 71777214294589695) * 256) := ⟨_, rfl⟩
  obtain ⟨y, hy⟩ : ∃ y, y = ((x / 65536) &&& 281470681808895) ||| ((x &&& 281470681808895) * 65536) := ⟨_, rfl⟩
  obtain ⟨hxl, hyl, hr⟩ := Re.rev64 u x y hu hx hy
  have m8 : ∀ z : Nat, z &&& 71777214294589695 < 72057594037927936 := fun z => Nat.lt_of_le_of_lt Nat.and_le_right (by decide)
  have m16 : ∀ z : Nat, z &&& 281470681808895 < 281474976710656 := fun z => Nat.lt_of_le_of_lt Nat.and_le_right (by decide)
  have a1 : bits .and .u64 ((u : Int) / 256) 71777214294589695 = (((u / 256) &&& 71777214294589695 : Nat) : Int) := u64_and_nat (u / 256) 71777214294589695 (by omega) (by decide)
  have a2 : bits .and .u64 (u : Int) 71777214294589695 = ((u &&& 71777214294589695 : Nat) : Int) := u64_and_nat u 71777214294589695 hu (by decide)
  have k1 := m8 (u / 256)
  have k2 := m8 u
  obtain ⟨p, hp⟩ : ∃ p, p = (u / 256) &&& 71777214294589695 := ⟨_, rfl⟩
  obtain ⟨q, hq⟩ : ∃ q, q = u &&& 71777214294589695 := ⟨_, rfl⟩
  rw [← hp] at a1 k1
  rw [← hq] at a2 k2
  have a3 : bits .or .u64 (p : Int) ((q : Int) * 256) = (x : Int) := by
    rw [hx, ← hp, ← hq]; exact u64_or_nat p (q * 256) (by omega) (by omega)
  have w1 : IntKind.u64.wrap ((q : Int) * 256) = (q : Int) * 256 := by rw [IntKind.wrap_u64]; omega
  have b1 : bits .and .u64 ((x : Int) / 65536) 281470681808895 = (((x / 65536) &&& 281470681808895 : Nat) : Int) := u64_and_nat (x / 65536) 281470681808895 (by omega) (by decide)
  have b2 : bits .and .u64 (x : Int) 281470681808895 = ((x &&& 281470681808895 : Nat) : Int) := u64_and_nat x 281470681808895 hxl (by decide)
  have k3 := m16 (x / 65536)
  have k4 := m16 x
  obtain ⟨r, hr1⟩ : ∃ r, r = (x / 65536) &&& 281470681808895 := ⟨_, rfl⟩
  obtain ⟨t, ht⟩ : ∃ t, t = x &&& 281470681808895 := ⟨_, rfl⟩
  rw [← hr1] at b1 k3
  rw [← ht] at b2 k4
  have b3 : bits .or .u64 (r : Int) ((t : Int) * 65536) = (y : Int) := by
    rw [hy, ← hr1, ← ht]; exact u64_or_nat r (t * 65536) (by omega) (by omega)
  have w2 : IntKind.u64.wrap ((t : Int) * 65536) = (t : Int) * 65536 := by rw [IntKind.wrap_u64]; omega
  have c3 : bits .or .u64 ((y : Int) / 4294967296) ((y : Int) % 4294967296 * 4294967296) = (Re.sw u : Nat) := by
    rw [← hr]; exact u64_or_nat (y / 4294967296) (y % 4294967296 * 4294967296) (by omega) (by omega)
  have w3 : IntKind.u64.wrap ((y : Int) * 4294967296) = (y : Int) % 4294967296 * 4294967296 := by rw [IntKind.wrap_u64]; omega
  have HH := Lib.hid hr
  clear hx hy hp hq hr1 ht m8 m16 hr
  go_enter Try.func32, Try.ntmps32
  go_wp2
  go_ret
  exact ⟨rfl, rfl⟩
theorem swap_c (u : Nat) (hu : u < 18446744073709551616) (w : World) :
    Calls Try.prog 14 #[.int .u64 (u : Int)] w fun e w' => e = .returned (.int .u64 (Re.sw u : Nat)) ∧ w = w' := by
  go_enter Try.func14, Try.ntmps14
  go_wp2_with fail
  refine (rev_c u hu _).mono ?_
  rintro e wz ⟨rfl, rfl⟩
  go_wp2
  go_ret
  exact ⟨rfl, rfl⟩
theorem rswap_c (u : Nat) (hu : u < 18446744073709551616) (w : World) :
    Calls Try.prog 15 #[.int .u64 (u : Int)] w fun e w' => e = .returned (.int .u64 (Re.sw u : Nat)) ∧ w = w' := by
  have HS := Lib.hid (Re.swn_eq u hu)
  go_enter Try.func15, Try.ntmps15
  go_wp2
  go_loop [0, 3, 4] (fun x v i => ∃ (k y z : Nat), k ≤ 8 ∧ i = .int .i64 (k : Int) ∧ x = .int .u64 (y : Int) ∧ v = .int .u64 (z : Int) ∧ y < 18446744073709551616 ∧ z < 256 ^ k ∧ Re.swn (8 - k) z y = Re.swn 8 0 u) (fun _ _ i => 8 - (intOf i).toNat)
  case atStart => exact ⟨0, u, 0, by omega, rfl, rfl, rfl, hu, by decide, rfl⟩
  case round =>
    obtain ⟨k, y, z, hk, rfl, rfl, rfl, hy, hz, hrun⟩ := hrel
    by_cases hlt : k < 8
    · rw [show 8 - k = (8 - (k + 1)) + 1 by omega] at hrun
      have H := Lib.hid hrun
      have hz8 : z < 72057594037927936 := Nat.lt_of_lt_of_le hz (show 256 ^ k ≤ 256 ^ 7 from Nat.pow_le_pow_right (by decide) (by omega))
      have hzn : 256 * z + y % 256 < 256 ^ (k + 1) := by rw [Nat.pow_succ]; omega
      have hsum : IntKind.u64.wrap (256 * (z : Int) + (y : Int) % 256) = ((256 * z + y % 256 : Nat) : Int) := by rw [IntKind.wrap_u64]; omega
      have hmul : IntKind.u64.wrap (256 * (z : Int)) = 256 * (z : Int) := by rw [IntKind.wrap_u64]; omega
      have HZ := Lib.hid hzn
      clear hrun hz hzn
      go_wp2
      go_round
      case rel => exact ⟨k + 1, y / 256, 256 * z + y % 256, by omega, by go_num, by go_num, by go_num, by omega, HZ.out, H.out⟩
      case measure => simp [intOf]; omega
    · obtain rfl : k = 8 := by omega
      go_wp2
      go_ret
      exact ⟨ret_int (by rw [← HS.out, ← hrun]; rfl), rfl⟩

theorem grown_set (w : World) (b : Nat) (u : Value) : w.grownBy (w.setCell ⟨b, 0, none⟩ u) (some b) :=
  ⟨rfl, rfl, rfl, by simp [World.setCell], fun k _ hk => Below.heap_setCell _ _ _ _ (fun e => hk (by simp [e]))⟩
/-- block b keeps the word p -/
def Keeps (w : World) (b : Nat) (p : Nat) : Prop := Is w b 23 [.int .u64 (p : Int)]
theorem xor_u64 (x y : Nat) (hx : x < 18446744073709551616) (hy : y < 18446744073709551616) : bits .xor .u64 (x : Int) (y : Int) = ((x ^^^ y : Nat) : Int) := u64_xor_nat x y hx hy
theorem unlike_c (w : World) : Calls Try.prog 33 #[] w fun e w' =>
    e = .returned (.func (.func 58) #[] #[.pointer (some ⟨w.heap.size, 0, none⟩)]) ∧ Keeps w' w.heap.size 0 ∧ Below w.heap.size w w' ∧ w.heap.size < w'.heap.size := by
  have hmf : ∀ (fn : Fn) (first cap : Array Value) (w : World), (Instr.makeFunc fn first cap).run Try.prog w = .ok (.func fn first cap) w := fun _ _ _ _ => rfl
  go_enter Try.func33, Try.ntmps33
  go_wp2
  go_ret
  refine ⟨rfl, ?_, ?_, ?_⟩
  · first | exact is_new w 23 [.int .u64 0] | exact is_set (is_new w 23 [.int .u64 0]) 0 (.int .u64 0)
  · first | exact (Below.refl _ _).alloc (Nat.le_refl _) _ | exact Below.setCell ((Below.refl _ _).alloc (Nat.le_refl _) _) (p := ⟨w.heap.size, 0, none⟩) (Nat.le_refl _) _
  · simp
theorem whole_c (w : World) : Calls Try.prog 42 #[] w fun e w' =>
    e = .returned (.func (.func 68) #[] #[.pointer (some ⟨w.heap.size, 0, none⟩)]) ∧ Keeps w' w.heap.size 0 ∧ Below w.heap.size w w' ∧ w.heap.size < w'.heap.size := by
  have hmf : ∀ (fn : Fn) (first cap : Array Value) (w : World), (Instr.makeFunc fn first cap).run Try.prog w = .ok (.func fn first cap) w := fun _ _ _ _ => rfl
  go_enter Try.func42, Try.ntmps42
  go_wp2
  go_ret
  refine ⟨rfl, ?_, ?_, ?_⟩
  · first | exact is_new w 23 [.int .u64 0] | exact is_set (is_new w 23 [.int .u64 0]) 0 (.int .u64 0)
  · first | exact (Below.refl _ _).alloc (Nat.le_refl _) _ | exact Below.setCell ((Below.refl _ _).alloc (Nat.le_refl _) _) (p := ⟨w.heap.size, 0, none⟩) (Nat.le_refl _) _
  · simp
theorem unlike1_c (b u p : Nat) (hu : u < 18446744073709551616) (hp : p < 18446744073709551616) (w : World) (h : Keeps w b p) : Calls Try.prog 58 #[.int .u64 (u : Int), .pointer (some ⟨b, 0, none⟩)] w fun e w' =>
    e = .returned (.int .u64 (u ^^^ p : Nat)) ∧ Keeps w' b u ∧ w.grownBy w' (some b) := by
  have hc := is_cell h 0
  have hf := is_free h 0
  have hlt := is_lt h
  have hset := is_set h 0 (.int .u64 (u : Int))
  have hg := grown_set w b (.int .u64 (u : Int))
  simp only [List.getElem?_cons_zero, List.set_cons_zero] at hc hset
  have hx := xor_u64 u p hu hp
  clear h
  go_enter Try.func58, Try.ntmps58
  go_wp2
  go_ret
  exact ⟨rfl, hset, hg⟩
theorem whole1_c (b x p : Nat) (hx : x < 18446744073709551616) (hp : p < 18446744073709551616) (w : World) (h : Keeps w b p) : Calls Try.prog 68 #[.int .u64 (x : Int), .pointer (some ⟨b, 0, none⟩)] w fun e w' =>
    e = .returned (.int .u64 (x ^^^ p : Nat)) ∧ Keeps w' b (x ^^^ p) ∧ w.grownBy w' (some b) := by
  have hc := is_cell h 0
  have hf := is_free h 0
  have hlt := is_lt h
  have hset := is_set h 0 (.int .u64 (x ^^^ p : Nat))
  have hg := grown_set w b (.int .u64 (x ^^^ p : Nat))
  simp only [List.getElem?_cons_zero, List.set_cons_zero] at hc hset
  have hxx : bits .xor .u64 (p : Int) (x : Int) = ((x ^^^ p : Nat) : Int) := by rw [Nat.xor_comm]; exact xor_u64 p x hp hx
  clear h
  go_enter Try.func68, Try.ntmps68
  go_wp2
  go_ret
  exact ⟨rfl, hset, hg⟩
end Go.Proofs.Ytjjbiepmfngipaa
