/-
 Plain mathematics of layer 21: a move's bytes, a file of the first version. No Go.
 One of package rows, and the document's.
-/
import Derived.Test.YtojhenpaeedimaaVj
import Derived.Test.YtojhenpaeedimaaBd
import Derived.Test.YtojhenpaeedimaaFf
import Derived.Test.YtojhenpaeedimaaZb
import Derived.Test.YtojhenpaeedimaaUg
import Derived.Test.YtojhenpaeedimaaBb
import Derived.Test.YtojhenpaeedimaaBc
import Derived.Test.YtojhenpaeedimaaEb
import Derived.Test.YtojhenpaeedimaaEe
import Derived.Test.YtojhenpaeedimaaNh
import Derived.Test.YtojhenpaeedimaaNk
import Derived.Deep.RegionHeld3
import Derived.WalkKit
section
namespace Go.Proofs.Ytojhenpaeedimaa.Rf
open Pk Fl
set_option maxRecDepth 100000
/-- a whole number's 64 bits, and back -/
def u64 (n : Int) : Nat := (n % 18446744073709551616).toNat
def i64 (n : Nat) : Int := if n < 9223372036854775808 then (n : Int) else (n : Int) - 18446744073709551616
theorem u64_lt (n : Int) : u64 n < 18446744073709551616 := by unfold u64; omega
theorem u64_pos {n : Int} (h : 0 ≤ n) (h2 : n < 18446744073709551616) : (u64 n : Int) = n := by unfold u64; omega
theorem i64_u64 {n : Int} (h : 0 ≤ n) (h2 : n < 9223372036854775808) : i64 (u64 n) = n := by
 unfold i64
 have := u64_pos h (by omega)
 rw [if_pos (by omega)]; omega
theorem u64_i64 {n : Nat} (h : n < 18446744073709551616) : u64 (i64 n) = n := by
 unfold u64 i64
 split <;> omega
/-- a move's bytes -/
def oneB (m : Mv) : List UInt8 := put (u64 (mc m)) ++ (put (u64 (mr m)) ++ (put (u64 (pa (mw m))) ++ (put (u64 (ch (mw m))) ++ (put (nm (mw m)).length ++ nm (mw m) ++ fixed 8 (cb (rk (mw m)))))))
def startB : List UInt8 := [66, 78, 83, 73, 1]
/-- a file's bytes -/
def encB (l : List Mv) : List UInt8 := startB ++ (put l.length ++ l.flatMap oneB)
def encT (l : List Mv) : List UInt8 := if mayM l then encB l else []
def encE (l : List Mv) : Int := if mayM l then 0 else 1
theorem oneB_eq (m : Mv) : oneB m = put (u64 (mc m)) ++ put (u64 (mr m)) ++ put (u64 (pa (mw m))) ++ put (u64 (ch (mw m))) ++ (put (nm (mw m)).length ++ nm (mw m)) ++ fixed 8 (cb (rk (mw m))) := by
 unfold oneB; simp
end Go.Proofs.Ytojhenpaeedimaa.Rf
end
section
namespace Go.Proofs.Ytojhenpaeedimaa
open Go.RowKit Go.IntWalk
open Pk Rf Fl
set_option maxRecDepth 100000
attribute [local go_sem] Oper.semAt_some
theorem u64_wrap (n : Int) : IntKind.u64.wrap n = (u64 n : Int) := by rw [IntKind.wrap_u64]; unfold u64; omega
/-- the four numbers of a move -/
def fourN (m : Mv) : List Int := [mc m, mr m, pa (mw m), ch (mw m)]
def preB (m : Mv) (k : Nat) : List UInt8 := ((fourN m).take k).flatMap fun n => put (u64 n)
theorem preB_step {m : Mv} {k : Nat} {n : Int} (h : (fourN m)[k]? = some n) : preB m (k + 1) = preB m k ++ put (u64 n) := by
 unfold preB; rw [List.take_add_one, h]; simp
theorem put10 (n : Int) : (put (u64 n)).length ≤ 10 := put_len10 (u64_lt n)
theorem preB_len (m : Mv) (k : Nat) (hk : k ≤ 4) : (preB m k).length ≤ 40 := by
 have h1 := put10 (mc m)
 have h2 := put10 (mr m)
 have h3 := put10 (pa (mw m))
 have h4 := put10 (ch (mw m))
 match k, hk with
 | 0, _ => simp [preB]
 | 1, _ => simp [preB, fourN]; omega
 | 2, _ => simp [preB, fourN]; omega
 | 3, _ => simp [preB, fourN]; omega
 | 4, _ => simp [preB, fourN]; omega
theorem one_four (m : Mv) : oneB m = preB m 4 ++ (put (nm (mw m)).length ++ nm (mw m)) ++ fixed 8 (cb (rk (mw m))) := by
 rw [oneB_eq]; simp [preB, fourN]
theorem fixed_len8 (n : Nat) : (fixed 8 n).length = 8 := by simp [fixed]
theorem one_len (m : Mv) : (oneB m).length ≤ (nm (mw m)).length + 10 + 48 ∨ 18446744073709551616 ≤ (nm (mw m)).length := by
 by_cases h : (nm (mw m)).length < 18446744073709551616
 ·left
  have h1 := preB_len m 4 (by omega)
  have h2 := put_len10 (n := (nm (mw m)).length) h
  rw [one_four, List.length_append, List.length_append, List.length_append, fixed_len8]
  omega
 ·right; omega
set_option maxHeartbeats 8000000 in
theorem pone_c (m : Mv) (hr : rk (mw m) < 18446744073709551616) (hn : (nm (mw m)).length ≤ 100000) (w : World) :
  Calls Try.prog 9 #[.agg #[.int .i64 (mc m), .int .i64 (mr m), .int .i64 (pa (mw m)), .int .i64 (ch (mw m)), .string (ba (nm (mw m))), .float .f64 (rk (mw m))]] w fun e w' => e = .returned (.string (ba (oneB m))) ∧ Below w.heap.size w w' := by
 obtain ⟨W1, hW1⟩ : ∃ W1, W1 = w.alloc (.cells #[.int .i64 (mc m), .int .i64 (mr m), .int .i64 (pa (mw m)), .int .i64 (ch (mw m)), .string (ba (nm (mw m))), .float .f64 (rk (mw m))] 30) := ⟨_, rfl⟩
 obtain ⟨W2, hW2⟩ : ∃ W2, W2 = W1.alloc (.cells #[.pointer none, .slice none 0 0] 45) := ⟨_, rfl⟩
 obtain ⟨W3, hW3⟩ : ∃ W3, W3 = W2.alloc (.cells #[.int .i64 (mc m), .int .i64 (mr m), .int .i64 (pa (mw m)), .int .i64 (ch (mw m))] 3) := ⟨_, rfl⟩
 have s1 : W1.heap.size = w.heap.size + 1 := by rw [hW1]; simp
 have s2 : W2.heap.size = w.heap.size + 2 := by rw [hW2, World.size_alloc, s1]
 have s3 : W3.heap.size = w.heap.size + 3 := by rw [hW3, World.size_alloc, s2]
 have b1 : Below w.heap.size w W1 := by rw [hW1]; exact (Below.refl _ _).alloc (Nat.le_refl _) _
 have b2 : Below W1.heap.size W1 W2 := by rw [hW2]; exact (Below.refl _ _).alloc (Nat.le_refl _) _
 have b3 : Below W2.heap.size W2 W3 := by rw [hW3]; exact (Below.refl _ _).alloc (Nat.le_refl _) _
 have hd := Bd.start (w := W1) (w0 := W3) (by rw [← hW2]; exact b3)
 rw [s1, s3] at hd
 have hi1 : Is W1 w.heap.size 30 (mcs m) := by rw [hW1]; exact is_new w 30 (mcs m)
 have hi3 : Is W3 (w.heap.size + 1 + 1) 3 [.int .i64 (mc m), .int .i64 (mr m), .int .i64 (pa (mw m)), .int .i64 (ch (mw m))] := by rw [hW3, show w.heap.size + 1 + 1 = W2.heap.size by omega]; exact is_new W2 3 _
 have b03 : Below w.heap.size w W3 := b1.trans ((b2.mono (by omega)).trans (b3.mono (by omega)))
 have hx3 : Is W3 w.heap.size 30 (mcs m) := is_below (is_below hi1 b2 (by omega)) b3 (by omega)
 have HMB := Lib.hid hx3
 have HIB := Lib.hid hi3
 have HB03 := Lib.hid b03
 have HW := Lib.hid (And.intro hW1 (And.intro hW2 hW3))
 have hbox : ∀ L W, Bd W3 (w.heap.size + 3) (w.heap.size + 1) L W → (∀ i, W.cell? ⟨w.heap.size, i, none⟩ = (mcs m)[i]?) ∧ ∀ i, W.cell? ⟨w.heap.size + 1 + 1, i, none⟩ = ([.int .i64 (mc m), .int .i64 (mr m), .int .i64 (pa (mw m)), .int .i64 (ch (mw m))] : List Value)[i]? := fun L W h =>
  ⟨fun i => (h.cell (p := ⟨w.heap.size, i, none⟩) (by show w.heap.size < _; omega) (by show w.heap.size ≠ _; omega)).trans (is_cell HMB.out i),
   fun i => (h.cell (p := ⟨w.heap.size + 1 + 1, i, none⟩) (by show w.heap.size + 1 + 1 < _; omega) (by show w.heap.size + 1 + 1 ≠ _; omega)).trans (is_cell HIB.out i)⟩
 have HBOX := Lib.hid hbox
 have HD := Lib.hid hd
 have hbits := fun w => bits_c (rk (mw m)) hr w
 have HBITS := Lib.hid hbits
 have hcb := cb_lt (rk (mw m)) hr
 clear hd hi1 hi3 b03 hx3 hbox b1 b2 b3 s1 s2 s3 hW1 hW2 hW3 hbits
 go_enter Try.func9, Try.ntmps9
 go_wp2_with fail
 rw [← HW.out.1, ← HW.out.2.1, ← HW.out.2.2]
 go_loopw [18] (fun i wr => ∃ k : Nat, i = .int .i64 (k : Int) ∧ k ≤ 4 ∧ Bd W3 (w.heap.size + 3) (w.heap.size + 1) (preB m k) wr) (fun i _ => 4 - (Go.RowKit.intOf i).toNat)
 case atStart => exact ⟨0, rfl, by omega, HD.out⟩
 case round =>
  clear HD
  obtain ⟨k, rfl, hk, hd⟩ := hrel
  have HD := Lib.hid hd
  have hpl := preB_len m k hk
  obtain ⟨hb1, hb2⟩ := HBOX.out _ _ hd
  clear hd
  by_cases hlt : k < 4
  ·obtain ⟨n, hnk⟩ := some_at (show k < (fourN m).length from hlt)
   have hcell : wr.cell? ⟨w.heap.size + 1 + 1, k, none⟩ = some (.int .i64 n) := by
    rw [hb2 k]
    match k, hlt, hnk with
    | 0, _, h => cases h; rfl
    | 1, _, h => cases h; rfl
    | 2, _, h => cases h; rfl
    | 3, _, h => cases h; rfl
   have hki : (0 : Int) ≤ (k : Int) := by omega
   have hk4 : (k : Int) < 4 := by omega
   have hwu := u64_wrap n
   have hp10 := put10 n
   have HN := Lib.hid hnk
   clear hb1 hb2 hnk
   go_wp2_with fail
   refine (put_c (u64 n) (u64_lt n) _).mono ?_
   rintro e w5 ⟨rfl, hb⟩
   have HD5 := Lib.hid (HD.out.step hb)
   clear hb hcell
   go_wp2_with fail
   refine (bwrite_v HD5.out (by omega)).mono ?_
   rintro e w6 ⟨rfl, hd6⟩
   have HD6 := Lib.hid hd6
   clear hd6
   go_wp2_with fail
   go_roundw
   case rel => exact ⟨k + 1, by go_num, by omega, by rw [preB_step HN.out]; exact HD6.out⟩
   case measure => simp only [Go.RowKit.intOf]; omega
  ·obtain rfl : k = 4 := by omega
   have h4 : wr.cell? ⟨w.heap.size, 4, none⟩ = some (.string (ba (nm (mw m)))) := hb1 4
   have hnk4 : ¬ ((4 : Nat) : Int) < 4 := by omega
   have hpn := put_len10 (n := (nm (mw m)).length) (by omega)
   clear hb1 hb2
   go_wp2_with fail
   refine (wput_c (nm (mw m)) (by omega) _).mono ?_
   rintro e w5 ⟨rfl, hb⟩
   have HD5 := Lib.hid (HD.out.step hb)
   clear hb h4
   go_wp2_with fail
   refine (bwrite_v HD5.out (by rw [List.length_append]; omega)).mono ?_
   rintro e w6 ⟨rfl, hd6⟩
   have h5 : w6.cell? ⟨w.heap.size, 5, none⟩ = some (.float .f64 (rk (mw m))) := (HBOX.out _ _ hd6).1 5
   have HD6 := Lib.hid hd6
   clear hd6
   go_wp2_with fail
   refine (HBITS.out _).mono ?_
   rintro e w7 ⟨rfl, hb⟩
   have HD7 := Lib.hid (HD6.out.step hb)
   clear hb h5
   go_wp2_with fail
   refine (fixed_c (cb (rk (mw m))) hcb _).mono ?_
   rintro e w8 ⟨rfl, hb⟩
   have HD8 := Lib.hid (HD7.out.step hb)
   clear hb
   go_wp2_with fail
   refine (bwrite_v HD8.out (by rw [List.length_append, List.length_append, fixed_len8]; omega)).mono ?_
   rintro e w9 ⟨rfl, hd9⟩
   have HD9 := Lib.hid hd9
   clear hd9
   go_wp2_with fail
   refine (bstring_v HD9.out).mono ?_
   rintro e w10 ⟨rfl, hb⟩
   have HB10 := Lib.hid hb
   clear hb
   go_wp2_with fail
   go_ret
   rw [show oneB m = preB m 4 ++ (put (nm (mw m)).length ++ (nm (mw m) ++ fixed 8 (cb (rk (mw m))))) by rw [one_four]; simp]
   exact ⟨rfl, (HD9.out.below HB03.out (by omega) (by omega)).trans (HB10.out.mono (by omega))⟩
set_option maxHeartbeats 8000000 in
theorem rone_d (m : Mv) (hr : rk (mw m) < 18446744073709551616) (hn : (nm (mw m)).length ≤ 100000) (w : World) :
  Calls Try.prog 10 #[.agg #[.int .i64 (mc m), .int .i64 (mr m), .int .i64 (pa (mw m)), .int .i64 (ch (mw m)), .string (ba (nm (mw m))), .float .f64 (rk (mw m))]] w fun e w' => e = .returned (.string (ba (oneB m))) ∧ Below w.heap.size w w' := by
 have hadd : ∀ (a b : List UInt8) (_ : a.length + b.length ≤ 9223372036854775807) (w : World), (Op.stringOp .add (ba a) (ba b)).run Try.prog w = .ok (.string (ba (a ++ b))) w := fun a b h w => by
  have e : ba a ++ ba b = ba (a ++ b) := by
   apply ByteArray.ext
   simp [ba]
  rw [run_string_add_sum w (ba a) (ba b) (by rw [ba_size, ba_size]; exact h), e]
 have p1 := put10 (mc m)
 have p2 := put10 (mr m)
 have p3 := put10 (pa (mw m))
 have p4 := put10 (ch (mw m))
 have pn := put_len10 (n := (nm (mw m)).length) (by omega)
 have a1 := hadd (put (u64 (mc m))) (put (u64 (mr m))) (by omega)
 have a2 := hadd (put (u64 (mc m)) ++ put (u64 (mr m))) (put (u64 (pa (mw m)))) (by rw [List.length_append]; omega)
 rw [List.append_assoc] at a2
 have a3 := hadd (put (u64 (mc m)) ++ (put (u64 (mr m)) ++ put (u64 (pa (mw m))))) (put (u64 (ch (mw m)))) (by rw [List.length_append, List.length_append]; omega)
 obtain ⟨F, hF⟩ : ∃ F, F = put (u64 (mc m)) ++ (put (u64 (mr m)) ++ put (u64 (pa (mw m)))) ++ put (u64 (ch (mw m))) := ⟨_, rfl⟩
 rw [← hF] at a3
 have hFl : F.length ≤ 40 := by rw [hF]; simp; omega
 have a4 := hadd F (put (nm (mw m)).length ++ nm (mw m)) (by rw [List.length_append]; omega)
 have a5 := hadd (F ++ (put (nm (mw m)).length ++ nm (mw m))) (fixed 8 (cb (rk (mw m)))) (by rw [List.length_append, List.length_append, fixed_len8]; omega)
 rw [List.append_assoc F, List.append_assoc (put (nm (mw m)).length)] at a5
 have u1 := u64_wrap (mc m)
 have u2 := u64_wrap (mr m)
 have u3 := u64_wrap (pa (mw m))
 have u4 := u64_wrap (ch (mw m))
 have HF := Lib.hid hF
 have hbits := fun w => rBits_c (rk (mw m)) hr w
 have HBITS := Lib.hid hbits
 have hcb := cb_lt (rk (mw m)) hr
 have HA := Lib.hid (And.intro a1 (And.intro a2 (And.intro a3 (And.intro a4 a5))))
 have HU := Lib.hid (And.intro u1 (And.intro u2 (And.intro u3 u4)))
 obtain ⟨W1, hW1⟩ : ∃ W1, W1 = w.alloc (.cells #[.int .i64 (mc m), .int .i64 (mr m), .int .i64 (pa (mw m)), .int .i64 (ch (mw m)), .string (ba (nm (mw m))), .float .f64 (rk (mw m))] 30) := ⟨_, rfl⟩
 have hi1 : Is W1 w.heap.size 30 (mcs m) := by rw [hW1]; exact is_new w 30 (mcs m)
 have b1 : Below w.heap.size w W1 := by rw [hW1]; exact (Below.refl _ _).alloc (Nat.le_refl _) _
 have HI := Lib.hid hi1
 have HB1 := Lib.hid b1
 have HW := Lib.hid hW1
 clear hbits hadd a1 a2 a3 a4 a5 u1 u2 u3 u4 hF p1 p2 p3 p4 hi1 b1 hW1
 go_enter Try.func10, Try.ntmps10
 go_wp2_with fail
 rw [← HW.out]
 obtain ⟨u1, u2, u3, u4⟩ := HU.out
 obtain ⟨a1, a2, a3, a4, a5⟩ := HA.out
 refine quiet_held (fun W' => Below W1.heap.size W1 W') (by kernel_rfl) (by kernel_rfl) (Below.refl _ _).drew ?_
 repeat (first
  | go_big_quiet_skip
  | (simp only [u1])
  | (simp only [u2])
  | (simp only [u3])
  | (simp only [u4])
  | (go_big_quiet_want; go_big_quiet_op; go_big_quiet_on)
  | (go_big_quiet_want; apply Exists.intro; refine ⟨fun wq hq => ?_, ?_⟩; (focus (have hx := is_below HI.out hq (is_lt HI.out); have z0 : wq.cell? ⟨w.heap.size, 0, none⟩ = some (.int .i64 (mc m)) := is_cell hx 0; have z1 : wq.cell? ⟨w.heap.size, 1, none⟩ = some (.int .i64 (mr m)) := is_cell hx 1; have z2 : wq.cell? ⟨w.heap.size, 2, none⟩ = some (.int .i64 (pa (mw m))) := is_cell hx 2; have z3 : wq.cell? ⟨w.heap.size, 3, none⟩ = some (.int .i64 (ch (mw m))) := is_cell hx 3; have z4 : wq.cell? ⟨w.heap.size, 4, none⟩ = some (.string (ba (nm (mw m)))) := is_cell hx 4; have z5 : wq.cell? ⟨w.heap.size, 5, none⟩ = some (.float .f64 (rk (mw m))) := is_cell hx 5; unfold Oper.quietAt; go_simp; all_goals (first | rfl | exact ⟨rfl, rfl⟩ | (with_reducible refine (rPut_c (u64 (mc m)) (u64_lt _) _).mono ?_; rintro e w9 ⟨rfl, hbn⟩; exact ⟨rfl, hq.trans (hbn.mono hq.size)⟩) | (with_reducible refine (rPut_c (u64 (mr m)) (u64_lt _) _).mono ?_; rintro e w9 ⟨rfl, hbn⟩; exact ⟨rfl, hq.trans (hbn.mono hq.size)⟩) | (with_reducible refine (rPut_c (u64 (pa (mw m))) (u64_lt _) _).mono ?_; rintro e w9 ⟨rfl, hbn⟩; exact ⟨rfl, hq.trans (hbn.mono hq.size)⟩) | (with_reducible refine (rPut_c (u64 (ch (mw m))) (u64_lt _) _).mono ?_; rintro e w9 ⟨rfl, hbn⟩; exact ⟨rfl, hq.trans (hbn.mono hq.size)⟩)))); simp only [Act.put, List.setIfInBounds_toArray, List.set_cons_zero, List.set_cons_succ]; go_big_quiet_on))
 refine wpQuiet_nil ?_
 intro W4 hb4
 have HI4 := Lib.hid (is_below HI.out hb4 (is_lt HI.out))
 have hb14 := HB1.out.trans (hb4.mono HB1.out.size)
 have HB14 := Lib.hid hb14
 have hn2 : (nm (mw m)).length ≤ 140737488351232 := by omega
 clear hb4 hb14
 go_wp2_with fail
 refine quiet_held (fun W' => Below W4.heap.size W4 W') (by kernel_rfl) (by kernel_rfl) (Below.refl _ _).drew ?_
 repeat (first
  | go_big_quiet_skip
  | (simp only [u1])
  | (simp only [u2])
  | (simp only [u3])
  | (simp only [u4])
  | (go_big_quiet_want; go_big_quiet_op; go_big_quiet_on)
  | (go_big_quiet_want; apply Exists.intro; refine ⟨fun wq hq => ?_, ?_⟩; (focus (have hx := is_below HI4.out hq (is_lt HI4.out); have z0 : wq.cell? ⟨w.heap.size, 0, none⟩ = some (.int .i64 (mc m)) := is_cell hx 0; have z1 : wq.cell? ⟨w.heap.size, 1, none⟩ = some (.int .i64 (mr m)) := is_cell hx 1; have z2 : wq.cell? ⟨w.heap.size, 2, none⟩ = some (.int .i64 (pa (mw m))) := is_cell hx 2; have z3 : wq.cell? ⟨w.heap.size, 3, none⟩ = some (.int .i64 (ch (mw m))) := is_cell hx 3; have z4 : wq.cell? ⟨w.heap.size, 4, none⟩ = some (.string (ba (nm (mw m)))) := is_cell hx 4; have z5 : wq.cell? ⟨w.heap.size, 5, none⟩ = some (.float .f64 (rk (mw m))) := is_cell hx 5; unfold Oper.quietAt; go_simp; all_goals (first | rfl | exact ⟨rfl, rfl⟩ | (with_reducible refine (rwput_c (nm (mw m)) hn2 _).mono ?_; rintro e w9 ⟨rfl, hbn⟩; exact ⟨rfl, hq.trans (hbn.mono hq.size)⟩) | (with_reducible refine (HBITS.out _).mono ?_; rintro e w9 ⟨rfl, rfl⟩; exact ⟨rfl, hq⟩) | (with_reducible refine (rFixed_c (cb (rk (mw m))) hcb _).mono ?_; rintro e w9 ⟨rfl, hbn⟩; exact ⟨rfl, hq.trans (hbn.mono hq.size)⟩)))); simp only [Act.put, List.setIfInBounds_toArray, List.set_cons_zero, List.set_cons_succ]; go_big_quiet_on))
 refine wpQuiet_nil ?_
 intro W5 hb5
 have HB15 := Lib.hid (HB14.out.trans (hb5.mono HB14.out.size))
 clear hb5 a1 a2 a3 a4 a5 u1 u2 u3 u4
 go_wp2_with fail
 go_ret
 rw [show oneB m = F ++ (put (nm (mw m)).length ++ (nm (mw m) ++ fixed 8 (cb (rk (mw m))))) by rw [HF.out]; unfold oneB; simp]
 exact ⟨rfl, HB15.out⟩
end Go.Proofs.Ytojhenpaeedimaa
end
