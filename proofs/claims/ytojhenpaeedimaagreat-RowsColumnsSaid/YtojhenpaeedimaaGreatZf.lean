/-
 A Builder under way: its bytes, and what stays beside it.
 One of package rows, and the document's.
 A name that is read: the program's.
-/
import Derived.Test.YtojhenpaeedimaaGreatBt
import Derived.Test.YtojhenpaeedimaaGreatMg
import Derived.WalkKit
import Derived.Test.YtojhenpaeedimaaGreatUg
import Derived.Test.YtojhenpaeedimaaGreatTl
import Derived.Test.YtojhenpaeedimaaGreatBc
import Derived.Test.YtojhenpaeedimaaGreatEb
import Derived.Test.YtojhenpaeedimaaGreatEd
import Derived.Test.YtojhenpaeedimaaGreatNi
import Derived.Deep.RegionHeld3
import Derived.Test.YtojhenpaeedimaaGreatBl
section
namespace Go.Proofs.YtojhenpaeedimaaGreat
open Go.RowKit Go.IntWalk
set_option maxRecDepth 100000
/-- the Builder at b holds L; of what lay in w0, below B, nothing else is turned -/
structure Bd (w0 : World) (B b : Nat) (L : List UInt8) (W : World) : Prop where
 bld : Bld W B b L
 but : But B b w0 W
 sz : B ≤ W.heap.size
 lt : b < B
theorem Bd.start {w w0 : World} (hb : Below (w.alloc (.cells #[.pointer none, .slice none 0 0] 111)).heap.size (w.alloc (.cells #[.pointer none, .slice none 0 0] 111)) w0) : Bd w0 w0.heap.size w.heap.size [] w0 :=
 ⟨bld_grown (bld_new w _) hb, But.refl _ _ _, Nat.le_refl _, by have := hb.size; rw [World.size_alloc] at this; omega⟩
theorem Bd.step {w0 : World} {B b : Nat} {L : List UInt8} {W W' : World} (h : Bd w0 B b L W) (hb : Below W.heap.size W W') : Bd w0 B b L W' :=
 ⟨bld_grown h.bld hb, h.but.trans (but_below (b := b) (hb.mono h.sz)), Nat.le_trans h.sz hb.size, h.lt⟩
theorem bwrite_v {w0 : World} {B b : Nat} {L s : List UInt8} {W : World} (h : Bd w0 B b L W) (hl : L.length + s.length ≤ 140737488355328) :
  Calls Tryz.prog 86 #[.pointer (some ⟨b, 0, none⟩), .string (ba s)] W fun e w' => e = .returned (.tuple #[.int .i64 s.length, .nilIface]) ∧ Bd w0 B b (L ++ s) w' :=
 (write_c B b L s W h.bld hl h.sz).mono fun _ _ hh => ⟨hh.1, hh.2.1, h.but.trans hh.2.2.1, Nat.le_trans h.sz hh.2.2.1.size, h.lt⟩
theorem bstring_v {w0 : World} {B b : Nat} {L : List UInt8} {W : World} (h : Bd w0 B b L W) :
  Calls Tryz.prog 88 #[.pointer (some ⟨b, 0, none⟩)] W fun e w' => e = .returned (.string (ba L)) ∧ Below b W w' :=
 string_c B b b L W h.bld (Nat.le_of_lt h.lt) (Nat.le_refl _)
theorem Bd.cell {w0 : World} {B b : Nat} {L : List UInt8} {W : World} (h : Bd w0 B b L W) {p : Addr} (hp : p.block < B) (hne : p.block ≠ b) : W.cell? p = w0.cell? p := World.cell?_of_block (a := p) (h.but.block _ hp hne)
theorem Bd.below {w w0 : World} {B b : Nat} {L : List UInt8} {W : World} (h : Bd w0 B b L W) (hw : Below w.heap.size w w0) (hB : w.heap.size ≤ B) (hb : w.heap.size ≤ b) : Below w.heap.size w W := hw.trans (h.but.below hB hb)
/-- what lay there ahead of the Builder lies there still -/
theorem Bd.at_ {w w0 : World} {B b : Nat} {L : List UInt8} {W : World} {A : Option Addr} {xs : List Value} (hd : Bd w0 B b L W) (hw : Below w.heap.size w w0) (hb : w.heap.size ≤ b) (h : At w w.heap.size A xs) : At W W.heap.size A xs :=
 h.keep (hd.below hw (by have := hd.lt; omega) hb)
end Go.Proofs.YtojhenpaeedimaaGreat
end
section
namespace Go.Proofs.YtojhenpaeedimaaGreat
open Go.RowKit Go.IntWalk
open Pk Rf Fl
set_option maxRecDepth 100000
attribute [local go_sem] Oper.semAt_some
theorem u64_wrap (n : Int) : IntKind.u64.wrap n = (u64 n : Int) := by rw [IntKind.wrap_u64]; unfold u64; omega
/-- the four numbers of a move -/
def fourN (m : Mv) : List Int := [mc m, mr m, pa (mw m), ch (mw m)]
def preB (m : Mv) (k : Nat) : List UInt8 := ((fourN m).take k).flatMap fun n => put (u64 n)
theorem preB_step {m : Mv} {k : Nat} {n : Int} (h : (fourN m)[k]? = some n) : preB m (k + 1) = preB m k ++ put (u64 n) := by
 unfold preB; rw [List.take_add_one, h]; simp
theorem put10 (n : Int) : (put (u64 n)).length ≤ 10 := put_len10 (u64_lt n)
theorem preB_len (m : Mv) (k : Nat) (hk : k ≤ 4) : (preB m k).length ≤ 40 := by
 have h1 := put10 (mc m)
 have h2 := put10 (mr m)
 have h3 := put10 (pa (mw m))
 have h4 := put10 (ch (mw m))
 match k, hk with
 | 0, _ => simp [preB]
 | 1, _ => simp [preB, fourN]; omega
 | 2, _ => simp [preB, fourN]; omega
 | 3, _ => simp [preB, fourN]; omega
 | 4, _ => simp [preB, fourN]; omega
theorem one_four (m : Mv) : oneB m = preB m 4 ++ (put (nm (mw m)).length ++ nm (mw m)) ++ fixed 8 (cb (rk (mw m))) := by
 rw [oneB_eq]; simp [preB, fourN]
theorem fixed_len8 (n : Nat) : (fixed 8 n).length = 8 := by simp [fixed]
theorem one_len (m : Mv) : (oneB m).length ≤ (nm (mw m)).length + 10 + 48 ∨ 18446744073709551616 ≤ (nm (mw m)).length := by
 by_cases h : (nm (mw m)).length < 18446744073709551616
 ·left
  have h1 := preB_len m 4 (by omega)
  have h2 := put_len10 (n := (nm (mw m)).length) h
  rw [one_four, List.length_append, List.length_append, List.length_append, fixed_len8]
  omega
 ·right; omega
set_option maxHeartbeats 8000000 in
theorem pone_c (m : Mv) (hr : rk (mw m) < 18446744073709551616) (hn : (nm (mw m)).length ≤ 100000) (w : World) :
  Calls Tryz.prog 85 #[.agg #[.int .i64 (mc m), .int .i64 (mr m), .int .i64 (pa (mw m)), .int .i64 (ch (mw m)), .string (ba (nm (mw m))), .float .f64 (rk (mw m))]] w fun e w' => e = .returned (.string (ba (oneB m))) ∧ Below w.heap.size w w' := by
 obtain ⟨W1, hW1⟩ : ∃ W1, W1 = w.alloc (.cells #[.int .i64 (mc m), .int .i64 (mr m), .int .i64 (pa (mw m)), .int .i64 (ch (mw m)), .string (ba (nm (mw m))), .float .f64 (rk (mw m))] 51) := ⟨_, rfl⟩
 obtain ⟨W2, hW2⟩ : ∃ W2, W2 = W1.alloc (.cells #[.pointer none, .slice none 0 0] 111) := ⟨_, rfl⟩
 obtain ⟨W3, hW3⟩ : ∃ W3, W3 = W2.alloc (.cells #[.int .i64 (mc m), .int .i64 (mr m), .int .i64 (pa (mw m)), .int .i64 (ch (mw m))] 3) := ⟨_, rfl⟩
 have s1 : W1.heap.size = w.heap.size + 1 := by rw [hW1]; simp
 have s2 : W2.heap.size = w.heap.size + 2 := by rw [hW2, World.size_alloc, s1]
 have s3 : W3.heap.size = w.heap.size + 3 := by rw [hW3, World.size_alloc, s2]
 have b1 : Below w.heap.size w W1 := by rw [hW1]; exact (Below.refl _ _).alloc (Nat.le_refl _) _
 have b2 : Below W1.heap.size W1 W2 := by rw [hW2]; exact (Below.refl _ _).alloc (Nat.le_refl _) _
 have b3 : Below W2.heap.size W2 W3 := by rw [hW3]; exact (Below.refl _ _).alloc (Nat.le_refl _) _
 have hd := Bd.start (w := W1) (w0 := W3) (by rw [← hW2]; exact b3)
 rw [s1, s3] at hd
 have hi1 : Is W1 w.heap.size 51 (mcs m) := by rw [hW1]; exact is_new w 51 (mcs m)
 have hi3 : Is W3 (w.heap.size + 1 + 1) 3 [.int .i64 (mc m), .int .i64 (mr m), .int .i64 (pa (mw m)), .int .i64 (ch (mw m))] := by rw [hW3, show w.heap.size + 1 + 1 = W2.heap.size by omega]; exact is_new W2 3 _
 have b03 : Below w.heap.size w W3 := b1.trans ((b2.mono (by omega)).trans (b3.mono (by omega)))
 have hx3 : Is W3 w.heap.size 51 (mcs m) := is_below (is_below hi1 b2 (by omega)) b3 (by omega)
 have HMB := Lib.hid hx3
 have HIB := Lib.hid hi3
 have HB03 := Lib.hid b03
 have HW := Lib.hid (And.intro hW1 (And.intro hW2 hW3))
 have hbox : ∀ L W, Bd W3 (w.heap.size + 3) (w.heap.size + 1) L W → (∀ i, W.cell? ⟨w.heap.size, i, none⟩ = (mcs m)[i]?) ∧ ∀ i, W.cell? ⟨w.heap.size + 1 + 1, i, none⟩ = ([.int .i64 (mc m), .int .i64 (mr m), .int .i64 (pa (mw m)), .int .i64 (ch (mw m))] : List Value)[i]? := fun L W h =>
  ⟨fun i => (h.cell (p := ⟨w.heap.size, i, none⟩) (by show w.heap.size < _; omega) (by show w.heap.size ≠ _; omega)).trans (is_cell HMB.out i),
   fun i => (h.cell (p := ⟨w.heap.size + 1 + 1, i, none⟩) (by show w.heap.size + 1 + 1 < _; omega) (by show w.heap.size + 1 + 1 ≠ _; omega)).trans (is_cell HIB.out i)⟩
 have HBOX := Lib.hid hbox
 have HD := Lib.hid hd
 have hbits := fun w => bits_c (rk (mw m)) hr w
 have HBITS := Lib.hid hbits
 have hcb := cb_lt (rk (mw m)) hr
 clear hd hi1 hi3 b03 hx3 hbox b1 b2 b3 s1 s2 s3 hW1 hW2 hW3 hbits
 go_enter Tryz.func85, Tryz.ntmps85
 go_wp2_with fail
 rw [← HW.out.1, ← HW.out.2.1, ← HW.out.2.2]
 go_loopw [18] (fun i wr => ∃ k : Nat, i = .int .i64 (k : Int) ∧ k ≤ 4 ∧ Bd W3 (w.heap.size + 3) (w.heap.size + 1) (preB m k) wr) (fun i _ => 4 - (Go.RowKit.intOf i).toNat)
 case atStart => exact ⟨0, rfl, by omega, HD.out⟩
 case round =>
  clear HD
  obtain ⟨k, rfl, hk, hd⟩ := hrel
  have HD := Lib.hid hd
  have hpl := preB_len m k hk
  obtain ⟨hb1, hb2⟩ := HBOX.out _ _ hd
  clear hd
  by_cases hlt : k < 4
  ·obtain ⟨n, hnk⟩ := some_at (show k < (fourN m).length from hlt)
   have hcell : wr.cell? ⟨w.heap.size + 1 + 1, k, none⟩ = some (.int .i64 n) := by
    rw [hb2 k]
    match k, hlt, hnk with
    | 0, _, h => cases h; rfl
    | 1, _, h => cases h; rfl
    | 2, _, h => cases h; rfl
    | 3, _, h => cases h; rfl
   have hki : (0 : Int) ≤ (k : Int) := by omega
   have hk4 : (k : Int) < 4 := by omega
   have hwu := u64_wrap n
   have hp10 := put10 n
   have HN := Lib.hid hnk
   clear hb1 hb2 hnk
   go_wp2_with fail
   refine (put_c (u64 n) (u64_lt n) _).mono ?_
   rintro e w5 ⟨rfl, hb⟩
   have HD5 := Lib.hid (HD.out.step hb)
   clear hb hcell
   go_wp2_with fail
   refine (bwrite_v HD5.out (by omega)).mono ?_
   rintro e w6 ⟨rfl, hd6⟩
   have HD6 := Lib.hid hd6
   clear hd6
   go_wp2_with fail
   go_roundw
   case rel => exact ⟨k + 1, by go_num, by omega, by rw [preB_step HN.out]; exact HD6.out⟩
   case measure => simp only [Go.RowKit.intOf]; omega
  ·obtain rfl : k = 4 := by omega
   have h4 : wr.cell? ⟨w.heap.size, 4, none⟩ = some (.string (ba (nm (mw m)))) := hb1 4
   have hnk4 : ¬ ((4 : Nat) : Int) < 4 := by omega
   have hpn := put_len10 (n := (nm (mw m)).length) (by omega)
   clear hb1 hb2
   go_wp2_with fail
   refine (wput_c (nm (mw m)) (by omega) _).mono ?_
   rintro e w5 ⟨rfl, hb⟩
   have HD5 := Lib.hid (HD.out.step hb)
   clear hb h4
   go_wp2_with fail
   refine (bwrite_v HD5.out (by rw [List.length_append]; omega)).mono ?_
   rintro e w6 ⟨rfl, hd6⟩
   have h5 : w6.cell? ⟨w.heap.size, 5, none⟩ = some (.float .f64 (rk (mw m))) := (HBOX.out _ _ hd6).1 5
   have HD6 := Lib.hid hd6
   clear hd6
   go_wp2_with fail
   refine (HBITS.out _).mono ?_
   rintro e w7 ⟨rfl, hb⟩
   have HD7 := Lib.hid (HD6.out.step hb)
   clear hb h5
   go_wp2_with fail
   refine (fixed_c (cb (rk (mw m))) hcb _).mono ?_
   rintro e w8 ⟨rfl, hb⟩
   have HD8 := Lib.hid (HD7.out.step hb)
   clear hb
   go_wp2_with fail
   refine (bwrite_v HD8.out (by rw [List.length_append, List.length_append, fixed_len8]; omega)).mono ?_
   rintro e w9 ⟨rfl, hd9⟩
   have HD9 := Lib.hid hd9
   clear hd9
   go_wp2_with fail
   refine (bstring_v HD9.out).mono ?_
   rintro e w10 ⟨rfl, hb⟩
   have HB10 := Lib.hid hb
   clear hb
   go_wp2_with fail
   go_ret
   rw [show oneB m = preB m 4 ++ (put (nm (mw m)).length ++ (nm (mw m) ++ fixed 8 (cb (rk (mw m))))) by rw [one_four]; simp]
   exact ⟨rfl, (HD9.out.below HB03.out (by omega) (by omega)).trans (HB10.out.mono (by omega))⟩
end Go.Proofs.YtojhenpaeedimaaGreat
end
section
namespace Go.Proofs.YtojhenpaeedimaaGreat
open Go.RowKit Go.IntWalk
open Pk Rf Fl Wd
set_option maxRecDepth 100000
attribute [local go_sem] Oper.semAt_some
theorem grownB (A : World) (row : Option Nat) : A.grownBy A row := ⟨rfl, rfl, rfl, Nat.le_refl _, fun _ _ _ => rfl⟩
theorem below_thenG {A B C : World} {g : Nat} (h : Below A.heap.size A B) (k : B.grownBy C (some g)) : A.grownBy C (some g) :=
 ⟨k.os.trans h.os, k.tape.trans h.tape, k.output.trans h.output, Nat.le_trans h.size k.size, fun i hi hne => (k.block i (Nat.lt_of_lt_of_le hi h.size) hne).trans (h.block i hi)⟩
theorem grown_thenG {A B C : World} {g : Nat} (h : A.grownBy B (some g)) (k : B.grownBy C (some g)) : A.grownBy C (some g) :=
 ⟨k.os.trans h.os, k.tape.trans h.tape, k.output.trans h.output, Nat.le_trans h.size k.size, fun i hi hne => (k.block i (Nat.lt_of_lt_of_le hi h.size) hne).trans (h.block i hi hne)⟩
theorem grown_thenB {A B C : World} {g : Nat} (h : A.grownBy B (some g)) (k : Below B.heap.size B C) : A.grownBy C (some g) :=
 ⟨k.os.trans h.os, k.tape.trans h.tape, k.output.trans h.output, Nat.le_trans h.size k.size, fun i hi hne => (k.block i (Nat.lt_of_lt_of_le hi h.size)).trans (h.block i hi hne)⟩
theorem rdr_keep {w w' : World} {g : Nat} {s : St} (h : Rdr w g s) (hb : Below w.heap.size w w') : Rdr w' g s := is_below h hb (is_lt h)
theorem numS_le (s : St) : (numS s).l.length ≤ s.l.length := by
 unfold numS
 split
 ·split <;> simp
 ·exact Nat.le_refl _
theorem takeS_le (n : Int) (s : St) : (takeS n s).l.length ≤ s.l.length := by
 unfold takeS
 split
 ·split <;> simp
 ·exact Nat.le_refl _
theorem fixS_le (s : St) : (fixS s).l.length ≤ s.l.length := by
 unfold fixS
 split
 ·split <;> simp
 ·exact Nat.le_refl _
theorem tk_le (l : List UInt8) (a m : Int) : 0 ≤ (tk l a m).2.1 ∧ (tk l a m).2.1 ≤ l.length := by
 have h := numS_le ⟨l.drop a.toNat, 0⟩
 simp only [List.length_drop] at h
 unfold tk
 repeat' split
 all_goals simp
 omega
/-- a name is read -/
def namR (f : List UInt8) (s : St) : List UInt8 × Int × St :=
 if (tk f ((f.length : Int) - (s.l.length : Int)) 64).2.2 ≠ 0 then ([], (tk f ((f.length : Int) - (s.l.length : Int)) 64).2.2, s)
 else ((tk f ((f.length : Int) - (s.l.length : Int)) 64).1, 0, takeS ((tk f ((f.length : Int) - (s.l.length : Int)) 64).2.1 - ((f.length : Int) - (s.l.length : Int))) s)
set_option maxHeartbeats 4000000 in
theorem name_c (g : Nat) (f : List UInt8) (s : St) (hf : f.length ≤ 100000000) (hs : s.l.length ≤ f.length) (w : World) (h : Rdr w g s) :
  Calls Tryz.prog 196 #[.agg #[.pointer (some ⟨g, 0, none⟩), .string (ba f)]] w fun e w' =>
   e = .returned (.tuple #[.string (ba (namR f s).1), .int .i64 (namR f s).2.1]) ∧ Rdr w' g (namR f s).2.2 ∧ w.grownBy w' (some g) := by
 obtain ⟨at_, hat⟩ : ∃ a : Int, a = (f.length : Int) - (s.l.length : Int) := ⟨_, rfl⟩
 obtain ⟨tn, to, te, ht⟩ : ∃ tn to te, tk f at_ 64 = (tn, to, te) := ⟨_, _, _, rfl⟩
 have hle := tk_le f at_ 64
 rw [ht] at hle
 simp only at hle
 have hnam : namR f s = if te ≠ 0 then ([], te, s) else (tn, 0, takeS (to - at_) s) := by unfold namR; rw [← hat, ht]
 have hwa : IntKind.i64.wrap ((f.length : Int) - (s.l.length : Int)) = at_ := by rw [← hat]; exact IntWalk.i64_in _ (by omega)
 have hwt : IntKind.i64.wrap (to - at_) = to - at_ := IntWalk.i64_in _ (by omega)
 have hbs := ba_size f
 obtain ⟨W1, hW1⟩ : ∃ W1, W1 = w.alloc (.cells #[.pointer (some ⟨g, 0, none⟩), .string (ba f)] 120) := ⟨_, rfl⟩
 have b1 : Below w.heap.size w W1 := by rw [hW1]; exact (Below.refl _ _).alloc (Nat.le_refl _) _
 have hi : Is W1 w.heap.size 120 [.pointer (some ⟨g, 0, none⟩), .string (ba f)] := by rw [hW1]; exact is_new w 120 _
 have HI := Lib.hid hi
 have HB1 := Lib.hid b1
 have HR1 := Lib.hid (rdr_keep h b1)
 have HW := Lib.hid hW1
 have HT := Lib.hid ht
 have HN := Lib.hid hnam
 clear hi b1 h hW1 ht hnam hat
 go_enter Tryz.func196, Tryz.ntmps196
 go_wp2_with fail
 rw [← HW.out]
 refine quiet_held (fun W' => Below W1.heap.size W1 W') (by kernel_rfl) (by kernel_rfl) (Below.refl _ _).drew ?_
 repeat (first
  | go_big_quiet_skip
  | (simp only [hwa])
  | (go_big_quiet_want; go_big_quiet_op; go_big_quiet_on)
  | (go_big_quiet_want; apply Exists.intro; refine ⟨fun wq hq => ?_, ?_⟩; (focus (have hx := is_below HI.out hq (is_lt HI.out); have z0 : wq.cell? ⟨w.heap.size, 0, none⟩ = some (.pointer (some ⟨g, 0, none⟩)) := is_cell hx 0; have z1 : wq.cell? ⟨w.heap.size, 1, none⟩ = some (.string (ba f)) := is_cell hx 1; unfold Oper.quietAt; go_simp; all_goals (first | rfl | exact ⟨rfl, rfl⟩ | (with_reducible refine (left_c g s _ (rdr_keep HR1.out hq)).mono ?_; rintro e w9 ⟨rfl, rfl⟩; exact ⟨rfl, hq⟩)))); simp only [Act.put, List.setIfInBounds_toArray, List.set_cons_zero, List.set_cons_succ]; go_big_quiet_on))
 refine wpQuiet_nil ?_
 intro W2 hb2
 have hx2 := is_below HI.out hb2 (is_lt HI.out)
 have z0 : W2.cell? ⟨w.heap.size, 0, none⟩ = some (.pointer (some ⟨g, 0, none⟩)) := is_cell hx2 0
 have z1 : W2.cell? ⟨w.heap.size, 1, none⟩ = some (.string (ba f)) := is_cell hx2 1
 have HX2 := Lib.hid hx2
 have HB2 := Lib.hid (HB1.out.trans (hb2.mono HB1.out.size))
 have HR2 := Lib.hid (rdr_keep HR1.out hb2)
 clear hx2 hb2
 go_wp2_with fail
 refine (take_w f (by omega) at_ 64 (by omega) _).mono ?_
 rintro e W3 ⟨htk, hb3⟩
 unfold Tk at htk
 rw [HT.out] at htk
 simp only at htk
 subst htk
 have hx3 := is_below HX2.out hb3 (is_lt HX2.out)
 have y0 : W3.cell? ⟨w.heap.size, 0, none⟩ = some (.pointer (some ⟨g, 0, none⟩)) := is_cell hx3 0
 have HB3 := Lib.hid (HB2.out.trans (hb3.mono HB2.out.size))
 have HR3 := Lib.hid (rdr_keep HR2.out hb3)
 clear hx3 hb3 z0 z1
 by_cases he : te = 0
 ·subst he
  have hn2 : namR f s = (tn, 0, takeS (to - at_) s) := by rw [HN.out]; rfl
  have HN2 := Lib.hid hn2
  clear hn2
  go_wp2_with fail
  refine (take_m g (to - at_) s _ HR3.out).mono ?_
  rintro e W4 ⟨rfl, hr4, hg4⟩
  have HR4 := Lib.hid hr4
  have HG4 := Lib.hid hg4
  clear hr4 hg4
  go_wp2_with fail
  go_ret2
  rw [HN2.out]
  exact ⟨rfl, HR4.out, below_thenG HB3.out HG4.out⟩
 ·have hq1 : (te != 0) = true := by simpa using he
  have hq2 : (te == 0) = false := by simpa using he
  have hn2 : namR f s = ([], te, s) := by rw [HN.out, if_pos he]
  have HN2 := Lib.hid hn2
  clear hn2 he
  go_wp2_with fail
  go_ret2
  rw [HN2.out]
  exact ⟨rfl, HR3.out, below_thenG HB3.out (grownB _ _)⟩
end Go.Proofs.YtojhenpaeedimaaGreat
end
