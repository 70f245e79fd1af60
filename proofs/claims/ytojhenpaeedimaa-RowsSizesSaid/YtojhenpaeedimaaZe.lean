/-
 Encode of package rows, and the document's.
 Encode, the document's.
-/
import Derived.Test.YtojhenpaeedimaaZc
import Derived.Test.YtojhenpaeedimaaCue
import Derived.Test.YtojhenpaeedimaaUi
import Derived.Test.YtojhenpaeedimaaUh
section
namespace Go.Proofs.Ytojhenpaeedimaa
open Go.RowKit Go.IntWalk
open Pk Rf Fl
set_option maxRecDepth 100000
attribute [local go_sem] Oper.semAt_some
theorem hadd_v (a b : List UInt8) (h : a.length + b.length ≤ 9223372036854775807) (w : World) : (Op.stringOp .add (ba a) (ba b)).run Try.prog w = .ok (.string (ba (a ++ b))) w := by
 have e : ba a ++ ba b = ba (a ++ b) := by
  apply ByteArray.ext
  simp [ba]
 rw [run_string_add_sum w (ba a) (ba b) (by rw [ba_size, ba_size]; exact h), e]
/-- such moves as may come -/
def Mok (l : List Mv) : Prop := ∀ m ∈ l, rk (mw m) < 18446744073709551616 ∧ (nm (mw m)).length ≤ 100000
def encN (l : List Mv) (k : Nat) : List UInt8 := startB ++ (put l.length ++ (l.take k).flatMap oneB)
theorem encN_step {l : List Mv} {k : Nat} {m : Mv} (h : l[k]? = some m) : encN l (k + 1) = encN l k ++ oneB m := by
 unfold encN; rw [List.take_add_one, h]; simp
theorem encN_zero (l : List Mv) : encN l 0 = startB ++ put l.length := by simp [encN]
theorem encN_all (l : List Mv) : encN l l.length = encB l := by unfold encN encB; rw [List.take_length]
theorem one_len2 {m : Mv} (h : (nm (mw m)).length ≤ 100000) : (oneB m).length ≤ 100058 := by
 rcases one_len m with h1 | h1 <;> omega
theorem flat_len {l : List Mv} (h : Mok l) : (l.flatMap oneB).length ≤ l.length * 100058 := by
 induction l with
 | nil => simp
 | cons m t ih =>
  rw [List.flatMap_cons, List.length_append, List.length_cons]
  have h1 := one_len2 (h m (List.mem_cons_self ..)).2
  have h2 := ih fun x hx => h x (List.mem_cons_of_mem _ hx)
  omega
theorem encN_len {l : List Mv} (h : Mok l) (hl : l.length ≤ 10000) (k : Nat) : (encN l k).length ≤ 1100000000 := by
 have h1 := flat_len (l := l.take k) fun x hx => h x (List.mem_of_mem_take hx)
 have h2 := put_len10 (n := l.length) (by omega)
 have h3 : (l.take k).length ≤ 10000 := by rw [List.length_take]; omega
 have h4 : (l.take k).length * 100058 ≤ 10000 * 100058 := Nat.mul_le_mul_right _ h3
 unfold encN
 rw [List.length_append, List.length_append, show startB.length = 5 from rfl]
 omega
theorem bbyte_v {w0 : World} {B b : Nat} {L : List UInt8} {W : World} (h : Bd w0 B b L W) (hl : L.length ≤ 1000) :
  Calls Try.prog 80 #[.pointer (some ⟨b, 0, none⟩), .int .u8 1] W fun e w' => e = .returned .nilIface ∧ Bd w0 B b (L ++ [1]) w' := by
 have hw := Ck.writeByte_c B b L 1 W h.bld (by omega) h.sz
 exact hw.mono fun e w' hh => ⟨hh.1, hh.2.1, h.but.trans hh.2.2, Nat.le_trans h.sz hh.2.2.size, h.lt⟩
set_option maxHeartbeats 4000000 in
theorem join0_c (w : World) :
  Calls Try.prog 55 #[.int .i64 1, .slice none 0 0] w fun e w' => e = .returned (.tuple #[.string (ba startB), .int .i64 0]) ∧ Below w.heap.size w w' := by
 obtain ⟨W1, hW1⟩ : ∃ W1, W1 = w.alloc (.cells #[.pointer none, .slice none 0 0] 45) := ⟨_, rfl⟩
 have hd := Bd.start (w := w) (w0 := W1) (by rw [hW1]; exact Below.refl _ _)
 have hb : Below w.heap.size w W1 := by rw [hW1]; exact (Below.refl _ _).alloc (Nat.le_refl _) _
 have HD := Lib.hid hd
 have HB := Lib.hid hb
 have HW := Lib.hid hW1
 have hsz : W1.heap.size = w.heap.size + 1 := by rw [hW1]; simp
 clear hd hb hW1
 go_enter Try.func55, Try.ntmps55
 go_wp2_with fail
 rw [← HW.out]
 refine (bwrite_v (s := [66, 78, 83, 73]) HD.out (by simp)).mono ?_
 rintro e w2 ⟨rfl, hd2⟩
 have HD2 := Lib.hid hd2
 clear hd2
 go_wp2_with fail
 refine (bbyte_v HD2.out (by simp)).mono ?_
 rintro e w3 ⟨rfl, hd3⟩
 have HD3 := Lib.hid hd3
 clear hd3
 go_wp2_with fail
 refine wp_loop_rounds 1 ?_
 rw [rounds_succ]
 go_wp2_with fail
 refine (bstring_v HD3.out).mono ?_
 rintro e w4 ⟨rfl, hb4⟩
 have HB4 := Lib.hid hb4
 clear hb4
 go_wp2_with fail
 go_ret2
 exact ⟨rfl, (HD3.out.below HB.out (by omega) (Nat.le_refl _)).trans HB4.out⟩
theorem start_c (w : World) :
  Calls Try.prog 29 #[] w fun e w' => e = .returned (.string (ba startB)) ∧ Below w.heap.size w w' := by
 go_enter Try.func29, Try.ntmps29
 go_wp2_with fail
 refine (join0_c _).mono ?_
 rintro e w1 ⟨rfl, hb⟩
 have HB := Lib.hid hb
 clear hb
 go_wp2_with fail
 go_ret
 exact ⟨rfl, HB.out⟩
set_option maxHeartbeats 8000000 in
theorem pencode_c (A : Option Addr) (cap : Nat) (l : List Mv) (hl : l.length ≤ 10000) (ho : Mok l) (w : World) (hc : At w w.heap.size A (mvs l)) :
  Calls Try.prog 11 #[.slice A l.length cap] w fun e w' => e = .returned (.tuple #[.string (ba (encT l)), .int .i64 (encE l)]) ∧ Below w.heap.size w w' := by
 have HC := Lib.hid hc
 have HO := Lib.hid ho
 have hmx : l.length ≤ maxLen := by unfold maxLen; omega
 have HN := Lib.hid (show ∀ m ∈ l, (nm (mw m)).length ≤ maxLen from fun m hm => by have := (ho m hm).2; unfold maxLen; omega)
 have HEL := Lib.hid (fun k => encN_len ho hl k)
 have hwu : IntKind.u64.wrap (l.length : Int) = (l.length : Int) := by rw [IntKind.wrap_u64]; omega
 have hp10 := put_len10 (n := l.length) (by omega)
 clear hc ho
 cases hm : mayM l with
 | false =>
  have he : encT l = [] ∧ encE l = 1 := by unfold encT encE; rw [hm]; exact ⟨rfl, rfl⟩
  have HE := Lib.hid he
  have HM := Lib.hid hm
  clear hm he
  go_enter Try.func11, Try.ntmps11
  go_wp2_with fail
  refine (mmay_c A cap l hmx HN.out _ HC.out).mono ?_
  rintro e w1 ⟨rfl, hb⟩
  rw [HM.out]
  have HB := Lib.hid hb
  clear hb
  go_wp2_with fail
  go_ret2
  rw [HE.out.1, HE.out.2]
  exact ⟨rfl, HB.out⟩
 | true =>
  have he : encT l = encB l ∧ encE l = 0 := by unfold encT encE; rw [hm]; exact ⟨rfl, rfl⟩
  have HE := Lib.hid he
  have HM := Lib.hid hm
  clear hm he
  go_enter Try.func11, Try.ntmps11
  go_wp2_with fail
  refine (mmay_c A cap l hmx HN.out _ HC.out).mono ?_
  rintro e w1 ⟨rfl, hb⟩
  rw [HM.out]
  obtain ⟨W1, hW1⟩ : ∃ W1, W1 = w1.alloc (.cells #[.pointer none, .slice none 0 0] 45) := ⟨_, rfl⟩
  have hd := Bd.start (w := w1) (w0 := W1) (by rw [hW1]; exact Below.refl _ _)
  have hb1 : Below w.heap.size w W1 := by rw [hW1]; exact hb.alloc hb.size _
  have hsz : W1.heap.size = w1.heap.size + 1 := by rw [hW1]; simp
  have hs1 := hb.size
  have HD := Lib.hid hd
  have HB1 := Lib.hid hb1
  have HW := Lib.hid hW1
  clear hd hb1 hW1 hb
  go_wp2_with fail
  rw [← HW.out]
  refine (start_c _).mono ?_
  rintro e w2 ⟨rfl, hb2⟩
  have HD2 := Lib.hid (HD.out.step hb2)
  clear hb2
  go_wp2_with fail
  refine (bwrite_v HD2.out (by show 0 + startB.length ≤ _; rw [show startB.length = 5 from rfl]; omega)).mono ?_
  rintro e w3 ⟨rfl, hd3⟩
  have HD3 := Lib.hid hd3
  clear hd3
  go_wp2_with fail
  refine (put_c l.length (by omega) _).mono ?_
  rintro e w4 ⟨rfl, hb4⟩
  have HD4 := Lib.hid (HD3.out.step hb4)
  clear hb4
  go_wp2_with fail
  refine (bwrite_v HD4.out (by rw [List.nil_append, show startB.length = 5 from rfl]; omega)).mono ?_
  rintro e w5 ⟨rfl, hd5⟩
  rw [List.nil_append, ← encN_zero] at hd5
  have HD5 := Lib.hid hd5
  clear hd5 HD HD2 HD3 HD4
  go_wp2_with fail
  go_loopw [19] (fun i wr => ∃ k : Nat, i = .int .i64 (k : Int) ∧ k ≤ l.length ∧ Bd W1 W1.heap.size w1.heap.size (encN l k) wr) (fun i _ => l.length - (Go.RowKit.intOf i).toNat)
  case atStart => exact ⟨0, rfl, Nat.zero_le _, HD5.out⟩
  case round =>
   clear HD5
   obtain ⟨k, rfl, hk, hd⟩ := hrel
   have hel := HEL.out k
   have HDK := Lib.hid hd
   have hat := hd.at_ HB1.out hs1 HC.out
   clear hd
   by_cases hlt : k < l.length
   ·obtain ⟨m, hmk⟩ := some_at hlt
    have hki : (0 : Int) ≤ (k : Int) := by omega
    have hkl : (k : Int) < (l.length : Int) := by omega
    obtain ⟨b0, o0, rfl, hb0, c0, c1, c2, c3, c4, c5⟩ := move_cells hat hmk
    have hmo := HO.out m (List.mem_of_getElem? hmk)
    have hol := one_len2 hmo.2
    have HMK := Lib.hid hmk
    have HMO := Lib.hid hmo
    obtain ⟨W2, hW2⟩ : ∃ W2, W2 = wr.alloc (.cells #[.int .i64 (mc m), .int .i64 (mr m), .int .i64 (pa (mw m)), .int .i64 (ch (mw m)), .string (ba (nm (mw m))), .float .f64 (rk (mw m))] 30) := ⟨_, rfl⟩
    have HDW := Lib.hid (HDK.out.step (show Below wr.heap.size wr W2 by rw [hW2]; exact (Below.refl _ _).alloc (Nat.le_refl _) _))
    have HW2 := Lib.hid hW2
    clear hmk hmo hat hW2
    go_wp2_with fail
    rw [← HW2.out]
    refine (pone_c m HMO.out.1 HMO.out.2 _).mono ?_
    rintro e w6 ⟨rfl, hb6⟩
    have HD6 := Lib.hid (HDW.out.step hb6)
    clear hb6 c0 c1 c2 c3 c4 c5
    go_wp2_with fail
    refine (bwrite_v HD6.out (by omega)).mono ?_
    rintro e w7 ⟨rfl, hd7⟩
    have HD7 := Lib.hid hd7
    clear hd7
    go_wp2_with fail
    go_roundw
    case rel => exact ⟨k + 1, by go_num, by omega, by rw [encN_step HMK.out]; exact HD7.out⟩
    case measure => simp only [Go.RowKit.intOf]; omega
   ·obtain rfl : k = l.length := by omega
    have hall := encN_all l
    rw [hall] at HDK
    clear hat hall
    go_wp2_with fail
    refine (bstring_v HDK.out).mono ?_
    rintro e w6 ⟨rfl, hb6⟩
    have HB6 := Lib.hid hb6
    clear hb6
    go_wp2_with fail
    go_ret2
    rw [HE.out.1, HE.out.2]
    exact ⟨rfl, (HDK.out.below HB1.out (by omega) hs1).trans (HB6.out.mono hs1)⟩
end Go.Proofs.Ytojhenpaeedimaa
end
section
namespace Go.Proofs.Ytojhenpaeedimaa
open Go.RowKit Go.IntWalk
open Pk Rf Fl
set_option maxRecDepth 100000
attribute [local go_sem] Oper.semAt_some
set_option maxHeartbeats 8000000 in
theorem rencode_d (A : Option Addr) (cap : Nat) (l : List Mv) (hl : l.length ≤ 10000) (ho : Mok l) (w : World) (hc : At w w.heap.size A (mvs l)) :
  Calls Try.prog 12 #[.slice A l.length cap] w fun e w' => e = .returned (.tuple #[.string (ba (encT l)), .int .i64 (encE l)]) ∧ Below w.heap.size w w' := by
 have HC := Lib.hid hc
 have HO := Lib.hid ho
 have hmx : l.length ≤ maxLen := by unfold maxLen; omega
 have HN := Lib.hid (show ∀ m ∈ l, (nm (mw m)).length ≤ maxLen from fun m hm => by have := (ho m hm).2; unfold maxLen; omega)
 have HEL := Lib.hid (fun k => encN_len ho hl k)
 have hwu : IntKind.u64.wrap (l.length : Int) = (l.length : Int) := by rw [IntKind.wrap_u64]; omega
 have hp10 := put_len10 (n := l.length) (by omega)
 clear hc ho
 cases hm : mayM l with
 | false =>
  have he : encT l = [] ∧ encE l = 1 := by unfold encT encE; rw [hm]; exact ⟨rfl, rfl⟩
  have HE := Lib.hid he
  have HM := Lib.hid hm
  clear hm he
  go_enter Try.func12, Try.ntmps12
  go_wp2_with fail
  refine (rmmay_c A cap l hmx HN.out _ HC.out).mono ?_
  rintro e w1 ⟨rfl, hb⟩
  rw [HM.out]
  have HB := Lib.hid hb
  clear hb
  go_wp2_with fail
  go_ret2
  rw [HE.out.1, HE.out.2]
  exact ⟨rfl, HB.out⟩
 | true =>
  have he : encT l = encB l ∧ encE l = 0 := by unfold encT encE; rw [hm]; exact ⟨rfl, rfl⟩
  have HE := Lib.hid he
  have HM := Lib.hid hm
  have ha0 : ∀ w : World, (Op.stringOp .add (⟨#[66, 78, 83, 73, 1]⟩ : ByteArray) (ba (put l.length))).run Try.prog w = .ok (.string (ba (encN l 0))) w := fun w => by
   rw [encN_zero]
   exact hadd_v startB (put l.length) (by rw [show startB.length = 5 from rfl]; omega) w
  clear hm he
  go_enter Try.func12, Try.ntmps12
  go_wp2_with fail
  refine (rmmay_c A cap l hmx HN.out _ HC.out).mono ?_
  rintro e w1 ⟨rfl, hb⟩
  rw [HM.out]
  have HB1 := Lib.hid hb
  clear hb
  go_wp2_with fail
  refine (rPut_c l.length (by omega) _).mono ?_
  rintro e w2 ⟨rfl, hb2⟩
  have HB2 := Lib.hid (HB1.out.trans (hb2.mono HB1.out.size))
  clear hb2
  go_wp2_with fail
  clear ha0
  go_loopw [4, 5] (fun s i wr => ∃ k : Nat, i = .int .i64 (k : Int) ∧ s = .string (ba (encN l k)) ∧ k ≤ l.length ∧ Below w.heap.size w wr) (fun _ i _ => l.length - (Go.RowKit.intOf i).toNat)
  case atStart => exact ⟨0, rfl, rfl, Nat.zero_le _, HB2.out⟩
  case round =>
   clear HB1 HB2
   obtain ⟨k, rfl, rfl, hk, hbw⟩ := hrel
   have hel := HEL.out k
   have hat := HC.out.keep hbw
   have HBW := Lib.hid hbw
   clear hbw
   by_cases hlt : k < l.length
   ·obtain ⟨m, hmk⟩ := some_at hlt
    have hki : (0 : Int) ≤ (k : Int) := by omega
    have hkl : (k : Int) < (l.length : Int) := by omega
    obtain ⟨b0, o0, rfl, hb0, c0, c1, c2, c3, c4, c5⟩ := move_cells hat hmk
    have hmo := HO.out m (List.mem_of_getElem? hmk)
    have hol := one_len2 hmo.2
    have ha := hadd_v (encN l k) (oneB m) (by omega)
    rw [← encN_step hmk] at ha
    have HMO := Lib.hid hmo
    clear hmk hmo hat
    go_wp2_with fail
    refine (rone_d m HMO.out.1 HMO.out.2 _).mono ?_
    rintro e w6 ⟨rfl, hb6⟩
    have HB6 := Lib.hid (HBW.out.trans (hb6.mono HBW.out.size))
    clear hb6 c0 c1 c2 c3 c4 c5
    go_wp2_with fail
    go_roundw
    case rel => exact ⟨k + 1, by go_num, rfl, by omega, HB6.out⟩
    case measure => simp only [Go.RowKit.intOf]; omega
   ·obtain rfl : k = l.length := by omega
    have hall := encN_all l
    rw [hall]
    clear hat hall
    go_wp2_with fail
    go_ret2
    rw [HE.out.1, HE.out.2]
    exact ⟨rfl, HBW.out⟩
end Go.Proofs.Ytojhenpaeedimaa
end
