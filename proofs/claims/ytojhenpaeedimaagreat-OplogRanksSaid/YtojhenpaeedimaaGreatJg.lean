/-
 Encode of texts, the program's and the document's.
 Plain mathematics of layer 8: what is decoded.
-/
import Derived.Test.YtojhenpaeedimaaGreatQh
import Derived.Test.YtojhenpaeedimaaGreatDe
import Derived.Test.YtojhenpaeedimaaGreatMg
import Derived.Test.YtojhenpaeedimaaGreatJe
import Derived.Test.YtojhenpaeedimaaGreatEd
import Derived.Test.YtojhenpaeedimaaGreatEf
section
namespace Go.Proofs.YtojhenpaeedimaaGreat
open Dl Ru
namespace Dt
open Go.RowKit Go.IntWalk
open Pk Dc Wd
set_option maxRecDepth 100000
attribute [local go_sem] Oper.semAt_some
/-- P8.2 -/
def encD (l : List Tx) : List UInt8 := put (ws [] l).length ++ (enc4 (ws [] l) ++ encU (pl [] l))
theorem pl_le (l : List Tx) : ∀ a, ∀ p ∈ pl a l, p ≤ a.length + l.length := by
 induction l with
 | nil => intro a p hp; simp [pl] at hp
 | cons t r ih =>
  intro a p hp
  rw [pl] at hp
  have h1 := ix_le t a
  have h2 := add_len a t
  rcases List.mem_cons.1 hp with rfl | hp
  ·simp; omega
  ·have := ih _ p hp; simp; omega
theorem pl_nums {l : List Tx} (h : l.length ≤ 100000) : Nums (pl [] l) := fun p hp => by
 have := pl_le l [] p hp
 simp at this; omega
theorem ws_texts {l : List Tx} {n : Nat} (h : ∀ t ∈ l, t.length ≤ n) : ∀ t ∈ ws [] l, t.length ≤ n := fun t ht => by
 rcases (mem_ws l [] t).1 ht with h1 | h1
 ·simp at h1
 ·exact h t h1
theorem enc4_take_len {V : List Tx} (h : ∀ t ∈ V, t.length ≤ 100000) (hl : V.length ≤ 100000) (k : Nat) : (enc4 (V.take k)).length ≤ 100010 * 100000 := by
 have h1 := enc4_len (V.take k) 100000 (by omega) (fun x hx => h x (List.mem_of_mem_take hx))
 rw [List.length_take] at h1
 have h2 : (100000 + 10) * min k V.length ≤ 100010 * 100000 := Nat.mul_le_mul (by omega) (by omega)
 omega
theorem at_but {w1 wr : World} {A : Option Addr} {xs : List Value} {o : Obj} (h : At w1 w1.heap.size A xs) (hb : But (w1.heap.size + 1) w1.heap.size (w1.alloc o) wr) : At wr wr.heap.size A xs := fun i v hv => by
 obtain ⟨b, off, ha, hlt, hc⟩ := h i v hv
 have hs := hb.size
 rw [World.size_alloc] at hs
 refine ⟨b, off, ha, by omega, ?_⟩
 have h1 : (w1.alloc o).cell? ⟨b, off + i, none⟩ = some v := ((Below.refl w1.heap.size w1).alloc (Nat.le_refl _) o).cell (p := ⟨b, off + i, none⟩) hlt |>.trans hc
 exact (but_cell hb (p := ⟨b, off + i, none⟩) (show b < w1.heap.size + 1 by omega) (show b ≠ w1.heap.size by omega)).trans h1
set_option maxHeartbeats 8000000 in
theorem dencode_c (A : Option Addr) (cap : Nat) (l : List Tx) (hx : l.length ≤ 100000) (hts : ∀ t ∈ l, t.length ≤ 100000) (w : World) (hc : At w w.heap.size A (svs l)) :
  Calls Tryz.prog 45 #[.slice A l.length cap] w fun e w' => e = .returned (.string (ba (encD l))) ∧ Below w.heap.size w w' := by
 have HC := Lib.hid hc
 have HT := Lib.hid hts
 have hwl := ws_len l []
 rw [List.length_nil] at hwl
 have HPN := Lib.hid (pl_nums hx)
 have HPL := Lib.hid (pl_len l [])
 clear hc hts
 go_enter Tryz.func45, Tryz.ntmps45
 go_wp2_with fail
 refine (words_c A cap l hx HT.out _ HC.out).mono ?_
 rintro e w1 ⟨B1, k1, B2, k2, rfl, -, -, -, -, hat1, hat2, hb1⟩
 have HVT := Lib.hid (ws_texts HT.out)
 obtain ⟨V, hV⟩ : ∃ V, V = ws [] l := ⟨_, rfl⟩
 rw [← hV] at hat1 hwl HVT ⊢
 have HV := Lib.hid hV
 have HAT1 := Lib.hid hat1
 have HAT2 := Lib.hid hat2
 have hVl : V.length ≤ 100000 := by omega
 have hwu : IntKind.u64.wrap (V.length : Int) = (V.length : Int) := by rw [IntKind.wrap_u64]; omega
 clear hV hat1 hat2 hwl
 go_wp2_with fail
 obtain ⟨o, ho⟩ : ∃ o, o = (Obj.cells #[.pointer none, .slice none 0 0] 111) := ⟨_, rfl⟩
 have hbld0 : Bld (w1.alloc (Obj.cells #[.pointer none, .slice none 0 0] 111)) (w1.heap.size + 1) w1.heap.size [] := bld_new w1 _
 rw [← ho] at hbld0 ⊢
 have hsz2 : (w1.alloc o).heap.size = w1.heap.size + 1 := World.size_alloc _ _
 obtain ⟨w2, hw2⟩ : ∃ w2, w2 = w1.alloc o := ⟨_, rfl⟩
 have HW2 := Lib.hid hw2
 have hbb : But (w1.heap.size + 1) w1.heap.size w2 w2 := But.refl _ _ _
 have hb2 : Below w.heap.size w w2 := by rw [hw2]; exact hb1.alloc hb1.size o
 have hs1 := hb1.size
 rw [← hw2] at hbld0 hsz2 ⊢
 clear hw2 ho
 refine (put_c V.length (by omega) _).mono ?_
 rintro e w3 ⟨rfl, hm3⟩
 have hbld3 := bld_grown hbld0 hm3
 rw [hsz2] at hm3
 have hbut3 := hbb.trans (but_below (b := w1.heap.size) hm3)
 have hs3 := hbut3.size
 have hpl := put_len10 (n := V.length) (by omega)
 clear hbld0 hbb hm3
 go_wp2_with fail
 refine (write_b (w1.heap.size + 1) w1.heap.size [] (put V.length) _ hbld3 (by simp; omega) (by omega)).mono ?_
 rintro e w4 ⟨rfl, hbld4, hbut4'⟩
 have hbut4 := hbut3.trans hbut4'
 rw [List.nil_append] at hbld4
 clear hbld3 hbut3 hbut4' hs3
 go_wp2_with fail
 go_loopw [20] (fun i wr => ∃ k : Nat, i = .int .i64 (k : Int) ∧ k ≤ V.length ∧ Bld wr (w1.heap.size + 1) w1.heap.size (put V.length ++ enc4 (V.take k)) ∧ But (w1.heap.size + 1) w1.heap.size w2 wr) (fun i _ => V.length - (Go.RowKit.intOf i).toNat)
 case atStart => exact ⟨0, rfl, Nat.zero_le _, by simpa [enc4] using hbld4, hbut4⟩
 case round =>
  clear hbld4 hbut4
  obtain ⟨k, rfl, hk, hbld, hbut⟩ := hrel
  have hws := hbut.size
  rw [hsz2] at hws
  by_cases hlt : k < V.length
  ·obtain ⟨t, htk⟩ := some_at hlt
   have htl := HVT.out t (mem_at htk)
   obtain ⟨b, off, rfl, hbl, hcell⟩ := (at_but HAT1.out (by rw [← HW2.out]; exact hbut)) k _ (svs_at htk)
   have hel := enc4_take_len HVT.out hVl k
   have htp := put_len10 (n := t.length) (by omega)
   have hle : (put V.length ++ enc4 (V.take k)).length + (put t.length ++ t).length ≤ 140737488355328 := by rw [List.length_append, List.length_append]; omega
   have HX := Lib.hid (enc4_take htk)
   have htl2 : t.length ≤ 140737488351232 := by omega
   clear htk hel htp
   go_wp2_with fail
   refine (wput_c t htl2 _).mono ?_
   rintro e w5 ⟨rfl, hm5⟩
   have hbld5 := bld_grown hbld hm5
   have hbut5 := hbut.trans (but_below (b := w1.heap.size) (hm5.mono hws))
   have hws5 : w1.heap.size + 1 ≤ w5.heap.size := by have := hbut5.size; rw [hsz2] at this; exact this
   clear hbld hbut hm5 hws hcell
   go_wp2_with fail
   refine (write_b (w1.heap.size + 1) w1.heap.size _ (put t.length ++ t) _ hbld5 hle hws5).mono ?_
   rintro e w6 ⟨rfl, hbld6, hbut6'⟩
   have hbut6 := hbut5.trans hbut6'
   clear hbld5 hbut5 hbut6' hws5
   go_wp2_with fail
   go_roundw
   case rel => exact ⟨k + 1, by go_num, by omega, by rw [HX.out, ← List.append_assoc]; exact hbld6, hbut6⟩
   case measure => simp only [Go.RowKit.intOf]; omega
  ·obtain rfl : k = V.length := by omega
   rw [List.take_length] at hbld
   have HA2 := Lib.hid (at_but HAT2.out (by rw [← HW2.out]; exact hbut))
   have hel := enc4_take_len HVT.out hVl V.length
   rw [List.take_length] at hel
   have hen := encU_len HPN.out (by rw [HPL.out]; omega)
   rw [HPL.out] at hen
   have hle : (put V.length ++ enc4 V).length + (encU (pl [] l)).length ≤ 140737488355328 := by rw [List.length_append]; omega
   clear hel hen
   go_wp2_with fail
   refine (uencode_k (pl [] l) HPL.out hx HPN.out HA2.out).mono ?_
   rintro e w5 ⟨rfl, hm5⟩
   have hbld5 := bld_grown hbld hm5
   have hbut5 := hbut.trans (but_below (b := w1.heap.size) (hm5.mono hws))
   have hws5 : w1.heap.size + 1 ≤ w5.heap.size := by have := hbut5.size; rw [hsz2] at this; exact this
   clear hbld hbut hm5 hws
   go_wp2_with fail
   refine (write_b (w1.heap.size + 1) w1.heap.size _ (encU (pl [] l)) _ hbld5 hle hws5).mono ?_
   rintro e w6 ⟨rfl, hbld6, hbut6'⟩
   have hbut6 := hbut5.trans hbut6'
   clear hbld5 hbut5 hbut6' hws5
   go_wp2_with fail
   refine (string_c (w1.heap.size + 1) w.heap.size w1.heap.size _ _ hbld6 (by omega) hs1).mono ?_
   rintro e w7 ⟨rfl, hb7⟩
   go_wp2
   go_ret
   have he : encD l = put V.length ++ (enc4 V ++ encU (pl [] l)) := by unfold encD; rw [HV.out]
   rw [he]
   exact ⟨rfl, (hb2.trans (hbut6.below (by omega) hs1)).trans hb7⟩
set_option maxHeartbeats 8000000 in
theorem drencode_c (A : Option Addr) (cap : Nat) (l : List Tx) (hx : l.length ≤ 100000) (hts : ∀ t ∈ l, t.length ≤ 100000) (w : World) (hc : At w w.heap.size A (svs l)) :
  Calls Tryz.prog 49 #[.slice A l.length cap] w fun e w' => e = .returned (.string (ba (encD l))) ∧ Below w.heap.size w w' := by
 have HC := Lib.hid hc
 have HT := Lib.hid hts
 have hwl := ws_len l []
 rw [List.length_nil] at hwl
 have HPN := Lib.hid (pl_nums hx)
 have HPL := Lib.hid (pl_len l [])
 clear hc hts
 go_enter Tryz.func49, Tryz.ntmps49
 go_wp2_with fail
 refine (rwords_c A cap l hx _ HC.out).mono ?_
 rintro e w1 ⟨B1, k1, B2, k2, rfl, -, -, -, -, hat1, hat2, hb1⟩
 have HVT := Lib.hid (ws_texts HT.out)
 obtain ⟨V, hV⟩ : ∃ V, V = ws [] l := ⟨_, rfl⟩
 rw [← hV] at hat1 hwl HVT ⊢
 have HV := Lib.hid hV
 have HAT1 := Lib.hid hat1
 have HAT2 := Lib.hid hat2
 have hVl : V.length ≤ 100000 := by omega
 have hwu : IntKind.u64.wrap (V.length : Int) = (V.length : Int) := by rw [IntKind.wrap_u64]; omega
 clear hV hat1 hat2 hwl
 go_wp2_with fail
 refine (rPut_c V.length (by omega) _).mono ?_
 rintro e w2 ⟨rfl, hm2⟩
 have hb2 := hb1.trans (hm2.mono hb1.size)
 have HAT1 := Lib.hid (HAT1.out.keep hm2)
 have HAT2 := Lib.hid (HAT2.out.keep hm2)
 have hpl := put_len10 (n := V.length) (by omega)
 clear hm2 hb1
 go_wp2_with fail
 go_loopw [5, 6] (fun s i wr => ∃ k : Nat, s = .string (ba (put V.length ++ enc4 (V.take k))) ∧ i = .int .i64 (k : Int) ∧ k ≤ V.length ∧ Below w2.heap.size w2 wr) (fun _ i _ => V.length - (Go.RowKit.intOf i).toNat)
 case atStart => exact ⟨0, by simp [enc4], rfl, Nat.zero_le _, Below.refl _ _⟩
 case round =>
  obtain ⟨k, rfl, rfl, hk, hb⟩ := hrel
  by_cases hlt : k < V.length
  ·obtain ⟨t, htk⟩ := some_at hlt
   have htl := HVT.out t (mem_at htk)
   obtain ⟨b, off, rfl, hbl, hcell⟩ := (HAT1.out.below hb) k _ (svs_at htk)
   have hel := enc4_take_len HVT.out hVl k
   have htp := put_len10 (n := t.length) (by omega)
   have hadd := add_ba (put V.length ++ enc4 (V.take k)) (put t.length ++ t) (by rw [List.length_append, List.length_append]; omega)
   have HX := Lib.hid (enc4_take htk)
   have htl2 : t.length ≤ 140737488351232 := by omega
   clear htk hel htp
   go_wp2_with fail
   refine (rwput_c t htl2 _).mono ?_
   rintro e w5 ⟨rfl, hm5⟩
   have hb5 := hb.trans (hm5.mono hb.size)
   clear hb hm5 hcell
   go_wp2_with fail
   go_roundw
   case rel => exact ⟨k + 1, by rw [HX.out, ← List.append_assoc], by go_num, by omega, hb5⟩
   case measure => simp only [Go.RowKit.intOf]; omega
  ·obtain rfl : k = V.length := by omega
   rw [List.take_length]
   have hel := enc4_take_len HVT.out hVl V.length
   rw [List.take_length] at hel
   have hen := encU_len HPN.out (by rw [HPL.out]; omega)
   rw [HPL.out] at hen
   have hadd := add_ba (put V.length ++ enc4 V) (encU (pl [] l)) (by rw [List.length_append]; omega)
   clear hel hen
   go_wp2_with fail
   refine (urencode_k (pl [] l) HPL.out hx HPN.out (HAT2.out.keep hb)).mono ?_
   rintro e w5 ⟨rfl, hm5⟩
   go_wp2_with fail
   go_ret
   have he : encD l = put V.length ++ (enc4 V ++ encU (pl [] l)) := by unfold encD; rw [HV.out]
   rw [he]
   exact ⟨rfl, (hb2.trans (hb.mono hb2.size)).trans (hm5.mono (Nat.le_trans hb2.size hb.size))⟩
end Dt
end Go.Proofs.YtojhenpaeedimaaGreat
end
section
namespace Go.Proofs.YtojhenpaeedimaaGreat
open Dl Ru
namespace Dt
open Pk Dc Wd
set_option maxRecDepth 100000
/-- as many texts behind their lengths, from a place on, behind out -/
def tks (l : List UInt8) (most : Int) : Nat → Int → List Tx → List Tx × Int × Int
 | 0, to, out => (out, to, 0)
 | c + 1, to, out => if (tk l to most).2.2 ≠ 0 then ([], 0, (tk l to most).2.2) else tks l most c (tk l to most).2.1 (out ++ [(tk l to most).1])
/-- the words that bytes begin with -/
def tkW (l : List UInt8) (n : Nat) (most : Int) : List Tx × Int × Int :=
 if (numS ⟨l, 0⟩).e ≠ 0 then ([], 0, (numS ⟨l, 0⟩).e) else if n < numV ⟨l, 0⟩ then ([], 0, 10) else tks l most (numV ⟨l, 0⟩) ((l.length - (numS ⟨l, 0⟩).l.length : Nat) : Int) []
/-- .. and the list, behind these -/
def decT (l : List UInt8) (n : Nat) (r : List Tx × Int × Int) : List Tx × Int :=
 if r.2.2 ≠ 0 then ([], r.2.2)
 else if (decU (l.drop r.2.1.toNat) n).2 ≠ 0 then ([], (decU (l.drop r.2.1.toNat) n).2)
 else if mayW r.1 (decU (l.drop r.2.1.toNat) n).1 = true then ((pk r.1 [] (decU (l.drop r.2.1.toNat) n).1).1, 0) else ([], 5)
/-- P8.3 -/
def decD (l : List UInt8) (n most : Int) : List Tx × Int := if n < 0 then ([], 1) else if 4096 < n then ([], 10) else decT l n.toNat (tkW l n.toNat most)
theorem decD_neg {l : List UInt8} {n most : Int} (h : n < 0) : decD l n most = ([], 1) := by rw [decD, if_pos h]
theorem decD_big {l : List UInt8} {n most : Int} (h : 4096 < n) : decD l n most = ([], 10) := by rw [decD, if_neg (by omega), if_pos h]
theorem decD_in {l : List UInt8} {n : Nat} {most : Int} (h : n ≤ 4096) : decD l n most = decT l n (tkW l n most) := by rw [decD, if_neg (by omega), if_neg (by omega), Int.toNat_natCast]
/-- the two ends of Take -/
theorem tk_two (l : List UInt8) (k : Nat) (most : Int) (hk : k ≤ l.length) : (∃ e, e ≠ 0 ∧ tk l (k : Int) most = ([], 0, e)) ∨ (∃ (t : Tx) (u : Nat), tk l (k : Int) most = (t, (u : Int), 0) ∧ u ≤ l.length ∧ k < u ∧ l.drop k = (put t.length ++ t) ++ l.drop u ∧ valid t = true ∧ (t.length : Int) ≤ most) := by
 cases hr : rd (l.drop k) with
 | cut => exact .inl ⟨2, by decide, by have := tk_err (most := most) hk rfl (by rw [(num_cut rfl hr).2]; exact (show (2 : Int) ≠ 0 by decide)); rw [(num_cut rfl (s := ⟨l.drop k, 0⟩) hr).2] at this; exact this⟩
 | long => exact .inl ⟨3, by decide, by have := tk_err (most := most) hk rfl (by rw [(num_long rfl hr).2]; exact (show (3 : Int) ≠ 0 by decide)); rw [(num_long rfl (s := ⟨l.drop k, 0⟩) hr).2] at this; exact this⟩
 | ok n u =>
  obtain ⟨i1, i2, i3, i4, i5, i6⟩ := rd_inv hr
  obtain ⟨hv, hs⟩ := num_ok (s := ⟨l.drop k, 0⟩) rfl hr
  have hs' : (⟨(l.drop k).drop u, 0⟩ : St) = numS ⟨l.drop k, 0⟩ := hs.symm
  by_cases hb : most < 0 ∨ most < (n : Int)
  ·exact .inl ⟨10, by decide, tk_big hk hs' hv.symm rfl hb⟩
  ·by_cases hc : ((l.drop k).drop u).length < n
   ·exact .inl ⟨2, by decide, tk_cut hk hs' hv.symm rfl hb hc⟩
   ·cases ht : valid (((l.drop k).drop u).take n)
    ·exact .inl ⟨4, by decide, tk_text hk hs' hv.symm rfl hb hc ht⟩
    ·rw [List.length_drop, List.length_drop] at hc
     rw [List.length_drop] at i3
     have hn : (((l.drop k).drop u).take n).length = n := by rw [List.length_take, List.length_drop, List.length_drop]; omega
     refine .inr ⟨((l.drop k).drop u).take n, k + u + n, ?_, by omega, by omega, ?_, ht, by rw [hn]; omega⟩
     ·have := tk_ok (most := most) hk hs' hv.symm rfl hb (by rw [List.length_drop, List.length_drop]; omega) ht
      refine this.trans ?_
      simp only [List.length_drop]
      congr 2
      omega
     ·rw [hn, ← i1, ← List.drop_drop, ← List.drop_drop, List.append_assoc, List.take_append_drop, List.take_append_drop]
theorem tk_here {l : List UInt8} {k : Nat} {t : Tx} {R : List UInt8} {most : Int} (hk : k ≤ l.length) (hd : l.drop k = (put t.length ++ t) ++ R) (ht : t.length < 18446744073709551616) :
  tk l (k : Int) most = if (t.length : Int) ≤ most then (if valid t = true then (t, ((l.length - R.length : Nat) : Int), 0) else ([], 0, 4)) else ([], 0, 10) := by
 rw [List.append_assoc] at hd
 obtain ⟨n1, n2⟩ := num_put ht (t ++ R)
 rw [← hd] at n1 n2
 have htk : (t ++ R).take t.length = t := List.take_left
 have hdr : (t ++ R).drop t.length = R := List.drop_left
 have hR : R.length ≤ l.length := by
  have := congrArg List.length hd
  rw [List.length_drop, List.length_append, List.length_append] at this
  omega
 by_cases hm : (t.length : Int) ≤ most
 ·rw [if_pos hm]
  by_cases hv : valid t = true
  ·rw [if_pos hv]
   have := tk_ok (most := most) hk n2.symm n1.symm rfl (by omega) (by simp) (by rw [htk]; exact hv)
   rw [this, htk, hdr]
   congr 2
   omega
  ·rw [if_neg hv]
   exact tk_text (most := most) hk n2.symm n1.symm rfl (by omega) (by simp) (by rw [htk]; simpa using hv)
 ·rw [if_neg hm]
  exact tk_big (most := most) hk n2.symm n1.symm rfl (by omega)
def Good (most : Int) (t : Tx) : Prop := valid t = true ∧ (t.length : Int) ≤ most
/-- texts that are put, one behind the other, are taken -/
theorem tks_enc {l : List UInt8} {most : Int} (W : List Tx) : ∀ (k : Nat) (out : List Tx) (R : List UInt8), k ≤ l.length → l.drop k = enc4 W ++ R → (∀ t ∈ W, t.length < 18446744073709551616) → (∀ t ∈ W, Good most t) → tks l most W.length (k : Int) out = (out ++ W, ((l.length - R.length : Nat) : Int), 0) := by
 induction W with
 | nil =>
  intro k out R hk hd _ _
  have := congrArg List.length hd
  simp [enc4] at this
  rw [List.length_nil, tks, List.append_nil, show k = l.length - R.length by omega]
 | cons t W ih =>
  intro k out R hk hd hl hg
  rw [enc4, List.append_assoc] at hd
  have h1 := tk_here (most := most) hk hd (hl t (by simp))
  obtain ⟨g1, g2⟩ := hg t (by simp)
  rw [if_pos g2, if_pos g1] at h1
  rw [List.length_cons, tks, h1, if_neg (by simp)]
  have hlen : l.length - k = (put t.length ++ t).length + (enc4 W ++ R).length := by rw [← List.length_drop, hd, List.length_append]
  have hd2 : l.drop (l.length - (enc4 W ++ R).length) = enc4 W ++ R := by
   have e : l.length - (enc4 W ++ R).length = k + (put t.length ++ t).length := by omega
   rw [e, ← List.drop_drop, hd, List.drop_left]
  rw [ih _ _ R (by omega) hd2 (fun x hx => hl x (by simp [hx])) (fun x hx => hg x (by simp [hx]))]
  simp
/-- what is taken was put -/
theorem tks_dec {l : List UInt8} {most : Int} : ∀ (c k : Nat) (out W : List Tx) (to : Int), k ≤ l.length → tks l most c (k : Int) out = (W, to, 0) →
  ∃ (V : List Tx) (u : Nat), W = out ++ V ∧ V.length = c ∧ to = (u : Int) ∧ u ≤ l.length ∧ l.drop k = enc4 V ++ l.drop u ∧ ∀ t ∈ V, Good most t
 | 0, k, out, W, to, hk, h => by
  rw [tks] at h
  simp only [Prod.mk.injEq, and_true] at h
  exact ⟨[], k, by simp [h.1], rfl, h.2.symm, hk, by simp [enc4], by simp⟩
 | c + 1, k, out, W, to, hk, h => by
  rw [tks] at h
  rcases tk_two l k most hk with ⟨e, he, h1⟩ | ⟨t, u, h1, hu, hku, hd, hv, hm⟩
  ·rw [h1, if_pos he] at h
   simp only [Prod.mk.injEq] at h
   exact absurd h.2.2 he
  ·rw [h1, if_neg (by simp)] at h
   dsimp only at h
   obtain ⟨V, u2, a, b, c', d, e, f⟩ := tks_dec c u _ W to hu h
   refine ⟨t :: V, u2, by rw [a]; simp, by simp [b], c', d, ?_, ?_⟩
   ·rw [hd, e, enc4]; simp only [List.append_assoc]
   ·intro x hx
    rcases List.mem_cons.1 hx with rfl | hx
    ·exact ⟨hv, hm⟩
    ·exact f x hx
section
variable {l : List Tx} {most : Int}
theorem encD_head (hl : l.length ≤ 4096) : numV ⟨encD l, 0⟩ = (ws [] l).length ∧ numS ⟨encD l, 0⟩ = ⟨enc4 (ws [] l) ++ encU (pl [] l), 0⟩ := by
 have := ws_len l []
 exact num_put (by simp at this; omega) _
theorem tkW_enc (hl : l.length ≤ 4096) : tkW (encD l) l.length most = tks (encD l) most (ws [] l).length (((put (ws [] l).length).length : Nat) : Int) [] := by
 obtain ⟨h1, h2⟩ := encD_head hl
 have h3 := ws_len l []
 simp at h3
 have e : (encD l).length - (enc4 (ws [] l) ++ encU (pl [] l)).length = (put (ws [] l).length).length := by unfold encD; rw [List.length_append]; omega
 rw [tkW, h1, h2, if_neg (by simp), if_neg (by omega)]
 dsimp only
 rw [e]
theorem encD_drop : (encD l).drop (put (ws [] l).length).length = enc4 (ws [] l) ++ encU (pl [] l) ∧ (put (ws [] l).length).length ≤ (encD l).length := by
 unfold encD
 exact ⟨List.drop_left, by rw [List.length_append]; omega⟩
/-- what is encoded is decoded -/
theorem decD_enc (hl : l.length ≤ 4096) (hs : ∀ t ∈ l, t.length < 18446744073709551616) (hg : ∀ t ∈ l, Good most t) : decD (encD l) l.length most = (l, 0) := by
 obtain ⟨e1, e2⟩ := encD_drop (l := l)
 have hin : ∀ t ∈ ws [] l, t ∈ l := fun t ht => by rcases (mem_ws l [] t).1 ht with h | h; simp at h; exact h
 have hk := tks_enc (l := encD l) (most := most) (ws [] l) _ [] _ e2 e1 (fun t ht => hs t (hin t ht)) (fun t ht => hg t (hin t ht))
 rw [decD_in hl, tkW_enc hl, hk, decT, if_neg (by simp)]
 have hR : (encU (pl [] l)).length ≤ (encD l).length := by unfold encD; rw [List.length_append, List.length_append]; omega
 have hd : (encD l).drop ((encD l).length - (encU (pl [] l)).length) = encU (pl [] l) := by
  have e : (encD l).length - (encU (pl [] l)).length = (put (ws [] l).length ++ enc4 (ws [] l)).length := by
   unfold encD; rw [List.length_append, List.length_append, List.length_append]; omega
  rw [e]
  unfold encD
  rw [← List.append_assoc, List.drop_left]
 have hdu := decU_enc (pl_nums (l := l) (by omega)) (by rw [pl_len]; exact hl)
 rw [pl_len] at hdu
 simp only [Int.toNat_natCast]
 rw [hd, hdu, if_neg (by simp), List.nil_append, if_pos (mayW_self l), pk_ws]
end
/-- what is decoded was encoded -/
theorem decD_dec {l : List UInt8} {n most : Int} (h : (decD l n most).2 = 0) : encD (decD l n most).1 = l ∧ ((decD l n most).1.length : Int) = n ∧ n ≤ 4096 ∧ ∀ t ∈ (decD l n most).1, Good most t := by
 rcases Int.lt_or_le n 0 with h0 | h0
 ·rw [decD_neg h0] at h; simp at h
 ·rcases Int.lt_or_le 4096 n with h1 | h1
  ·rw [decD_big h1] at h; simp at h
  ·obtain ⟨N, rfl⟩ := Int.eq_ofNat_of_zero_le h0
   rw [decD_in (by omega)] at h ⊢
   unfold decT at h ⊢
   by_cases c1 : (tkW l N most).2.2 ≠ 0
   ·rw [if_pos c1] at h; exact absurd h c1
   ·rw [if_neg c1] at h ⊢
    have c1' : (tkW l N most).2.2 = 0 := by simpa using c1
    obtain ⟨W, to, hW⟩ : ∃ W to, tkW l N most = (W, to, 0) := ⟨(tkW l N most).1, (tkW l N most).2.1, by rw [← c1']⟩
    rw [hW] at h ⊢
    dsimp only at h ⊢
    unfold tkW at hW
    by_cases d1 : (numS ⟨l, 0⟩).e ≠ 0
    ·rw [if_pos d1] at hW; simp only [Prod.mk.injEq] at hW; exact absurd hW.2.2 d1
    ·rw [if_neg d1] at hW
     by_cases d2 : N < numV ⟨l, 0⟩
     ·rw [if_pos d2] at hW; simp at hW
     ·rw [if_neg d2] at hW
      obtain ⟨a1, a2⟩ := num_zero (l := l) (by simpa using d1)
      obtain ⟨V, u, b1, b2, b3, b4, b5, b6⟩ := tks_dec _ _ _ _ _ (by omega) hW
      rw [List.nil_append] at b1
      subst b1
      subst b3
      rw [Int.toNat_natCast] at h ⊢
      by_cases c2 : (decU (l.drop u) N).2 ≠ 0
      ·rw [if_pos c2] at h; exact absurd h c2
      ·rw [if_neg c2] at h ⊢
       obtain ⟨f1, f2⟩ := decU_dec (s := l.drop u) (n := (N : Int)) (by simpa using c2)
       by_cases c3 : mayW W (decU (l.drop u) N).1 = true
       ·rw [if_pos c3]
        obtain ⟨o, g1, g2, g3⟩ := (may_iff _ _).1 c3
        rw [g1]
        have hlen : o.length = N := by have := pl_len o []; rw [g3] at this; omega
        refine ⟨?_, by rw [hlen], by omega, fun t ht => b6 t (by rw [← g2]; exact (mem_ws o [] t).2 (.inr ht))⟩
        unfold encD
        rw [g2, g3, f1, ← b5, b2]
        have hk0 : ∀ (v : Nat) (r : List UInt8), l = put v ++ r → l.drop (l.length - r.length) = r := by
         rintro v r rfl
         rw [show (put v ++ r).length - r.length = (put v).length by rw [List.length_append]; omega]
         exact List.drop_left
        have hk := hk0 _ _ a1
        rw [hk]
        exact a1.symm
       ·rw [if_neg c3] at h; simp at h
end Dt
end Go.Proofs.YtojhenpaeedimaaGreat
end
