/-
  Encode of texts, the program's and the document's.
-/
import Derived.Test.YtiehmeheilfocaaTe
import Derived.Test.YtiehmeheilfocaaEd
namespace Go.Proofs.Ytiehmeheilfocaa
open Go.RowKit Go.IntWalk
open Pk Dc Wd
set_option maxRecDepth 100000
attribute [local go_sem] Oper.semAt_some

/-- P8.2 -/
def encD (l : List Tx) : List UInt8 := put (ws [] l).length ++ (enc4 (ws [] l) ++ encU (pl [] l))
theorem pl_le (l : List Tx) : ∀ a, ∀ p ∈ pl a l, p ≤ a.length + l.length := by
  induction l with
  | nil => intro a p hp; simp [pl] at hp
  | cons t r ih =>
    intro a p hp
    rw [pl] at hp
    have h1 := ix_le t a
    have h2 := add_len a t
    rcases List.mem_cons.1 hp with rfl | hp
    · simp; omega
    · have := ih _ p hp; simp; omega
theorem pl_nums {l : List Tx} (h : l.length ≤ 100000) : Nums (pl [] l) := fun p hp => by
  have := pl_le l [] p hp
  simp at this; omega
theorem ws_texts {l : List Tx} {n : Nat} (h : ∀ t ∈ l, t.length ≤ n) : ∀ t ∈ ws [] l, t.length ≤ n := fun t ht => by
  rcases (mem_ws l [] t).1 ht with h1 | h1
  · simp at h1
  · exact h t h1
theorem enc4_take_len {V : List Tx} (h : ∀ t ∈ V, t.length ≤ 100000) (hl : V.length ≤ 100000) (k : Nat) : (enc4 (V.take k)).length ≤ 100010 * 100000 := by
  have h1 := enc4_len (V.take k) 100000 (by omega) (fun x hx => h x (List.mem_of_mem_take hx))
  rw [List.length_take] at h1
  have h2 : (100000 + 10) * min k V.length ≤ 100010 * 100000 := Nat.mul_le_mul (by omega) (by omega)
  omega
theorem at_but {w1 wr : World} {A : Option Addr} {xs : List Value} {o : Obj} (h : At w1 w1.heap.size A xs) (hb : But (w1.heap.size + 1) w1.heap.size (w1.alloc o) wr) : At wr wr.heap.size A xs := fun i v hv => by
  obtain ⟨b, off, ha, hlt, hc⟩ := h i v hv
  have hs := hb.size
  rw [World.size_alloc] at hs
  refine ⟨b, off, ha, by omega, ?_⟩
  have h1 : (w1.alloc o).cell? ⟨b, off + i, none⟩ = some v := ((Below.refl w1.heap.size w1).alloc (Nat.le_refl _) o).cell (p := ⟨b, off + i, none⟩) hlt |>.trans hc
  exact (but_cell hb (p := ⟨b, off + i, none⟩) (show b < w1.heap.size + 1 by omega) (show b ≠ w1.heap.size by omega)).trans h1

set_option maxHeartbeats 8000000 in
theorem dencode_c (A : Option Addr) (cap : Nat) (l : List Tx) (hx : l.length ≤ 100000) (hts : ∀ t ∈ l, t.length ≤ 100000) (w : World) (hc : At w w.heap.size A (svs l)) :
    Calls Try.prog 34 #[.slice A l.length cap] w fun e w' => e = .returned (.string (ba (encD l))) ∧ Below w.heap.size w w' := by
  have HC := Lib.hid hc
  have HT := Lib.hid hts
  have hwl := ws_len l []
  rw [List.length_nil] at hwl
  have HPN := Lib.hid (pl_nums hx)
  have HPL := Lib.hid (pl_len l [])
  clear hc hts
  go_enter Try.func34, Try.ntmps34
  go_wp2_with fail
  refine (words_c A cap l hx HT.out _ HC.out).mono ?_
  rintro e w1 ⟨B1, k1, B2, k2, rfl, -, -, -, -, hat1, hat2, hb1⟩
  have HVT := Lib.hid (ws_texts HT.out)
  obtain ⟨V, hV⟩ : ∃ V, V = ws [] l := ⟨_, rfl⟩
  rw [← hV] at hat1 hwl HVT ⊢
  have HV := Lib.hid hV
  have HAT1 := Lib.hid hat1
  have HAT2 := Lib.hid hat2
  have hVl : V.length ≤ 100000 := by omega
  have hwu : IntKind.u64.wrap (V.length : Int) = (V.length : Int) := by rw [IntKind.wrap_u64]; omega
  clear hV hat1 hat2 hwl
  go_wp2_with fail
  obtain ⟨o, ho⟩ : ∃ o, o = (Obj.cells #[.pointer none, .slice none 0 0] 65) := ⟨_, rfl⟩
  have hbld0 : Bld (w1.alloc (Obj.cells #[.pointer none, .slice none 0 0] 65)) (w1.heap.size + 1) w1.heap.size [] := bld_new w1 _
  rw [← ho] at hbld0 ⊢
  have hsz2 : (w1.alloc o).heap.size = w1.heap.size + 1 := World.size_alloc _ _
  obtain ⟨w2, hw2⟩ : ∃ w2, w2 = w1.alloc o := ⟨_, rfl⟩
  have HW2 := Lib.hid hw2
  have hbb : But (w1.heap.size + 1) w1.heap.size w2 w2 := But.refl _ _ _
  have hb2 : Below w.heap.size w w2 := by rw [hw2]; exact hb1.alloc hb1.size o
  have hs1 := hb1.size
  rw [← hw2] at hbld0 hsz2 ⊢
  clear hw2 ho
  refine (put_c V.length (by omega) _).mono ?_
  rintro e w3 ⟨rfl, hm3⟩
  have hbld3 := bld_grown hbld0 hm3
  rw [hsz2] at hm3
  have hbut3 := hbb.trans (but_below (b := w1.heap.size) hm3)
  have hs3 := hbut3.size
  have hpl := put_len10 (n := V.length) (by omega)
  clear hbld0 hbb hm3
  go_wp2_with fail
  refine (write_c (w1.heap.size + 1) w1.heap.size [] (put V.length) _ hbld3 (by simp; omega) (by omega)).mono ?_
  rintro e w4 ⟨rfl, hbld4, hbut4'⟩
  have hbut4 := hbut3.trans hbut4'
  rw [List.nil_append] at hbld4
  clear hbld3 hbut3 hbut4' hs3
  go_wp2_with fail
  go_loopw [20] (fun i wr => ∃ k : Nat, i = .int .i64 (k : Int) ∧ k ≤ V.length ∧ Bld wr (w1.heap.size + 1) w1.heap.size (put V.length ++ enc4 (V.take k)) ∧ But (w1.heap.size + 1) w1.heap.size w2 wr) (fun i _ => V.length - (intOf i).toNat)
  case atStart => exact ⟨0, rfl, Nat.zero_le _, by simpa [enc4] using hbld4, hbut4⟩
  case round =>
    clear hbld4 hbut4
    obtain ⟨k, rfl, hk, hbld, hbut⟩ := hrel
    have hws := hbut.size
    rw [hsz2] at hws
    by_cases hlt : k < V.length
    · obtain ⟨t, htk⟩ := some_at hlt
      have htl := HVT.out t (mem_at htk)
      obtain ⟨b, off, rfl, hbl, hcell⟩ := (at_but HAT1.out (by rw [← HW2.out]; exact hbut)) k _ (svs_at htk)
      have hel := enc4_take_len HVT.out hVl k
      have htp := put_len10 (n := t.length) (by omega)
      have hle : (put V.length ++ enc4 (V.take k)).length + (put t.length ++ t).length ≤ 140737488355328 := by rw [List.length_append, List.length_append]; omega
      have HX := Lib.hid (enc4_take htk)
      have htl2 : t.length ≤ 140737488351232 := by omega
      clear htk hel htp
      go_wp2_with fail
      refine (wput_c t htl2 _).mono ?_
      rintro e w5 ⟨rfl, hm5⟩
      have hbld5 := bld_grown hbld hm5
      have hbut5 := hbut.trans (but_below (b := w1.heap.size) (hm5.mono hws))
      have hws5 : w1.heap.size + 1 ≤ w5.heap.size := by have := hbut5.size; rw [hsz2] at this; exact this
      clear hbld hbut hm5 hws hcell
      go_wp2_with fail
      refine (write_c (w1.heap.size + 1) w1.heap.size _ (put t.length ++ t) _ hbld5 hle hws5).mono ?_
      rintro e w6 ⟨rfl, hbld6, hbut6'⟩
      have hbut6 := hbut5.trans hbut6'
      clear hbld5 hbut5 hbut6' hws5
      go_wp2_with fail
      go_roundw
      case rel => exact ⟨k + 1, by go_num, by omega, by rw [HX.out, ← List.append_assoc]; exact hbld6, hbut6⟩
      case measure => simp only [intOf]; omega
    · obtain rfl : k = V.length := by omega
      rw [List.take_length] at hbld
      have HA2 := Lib.hid (at_but HAT2.out (by rw [← HW2.out]; exact hbut))
      have hel := enc4_take_len HVT.out hVl V.length
      rw [List.take_length] at hel
      have hen := encU_len HPN.out (by rw [HPL.out]; omega)
      rw [HPL.out] at hen
      have hle : (put V.length ++ enc4 V).length + (encU (pl [] l)).length ≤ 140737488355328 := by rw [List.length_append]; omega
      clear hel hen
      go_wp2_with fail
      refine (uencode_k (pl [] l) HPL.out hx HPN.out HA2.out).mono ?_
      rintro e w5 ⟨rfl, hm5⟩
      have hbld5 := bld_grown hbld hm5
      have hbut5 := hbut.trans (but_below (b := w1.heap.size) (hm5.mono hws))
      have hws5 : w1.heap.size + 1 ≤ w5.heap.size := by have := hbut5.size; rw [hsz2] at this; exact this
      clear hbld hbut hm5 hws
      go_wp2_with fail
      refine (write_c (w1.heap.size + 1) w1.heap.size _ (encU (pl [] l)) _ hbld5 hle hws5).mono ?_
      rintro e w6 ⟨rfl, hbld6, hbut6'⟩
      have hbut6 := hbut5.trans hbut6'
      clear hbld5 hbut5 hbut6' hws5
      go_wp2_with fail
      refine (string_c (w1.heap.size + 1) w.heap.size w1.heap.size _ _ hbld6 (by omega) hs1).mono ?_
      rintro e w7 ⟨rfl, hb7⟩
      go_wp2
      go_ret
      have he : encD l = put V.length ++ (enc4 V ++ encU (pl [] l)) := by unfold encD; rw [HV.out]
      rw [he]
      exact ⟨rfl, (hb2.trans (hbut6.below (by omega) hs1)).trans hb7⟩

set_option maxHeartbeats 8000000 in
theorem drencode_c (A : Option Addr) (cap : Nat) (l : List Tx) (hx : l.length ≤ 100000) (hts : ∀ t ∈ l, t.length ≤ 100000) (w : World) (hc : At w w.heap.size A (svs l)) :
    Calls Try.prog 35 #[.slice A l.length cap] w fun e w' => e = .returned (.string (ba (encD l))) ∧ Below w.heap.size w w' := by
  have HC := Lib.hid hc
  have HT := Lib.hid hts
  have hwl := ws_len l []
  rw [List.length_nil] at hwl
  have HPN := Lib.hid (pl_nums hx)
  have HPL := Lib.hid (pl_len l [])
  clear hc hts
  go_enter Try.func35, Try.ntmps35
  go_wp2_with fail
  refine (rwords_c A cap l hx _ HC.out).mono ?_
  rintro e w1 ⟨B1, k1, B2, k2, rfl, -, -, -, -, hat1, hat2, hb1⟩
  have HVT := Lib.hid (ws_texts HT.out)
  obtain ⟨V, hV⟩ : ∃ V, V = ws [] l := ⟨_, rfl⟩
  rw [← hV] at hat1 hwl HVT ⊢
  have HV := Lib.hid hV
  have HAT1 := Lib.hid hat1
  have HAT2 := Lib.hid hat2
  have hVl : V.length ≤ 100000 := by omega
  have hwu : IntKind.u64.wrap (V.length : Int) = (V.length : Int) := by rw [IntKind.wrap_u64]; omega
  clear hV hat1 hat2 hwl
  go_wp2_with fail
  refine (rPut_c V.length (by omega) _).mono ?_
  rintro e w2 ⟨rfl, hm2⟩
  have hb2 := hb1.trans (hm2.mono hb1.size)
  have HAT1 := Lib.hid (HAT1.out.keep hm2)
  have HAT2 := Lib.hid (HAT2.out.keep hm2)
  have hpl := put_len10 (n := V.length) (by omega)
  clear hm2 hb1
  go_wp2_with fail
  go_loopw [5, 6] (fun s i wr => ∃ k : Nat, s = .string (ba (put V.length ++ enc4 (V.take k))) ∧ i = .int .i64 (k : Int) ∧ k ≤ V.length ∧ Below w2.heap.size w2 wr) (fun _ i _ => V.length - (intOf i).toNat)
  case atStart => exact ⟨0, by simp [enc4], rfl, Nat.zero_le _, Below.refl _ _⟩
  case round =>
    obtain ⟨k, rfl, rfl, hk, hb⟩ := hrel
    by_cases hlt : k < V.length
    · obtain ⟨t, htk⟩ := some_at hlt
      have htl := HVT.out t (mem_at htk)
      obtain ⟨b, off, rfl, hbl, hcell⟩ := (HAT1.out.below hb) k _ (svs_at htk)
      have hel := enc4_take_len HVT.out hVl k
      have htp := put_len10 (n := t.length) (by omega)
      have hadd := add_ba (put V.length ++ enc4 (V.take k)) (put t.length ++ t) (by rw [List.length_append, List.length_append]; omega)
      have HX := Lib.hid (enc4_take htk)
      have htl2 : t.length ≤ 140737488351232 := by omega
      clear htk hel htp
      go_wp2_with fail
      refine (rwput_c t htl2 _).mono ?_
      rintro e w5 ⟨rfl, hm5⟩
      have hb5 := hb.trans (hm5.mono hb.size)
      clear hb hm5 hcell
      go_wp2_with fail
      go_roundw
      case rel => exact ⟨k + 1, by rw [HX.out, ← List.append_assoc], by go_num, by omega, hb5⟩
      case measure => simp only [intOf]; omega
    · obtain rfl : k = V.length := by omega
      rw [List.take_length]
      have hel := enc4_take_len HVT.out hVl V.length
      rw [List.take_length] at hel
      have hen := encU_len HPN.out (by rw [HPL.out]; omega)
      rw [HPL.out] at hen
      have hadd := add_ba (put V.length ++ enc4 V) (encU (pl [] l)) (by rw [List.length_append]; omega)
      clear hel hen
      go_wp2_with fail
      refine (urencode_k (pl [] l) HPL.out hx HPN.out (HAT2.out.keep hb)).mono ?_
      rintro e w5 ⟨rfl, hm5⟩
      go_wp2_with fail
      go_ret
      have he : encD l = put V.length ++ (enc4 V ++ encU (pl [] l)) := by unfold encD; rw [HV.out]
      rw [he]
      exact ⟨rfl, (hb2.trans (hb.mono hb2.size)).trans (hm5.mono (Nat.le_trans hb2.size hb.size))⟩
end Go.Proofs.Ytiehmeheilfocaa
