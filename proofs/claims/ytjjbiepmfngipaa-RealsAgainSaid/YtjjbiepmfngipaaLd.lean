/-
  Encode, the program's and the document's.
-/
import Derived.Test.YtjjbiepmfngipaaLc
import Derived.Test.YtjjbiepmfngipaaNk
namespace Go.Proofs.Ytjjbiepmfngipaa
open Go.RowKit Go.IntWalk
open Pk Fl Re
set_option maxRecDepth 100000

/-- numbers with a point as cells -/
def fvs (l : List Nat) : List Value := l.map fun (x : Nat) => Value.float .f64 x
theorem fvs_at {l : List Nat} {k : Nat} {x : Nat} (h : l[k]? = some x) : (fvs l)[k]? = some (.float .f64 x) := by simp [fvs, h]
theorem fvs_len (l : List Nat) : (fvs l).length = l.length := by simp [fvs]
theorem words_at {l : List Nat} (h : Words l) {k x : Nat} (hx : l[k]? = some x) : x < 18446744073709551616 := h x (List.mem_of_getElem? hx)
/-- their bits -/
def cbs (l : List Nat) : List Nat := l.map cb
theorem cbs_len (l : List Nat) : (cbs l).length = l.length := by simp [cbs]
theorem cbs_words {l : List Nat} (h : Words l) : Words (cbs l) := fun u hu => by
  simp only [cbs, List.mem_map] at hu
  obtain ⟨x, hx, rfl⟩ := hu
  exact cb_lt x (h x hx)
theorem cbs_take {l : List Nat} {k x : Nat} (h : l[k]? = some x) : cbs (l.take (k + 1)) = cbs (l.take k) ++ [cb x] := by
  rw [List.take_add_one, h]; simp [cbs]
theorem encR_take {l : List Nat} {k x : Nat} (h : l[k]? = some x) : encR (cbs (l.take (k + 1))) = encR (cbs (l.take k)) ++ put (sw (cb x ^^^ lst 0 (cbs (l.take k)))) := by
  rw [cbs_take h, encR, dx_app, encS_app]
  show _ ++ (put _ ++ []) = _
  rw [List.append_nil]; rfl
theorem lst_take {l : List Nat} {k x : Nat} (h : l[k]? = some x) : lst 0 (cbs (l.take (k + 1))) = cb x := by rw [cbs_take h, lst_snoc]
theorem encR_take_len (l : List Nat) (k : Nat) : (encR (cbs (l.take k))).length ≤ 10 * l.length := by
  have := (encR_len (cbs (l.take k))).2
  rw [cbs_len, List.length_take] at this
  omega
theorem words_take {l : List Nat} (h : Words l) (k : Nat) : Words (l.take k) := fun u hu => h u (List.mem_of_mem_take hu)
theorem bld_only {w w' : World} {B b q : Nat} {l : List UInt8} (h : Bld w B b l) (ho : w.grownBy w' (some q)) (hne : b ≠ q) (hq : q < B) : Bld w' B b l := by
  obtain ⟨p, v, hp, hk, hown, hn⟩ := h
  exact ⟨p, v, hp, (ho.block b (Array.getElem?_eq_some_iff.1 hk).1 (fun e => hne (by injection e))).trans hk, own_only hown ho hq, hn⟩
theorem keeps_but {w w' : World} {B b q p : Nat} (h : Keeps w q p) (hb : But B b w w') (hq : q < B) (hne : q ≠ b) : Keeps w' q p := (hb.block q hq hne).trans h
theorem keeps_below {w w' : World} {q p : Nat} (h : Keeps w q p) (hb : Below w.heap.size w w') : Keeps w' q p := is_below h hb (is_lt h)
theorem cell_below {w w' : World} {B : Nat} {b o : Nat} {v : Value} (h : w.cell? ⟨b, o, none⟩ = some v) (hb : Below B w w') (hlt : b < B) : w'.cell? ⟨b, o, none⟩ = some v := (hb.cell (p := ⟨b, o, none⟩) hlt).trans h

set_option maxHeartbeats 2000000 in
theorem encodeR_c (A : Option Addr) (cap : Nat) (xs : List Nat) (hx : xs.length ≤ 100000) (hw : Words xs) (w : World) (hc : At w w.heap.size A (fvs xs)) :
    Calls Try.prog 16 #[.slice A xs.length cap] w fun e w' => e = .returned (.string (ba (encR (cbs xs)))) ∧ Below w.heap.size w w' := by
  have HC := Lib.hid hc
  have HW := Lib.hid hw
  clear hc hw
  go_enter Try.func16, Try.ntmps16
  go_wp2_with fail
  have h0 : Below w.heap.size w (w.alloc (.cells #[.pointer none, .slice none 0 0] 53)) := (Below.refl _ _).alloc (Nat.le_refl _) _
  refine (unlike_c _).mono ?_
  rintro e w1 ⟨rfl, hk1, hb1, hsz⟩
  rw [World.size_alloc] at hk1 hb1 hsz ⊢
  have hbld0 := bld_grown (bld_new w w1.heap.size) (by rw [World.size_alloc]; exact hb1)
  have hb01 := h0.trans (hb1.mono (Nat.le_succ _))
  clear h0 hb1
  go_wp2_with fail
  go_loopw [10] (fun i wr => ∃ k : Nat, i = .int .i64 (k : Int) ∧ k ≤ xs.length ∧ Bld wr w1.heap.size w.heap.size (encR (cbs (xs.take k))) ∧ Keeps wr (w.heap.size + 1) (lst 0 (cbs (xs.take k))) ∧ Below w.heap.size w wr ∧ w1.heap.size ≤ wr.heap.size) (fun i _ => xs.length - (intOf i).toNat)
  case atStart => exact ⟨0, rfl, Nat.zero_le _, hbld0, hk1, hb01, Nat.le_refl _⟩
  case round =>
    clear hbld0 hk1 hb01
    obtain ⟨k, rfl, hk, hbld, hkp, hb, hws⟩ := hrel
    by_cases hlt : k < xs.length
    · obtain ⟨x, hxk⟩ := some_at hlt
      obtain ⟨b, off, rfl, hbl, hcell0⟩ := HC.out k _ (fvs_at hxk)
      have hcell := cell_below hcell0 hb hbl
      have hx64 := words_at HW.out hxk
      have hcb := cb_lt x hx64
      have hp := lst_lt (p := 0) (by decide) (cbs_words (words_take HW.out k))
      have hde := encR_take_len xs k
      have ET := Lib.hid (encR_take hxk)
      have LT := Lib.hid (lst_take hxk)
      obtain ⟨p, hpe⟩ : ∃ p, p = lst 0 (cbs (xs.take k)) := ⟨_, rfl⟩
      obtain ⟨S, hSe⟩ : ∃ S, S = encR (cbs (xs.take k)) := ⟨_, rfl⟩
      rw [← hpe] at hkp hp
      rw [← hpe, ← hSe] at ET
      rw [← hSe] at hbld hde
      have hpl := put_len10 (sw_lt (cb x ^^^ p))
      have hle : S.length + (put (sw (cb x ^^^ p))).length ≤ 140737488355328 := by omega
      have hxx := Re.xor_lt hcb hp
      clear hcell0 hxk hpl hde hpe hSe
      go_wp2_with fail
      refine (bits_c x hx64 _).mono ?_
      rintro e w2 ⟨rfl, hb2⟩
      have hbld2 := bld_grown hbld hb2
      have hkp2 : Keeps w2 (w.heap.size + 1) p := keeps_below hkp hb2
      have hb02 := hb.trans (hb2.mono hb.size)
      have hws2 := Nat.le_trans hws hb2.size
      clear hbld hkp hb hws hb2 hcell
      go_wp2_with fail
      refine (unlike1_c (w.heap.size + 1) (cb x) p hcb hp _ hkp2).mono ?_
      rintro e w3 ⟨rfl, hkp3, ho3⟩
      have hbld3 := bld_only hbld2 ho3 (by omega) (by omega)
      have hb03 := below_only hb02 ho3 hb02.size (Nat.le_succ _)
      have hws3 := Nat.le_trans hws2 ho3.size
      clear hbld2 hkp2 hb02 hws2 ho3
      go_wp2_with fail
      refine (swap_c (cb x ^^^ p) hxx _).mono ?_
      rintro e wz ⟨rfl, rfl⟩
      go_wp2_with fail
      refine (put_c (sw (cb x ^^^ p)) (sw_lt _) _).mono ?_
      rintro e w4 ⟨rfl, hb4⟩
      have hbld4 := bld_grown hbld3 hb4
      have hkp4 : Keeps w4 (w.heap.size + 1) (cb x) := keeps_below hkp3 hb4
      have hb04 := hb03.trans (hb4.mono hb03.size)
      have hws4 := Nat.le_trans hws3 hb4.size
      clear hbld3 hkp3 hb03 hws3 hb4
      go_wp2_with fail
      refine (write_c w1.heap.size w.heap.size S (put (sw (cb x ^^^ p))) _ hbld4 hle hws4).mono ?_
      rintro e w5 ⟨rfl, hbld5, hbut5⟩
      have hkp5 := keeps_but hkp4 hbut5 hsz (by omega)
      have hb05 := hb04.trans (hbut5.below (by omega) (Nat.le_refl _))
      have hws5 := Nat.le_trans hws4 hbut5.size
      clear hbld4 hkp4 hb04 hws4 hbut5
      go_wp2_with fail
      go_roundw
      case rel => exact ⟨k + 1, by go_num, by omega, by rw [ET.out]; exact hbld5, by rw [LT.out]; exact hkp5, hb05, hws5⟩
      case measure => simp only [intOf]; omega
    · obtain rfl : k = xs.length := by omega
      rw [List.take_length] at hbld
      go_wp2_with fail
      refine (string_c w1.heap.size w.heap.size w.heap.size _ _ hbld (by omega) (Nat.le_refl _)).mono ?_
      rintro e w3 ⟨rfl, hb3⟩
      go_wp2
      go_ret
      exact ⟨rfl, hb.trans hb3⟩

set_option maxHeartbeats 2000000 in
theorem rencodeR_c (A : Option Addr) (cap : Nat) (xs : List Nat) (hx : xs.length ≤ 100000) (hw : Words xs) (w : World) (hc : At w w.heap.size A (fvs xs)) :
    Calls Try.prog 17 #[.slice A xs.length cap] w fun e w' => e = .returned (.string (ba (encR (cbs xs)))) ∧ Below w.heap.size w w' := by
  have HC := Lib.hid hc
  have HW := Lib.hid hw
  clear hc hw
  go_enter Try.func17, Try.ntmps17
  go_wp2_with fail
  go_loopw [3, 4, 5, 6] (fun s p i _ wr => ∃ k : Nat, s = .string (ba (encR (cbs (xs.take k)))) ∧ p = .int .u64 (lst 0 (cbs (xs.take k)) : Nat) ∧ i = .int .i64 (k : Int) ∧ k ≤ xs.length ∧ Below w.heap.size w wr) (fun _ _ i _ _ => xs.length - (intOf i).toNat)
  case atStart => exact ⟨0, rfl, rfl, rfl, Nat.zero_le _, Below.refl _ _⟩
  case round =>
    obtain ⟨k, rfl, rfl, rfl, hk, hb⟩ := hrel
    by_cases hlt : k < xs.length
    · obtain ⟨x, hxk⟩ := some_at hlt
      obtain ⟨b, off, rfl, hbl, hcell0⟩ := HC.out k _ (fvs_at hxk)
      have hcell := cell_below hcell0 hb hbl
      have hx64 := words_at HW.out hxk
      have hcb := cb_lt x hx64
      have hp := lst_lt (p := 0) (by decide) (cbs_words (words_take HW.out k))
      have hde := encR_take_len xs k
      have ET := Lib.hid (encR_take hxk)
      have LT := Lib.hid (lst_take hxk)
      obtain ⟨p, hpe⟩ : ∃ p, p = lst 0 (cbs (xs.take k)) := ⟨_, rfl⟩
      obtain ⟨S, hSe⟩ : ∃ S, S = encR (cbs (xs.take k)) := ⟨_, rfl⟩
      rw [← hpe] at hp ⊢
      rw [← hpe, ← hSe] at ET
      rw [← hSe] at hde ⊢
      have hpl := put_len10 (sw_lt (cb x ^^^ p))
      have hadd := add_ba S (put (sw (cb x ^^^ p))) (by omega)
      have hxx := Re.xor_lt hcb hp
      have hxor := xor_u64 (cb x) p hcb hp
      clear hcell0 hxk hpl hde hpe hSe
      go_wp2_with fail
      refine (rBits_c x hx64 _).mono ?_
      rintro e wz ⟨rfl, rfl⟩
      go_wp2_with fail
      refine (rswap_c (cb x ^^^ p) hxx _).mono ?_
      rintro e wz ⟨rfl, rfl⟩
      go_wp2_with fail
      refine (rPut_c (sw (cb x ^^^ p)) (sw_lt _) _).mono ?_
      rintro e w4 ⟨rfl, hb4⟩
      have hb04 := hb.trans (hb4.mono hb.size)
      clear hb hb4 hcell
      go_wp2_with fail
      go_roundw
      case rel => exact ⟨k + 1, by rw [ET.out], by rw [LT.out], by go_num, by omega, hb04⟩
      case measure => simp only [intOf]; omega
    · obtain rfl : k = xs.length := by omega
      rw [List.take_length]
      go_wp2_with fail
      go_ret
      exact ⟨rfl, hb⟩
end Go.Proofs.Ytjjbiepmfngipaa
