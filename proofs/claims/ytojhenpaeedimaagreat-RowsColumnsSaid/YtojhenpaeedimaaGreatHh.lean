/-
 Encode, the program's and the document's.
 Same, the program's (slices.EqualFunc) and the document's.
 Decode, the program's.
 Decode, the document's.
 Contracts at written lengths; what the document gives for answers (live of the layer reals).
-/
import Derived.Test.YtojhenpaeedimaaGreatDg
import Derived.Test.YtojhenpaeedimaaGreatBt
import Derived.Test.YtojhenpaeedimaaGreatHc
import Derived.Test.YtojhenpaeedimaaGreatTl
import Derived.Test.YtojhenpaeedimaaGreatNb
import Derived.Maps.AppendAt
section
namespace Go.Proofs.YtojhenpaeedimaaGreat
open Dl
namespace Rl
open Go.RowKit Go.IntWalk
open Pk Fl Re
set_option maxRecDepth 100000
/-- numbers with a point as cells -/
def fvs (l : List Nat) : List Value := l.map fun (x : Nat) => Value.float .f64 x
theorem fvs_at {l : List Nat} {k : Nat} {x : Nat} (h : l[k]? = some x) : (fvs l)[k]? = some (.float .f64 x) := by simp [fvs, h]
theorem words_at {l : List Nat} (h : Words l) {k x : Nat} (hx : l[k]? = some x) : x < 18446744073709551616 := h x (List.mem_of_getElem? hx)
/-- their bits -/
def cbs (l : List Nat) : List Nat := l.map cb
theorem cbs_len (l : List Nat) : (cbs l).length = l.length := by simp [cbs]
theorem cbs_words {l : List Nat} (h : Words l) : Words (cbs l) := fun u hu => by
 simp only [cbs, List.mem_map] at hu
 obtain ⟨x, hx, rfl⟩ := hu
 exact cb_lt x (h x hx)
theorem cbs_take {l : List Nat} {k x : Nat} (h : l[k]? = some x) : cbs (l.take (k + 1)) = cbs (l.take k) ++ [cb x] := by
 rw [List.take_add_one, h]; simp [cbs]
theorem encR_take {l : List Nat} {k x : Nat} (h : l[k]? = some x) : encR (cbs (l.take (k + 1))) = encR (cbs (l.take k)) ++ put (sw (cb x ^^^ lst 0 (cbs (l.take k)))) := by
 rw [cbs_take h, encR, dx_app, encS_app]
 show _ ++ (put _ ++ []) = _
 rw [List.append_nil]; rfl
theorem lst_take {l : List Nat} {k x : Nat} (h : l[k]? = some x) : lst 0 (cbs (l.take (k + 1))) = cb x := by rw [cbs_take h, lst_snoc]
theorem encR_take_len (l : List Nat) (k : Nat) : (encR (cbs (l.take k))).length ≤ 10 * l.length := by
 have := (encR_len (cbs (l.take k))).2
 rw [cbs_len, List.length_take] at this
 omega
theorem words_take {l : List Nat} (h : Words l) (k : Nat) : Words (l.take k) := fun u hu => h u (List.mem_of_mem_take hu)
theorem bld_only {w w' : World} {B b q : Nat} {l : List UInt8} (h : Bld w B b l) (ho : w.grownBy w' (some q)) (hne : b ≠ q) (hq : q < B) : Bld w' B b l := by
 obtain ⟨p, v, hp, hk, hown, hn⟩ := h
 exact ⟨p, v, hp, (ho.block b (Array.getElem?_eq_some_iff.1 hk).1 (fun e => hne (by injection e))).trans hk, own_only hown ho hq, hn⟩
theorem keeps_but {w w' : World} {B b q p : Nat} (h : Keeps w q p) (hb : But B b w w') (hq : q < B) (hne : q ≠ b) : Keeps w' q p := (hb.block q hq hne).trans h
theorem keeps_below {w w' : World} {q p : Nat} (h : Keeps w q p) (hb : Below w.heap.size w w') : Keeps w' q p := is_below h hb (is_lt h)
theorem cell_below {w w' : World} {B : Nat} {b o : Nat} {v : Value} (h : w.cell? ⟨b, o, none⟩ = some v) (hb : Below B w w') (hlt : b < B) : w'.cell? ⟨b, o, none⟩ = some v := (hb.cell (p := ⟨b, o, none⟩) hlt).trans h
set_option maxHeartbeats 2000000 in
theorem encodeR_c (A : Option Addr) (cap : Nat) (xs : List Nat) (hx : xs.length ≤ 100000) (hw : Words xs) (w : World) (hc : At w w.heap.size A (fvs xs)) :
  Calls Tryz.prog 64 #[.slice A xs.length cap] w fun e w' => e = .returned (.string (ba (encR (cbs xs)))) ∧ Below w.heap.size w w' := by
 have HC := Lib.hid hc
 have HW := Lib.hid hw
 clear hc hw
 go_enter Tryz.func64, Tryz.ntmps64
 go_wp2_with fail
 have h0 : Below w.heap.size w (w.alloc (.cells #[.pointer none, .slice none 0 0] 111)) := (Below.refl _ _).alloc (Nat.le_refl _) _
 refine (unlike_c _).mono ?_
 rintro e w1 ⟨rfl, hk1, hb1, hsz⟩
 rw [World.size_alloc] at hk1 hb1 hsz ⊢
 have hbld0 := bld_grown (bld_new w w1.heap.size) (by rw [World.size_alloc]; exact hb1)
 have hb01 := h0.trans (hb1.mono (Nat.le_succ _))
 clear h0 hb1
 go_wp2_with fail
 go_loopw [10] (fun i wr => ∃ k : Nat, i = .int .i64 (k : Int) ∧ k ≤ xs.length ∧ Bld wr w1.heap.size w.heap.size (encR (cbs (xs.take k))) ∧ Keeps wr (w.heap.size + 1) (lst 0 (cbs (xs.take k))) ∧ Below w.heap.size w wr ∧ w1.heap.size ≤ wr.heap.size) (fun i _ => xs.length - (Go.RowKit.intOf i).toNat)
 case atStart => exact ⟨0, rfl, Nat.zero_le _, hbld0, hk1, hb01, Nat.le_refl _⟩
 case round =>
  clear hbld0 hk1 hb01
  obtain ⟨k, rfl, hk, hbld, hkp, hb, hws⟩ := hrel
  by_cases hlt : k < xs.length
  ·obtain ⟨x, hxk⟩ := some_at hlt
   obtain ⟨b, off, rfl, hbl, hcell0⟩ := HC.out k _ (fvs_at hxk)
   have hcell := cell_below hcell0 hb hbl
   have hx64 := words_at HW.out hxk
   have hcb := cb_lt x hx64
   have hp := lst_lt (p := 0) (by decide) (cbs_words (words_take HW.out k))
   have hde := encR_take_len xs k
   have ET := Lib.hid (encR_take hxk)
   have LT := Lib.hid (lst_take hxk)
   obtain ⟨p, hpe⟩ : ∃ p, p = lst 0 (cbs (xs.take k)) := ⟨_, rfl⟩
   obtain ⟨S, hSe⟩ : ∃ S, S = encR (cbs (xs.take k)) := ⟨_, rfl⟩
   rw [← hpe] at hkp hp
   rw [← hpe, ← hSe] at ET
   rw [← hSe] at hbld hde
   have hpl := put_len10 (sw_lt (cb x ^^^ p))
   have hle : S.length + (put (sw (cb x ^^^ p))).length ≤ 140737488355328 := by omega
   have hxx := Re.xor_lt hcb hp
   clear hcell0 hxk hpl hde hpe hSe
   go_wp2_with fail
   refine (bits_c x hx64 _).mono ?_
   rintro e w2 ⟨rfl, hb2⟩
   have hbld2 := bld_grown hbld hb2
   have hkp2 : Keeps w2 (w.heap.size + 1) p := keeps_below hkp hb2
   have hb02 := hb.trans (hb2.mono hb.size)
   have hws2 := Nat.le_trans hws hb2.size
   clear hbld hkp hb hws hb2 hcell
   go_wp2_with fail
   refine (unlike1_c (w.heap.size + 1) (cb x) p hcb hp _ hkp2).mono ?_
   rintro e w3 ⟨rfl, hkp3, ho3⟩
   have hbld3 := bld_only hbld2 ho3 (by omega) (by omega)
   have hb03 := below_only hb02 ho3 hb02.size (Nat.le_succ _)
   have hws3 := Nat.le_trans hws2 ho3.size
   clear hbld2 hkp2 hb02 hws2 ho3
   go_wp2_with fail
   refine (swap_c (cb x ^^^ p) hxx _).mono ?_
   rintro e wz ⟨rfl, rfl⟩
   go_wp2_with fail
   refine (put_c (sw (cb x ^^^ p)) (sw_lt _) _).mono ?_
   rintro e w4 ⟨rfl, hb4⟩
   have hbld4 := bld_grown hbld3 hb4
   have hkp4 : Keeps w4 (w.heap.size + 1) (cb x) := keeps_below hkp3 hb4
   have hb04 := hb03.trans (hb4.mono hb03.size)
   have hws4 := Nat.le_trans hws3 hb4.size
   clear hbld3 hkp3 hb03 hws3 hb4
   go_wp2_with fail
   refine (write_b w1.heap.size w.heap.size S (put (sw (cb x ^^^ p))) _ hbld4 hle hws4).mono ?_
   rintro e w5 ⟨rfl, hbld5, hbut5⟩
   have hkp5 := keeps_but hkp4 hbut5 hsz (by omega)
   have hb05 := hb04.trans (hbut5.below (by omega) (Nat.le_refl _))
   have hws5 := Nat.le_trans hws4 hbut5.size
   clear hbld4 hkp4 hb04 hws4 hbut5
   go_wp2_with fail
   go_roundw
   case rel => exact ⟨k + 1, by go_num, by omega, by rw [ET.out]; exact hbld5, by rw [LT.out]; exact hkp5, hb05, hws5⟩
   case measure => simp only [Go.RowKit.intOf]; omega
  ·obtain rfl : k = xs.length := by omega
   rw [List.take_length] at hbld
   go_wp2_with fail
   refine (string_c w1.heap.size w.heap.size w.heap.size _ _ hbld (by omega) (Nat.le_refl _)).mono ?_
   rintro e w3 ⟨rfl, hb3⟩
   go_wp2
   go_ret
   exact ⟨rfl, hb.trans hb3⟩
end Rl
end Go.Proofs.YtojhenpaeedimaaGreat
end
section
namespace Go.Proofs.YtojhenpaeedimaaGreat
open Dl
namespace Rl
open Go.RowKit Go.IntWalk
open Pk Fl Re
set_option maxRecDepth 100000
theorem cbs_at {l : List Nat} {k x : Nat} (h : l[k]? = some x) : (cbs l)[k]? = some (cb x) := by simp [cbs, h]
theorem eq_int {a b : Nat} (h : a = b) : (((a : Int) == (b : Int))) = true := by rw [h]; simp
theorem ne_int {a b : Nat} (h : a ≠ b) : (((a : Int) == (b : Int))) = false := by rw [beq_eq_false_iff_ne]; omega
theorem q_same {P : Program} {f : FuncId} {args : Array Value} {w : World} {n : Nat} {v : Value} (h : Calls P f args (w.drewN n) fun e w' => e = .returned v ∧ w.drewN n = w') :
  Calls P f args (w.drewN n) fun e w'' => e = .returned v ∧ ∃ m, w'' = w.drewN m := h.mono fun _ _ ⟨he, hm⟩ => ⟨he, n, hm.symm⟩
set_option maxHeartbeats 1000000 in
theorem rsame9_c (A1 A2 : Option Addr) (c1 c2 : Nat) (xs ys : List Nat) (hx : xs.length ≤ maxLen) (hy : ys.length ≤ maxLen) (hwx : Words xs) (hwy : Words ys) (w : World) (h1 : At w w.heap.size A1 (fvs xs)) (h2 : At w w.heap.size A2 (fvs ys)) :
  Calls Tryz.prog 26 #[.slice A1 xs.length c1, .slice A2 ys.length c2] w fun e w' => e = .returned (.bool (decide (cbs xs = cbs ys))) ∧ ∃ q, w' = w.drewN q := by
 unfold maxLen at hx hy
 have H1 := Lib.hid h1
 have H2 := Lib.hid h2
 have HWX := Lib.hid hwx
 have HWY := Lib.hid hwy
 clear h1 h2 hwx hwy
 by_cases hl : xs.length = ys.length
 ·obtain ⟨n, hn⟩ : ∃ n, n = ys.length := ⟨_, rfl⟩
  have hn1 : xs.length = n := by omega
  rw [← hn, hn1]
  rw [hn1] at hx hl
  rw [← hn] at hy hl
  have HN := Lib.hid hn
  have HN1 := Lib.hid hn1
  clear hn hn1
  go_enter Tryz.func26, Tryz.ntmps26
  go_wp2_with fail
  go_loopw [5] (fun i wr => ∃ k : Nat, i = .int .i64 (k : Int) ∧ k ≤ n ∧ (cbs xs).take k = (cbs ys).take k ∧ ∃ q, wr = w.drewN q) (fun i _ => n - (Go.RowKit.intOf i).toNat)
  case atStart => exact ⟨0, rfl, Nat.zero_le _, rfl, 0, rfl⟩
  case round =>
   obtain ⟨k, rfl, hk, heq, hq⟩ := hrel
   have HQ := Lib.hid hq
   clear hq
   have HEQ := Lib.hid heq
   clear heq
   by_cases hlt : k < n
   ·obtain ⟨x, hxk⟩ := some_at (show k < xs.length by rw [HN1.out]; exact hlt)
    obtain ⟨y, hyk⟩ := some_at (show k < ys.length by rw [← HN.out]; exact hlt)
    obtain ⟨b1, o1, rfl, _, hc1⟩ := (at_drewE H1.out HQ.out) k _ (fvs_at hxk)
    obtain ⟨b2, o2, rfl, _, hc2⟩ := (at_drewE H2.out HQ.out) k _ (fvs_at hyk)
    have hx64 := words_at HWX.out hxk
    have hy64 := words_at HWY.out hyk
    have HE := Lib.hid (ext_take HEQ.out (cbs_at hxk) (cbs_at hyk))
    clear hxk hyk
    by_cases hxy : cb x = cb y
    ·have ht := eq_int hxy
     have HT := Lib.hid hxy
     clear hxy
     go_wp2_with fail
     go_quiet ((go_at_call 83; exact q_same (rSame_c x y hx64 hy64 _)))
     try rw [ht]
     go_wp2_with fail
     go_roundw
     case rel => exact ⟨k + 1, by go_num, by omega, HE.out.2 HT.out, drewE HQ.out _⟩
     case measure => simp only [Go.RowKit.intOf]; omega
    ·have ht := ne_int hxy
     have HT := Lib.hid hxy
     clear hxy
     go_wp2_with fail
     go_quiet ((go_at_call 83; exact q_same (rSame_c x y hx64 hy64 _)))
     try rw [ht]
     go_wp2_with fail
     go_ret
     refine ⟨ret_bool ?_, drewE HQ.out _⟩
     have : ¬ cbs xs = cbs ys := fun e => HT.out (HE.out.1 (by rw [e]))
     simp [this]
   ·obtain rfl : k = n := by omega
    go_wp2_with fail
    go_ret
    refine ⟨ret_bool ?_, HQ.out⟩
    have h := HEQ.out
    rw [List.take_of_length_le (by rw [cbs_len, HN1.out]; exact Nat.le_refl _), List.take_of_length_le (by rw [cbs_len, ← HN.out]; exact Nat.le_refl _)] at h
    simp [h]
 ·have HL := Lib.hid hl
  have hne : ((xs.length : Int) != (ys.length : Int)) = true := by rw [bne_iff_ne]; omega
  go_enter Tryz.func26, Tryz.ntmps26
  go_wp2_with fail
  go_ret
  refine ⟨ret_bool ?_, 0, rfl⟩
  have : ¬ cbs xs = cbs ys := fun e => HL.out (by have := congrArg List.length e; rwa [cbs_len, cbs_len] at this)
  simp [this]
end Rl
end Go.Proofs.YtojhenpaeedimaaGreat
end
section
namespace Go.Proofs.YtojhenpaeedimaaGreat
open Dl
namespace Rl
open Go.RowKit Go.IntWalk
open Pk Fl Re
set_option maxRecDepth 100000
attribute [local go_sem] Oper.semAt_some
theorem Tryz.info49 : (Tryz.prog.info? 49).map (fun i => (i.zero, i.size, i.bytes)) = some (some (.float .f64 0), 1, 8) := by kernel_rfl
theorem own_apart {w : World} {base e size n q : Nat} {v : Value} {xs : List Value} {t : TypeId} {l : List Value} (h : w.ownsRow base e size v n xs) (hi : Is w q t l) (ht : t ≠ e) : v.ownBlock ≠ some q := by
 intro hb
 rcases h.2 with ⟨rfl, _⟩ | ⟨g, cap, cur, rfl, _, hh, _⟩
 ·simp [Value.ownBlock] at hb
 ·have : g = q := by simpa [Value.ownBlock] using hb
  subst this
  unfold Is at hi
  rw [hh] at hi
  injection hi with hi
  injection hi with h1 h2
  exact ht h2.symm
theorem own_snocF {w : World} {base : Nat} {v : Value} {xs : List Nat} {x : Nat} (h : w.ownsRow base 49 1 v (xs.length + 1) (fvs xs ++ [.float .f64 x])) : w.ownsRow base 49 1 v (xs ++ [x]).length (fvs (xs ++ [x])) := by
 rw [List.length_append]; simpa [fvs] using h
theorem cbs_snoc (xs : List Nat) (x : Nat) : cbs (xs ++ [x]) = cbs xs ++ [cb x] := by simp [cbs]
theorem words_snoc {xs : List Nat} {x : Nat} (h : Words xs) (hx : x < 18446744073709551616) : Words (xs ++ [x]) := fun u hu => by
 rcases List.mem_append.1 hu with h1 | h1
 ·exact h u h1
 ·rw [List.mem_singleton.1 h1]; exact hx
/-- what Decode answers -/
def REnd (r : List Nat × Int) (w : World) (e : Ending) (w' : World) : Prop :=
 ∃ A cap ys, e = .returned (.tuple #[.slice A ys.length cap, .int .i64 r.2]) ∧ cbs ys = r.1 ∧ Words ys ∧ At w' w'.heap.size A (fvs ys) ∧ Below w.heap.size w w' ∧ ys.length ≤ cap
theorem rEnd_nil {r : List Nat × Int} {w w' : World} {x : Int} (h : r = ([], x)) (hb : Below w.heap.size w w') : REnd r w (.returned (.tuple #[.slice none 0 0, .int .i64 x])) w' := by
 subst h
 exact ⟨none, 0, [], rfl, rfl, fun u hu => by simp at hu, At.nil _ _ _, hb, Nat.le_refl _⟩
set_option maxHeartbeats 8000000 in
theorem decodeR_c (l : List UInt8) (n : Int) (hn1 : -9223372036854775808 ≤ n) (hn2 : n ≤ 9223372036854775807) (hl : l.length ≤ 100000) (w : World) :
  Calls Tryz.prog 143 #[.string (ba l), .int .i64 n] w (REnd (decR l n) w) := by
 have hs := ba_size l
 rcases Int.lt_or_le n 0 with hneg | hpos
 ·have HD := Lib.hid (decR_neg (l := l) hneg)
  go_enter Tryz.func143, Tryz.ntmps143
  go_wp2_with fail
  go_ret2
  exact rEnd_nil HD.out (Below.refl _ _)
 rcases Int.lt_or_le (l.length : Int) n with hfar | hin
 ·have HD := Lib.hid (decR_far (l := l) hpos hfar)
  go_enter Tryz.func143, Tryz.ntmps143
  go_wp2_with fail
  go_ret2
  exact rEnd_nil HD.out (Below.refl _ _)
 obtain ⟨N, rfl⟩ := Int.eq_ofNat_of_zero_le hpos
 have hN : N ≤ l.length := by omega
 obtain ⟨res, hres⟩ : ∃ res, res = decR l (N : Int) := ⟨_, rfl⟩
 have HR0 := Lib.hid (hres.trans (decR_in hN))
 rw [← hres]
 obtain ⟨i0, hi, hz0, hz1, hz2⟩ := info_parts Tryz.info49
 have hbx : i0.bytes * N ≤ 281474976710656 := by rw [hz2]; omega
 have hmx : N ≤ maxLen := by unfold maxLen; omega
 have t1 : decide ((N : Int) < 0) = false := by simp
 have t2 : decide (l.length < N) = false := by simp; omega
 clear hres hpos hin hn1 hn2
 go_enter Tryz.func143, Tryz.ntmps143
 go_wp2_with (at_make; refine wpList_make_own _ rfl _ _ 23 rfl w.heap.size 49 i0 (.float .f64 0) 1 Tryz.underlying23 hi hz0 hz1 .i64 .i64 _ N rfl rfl rfl hbx hmx (Nat.le_refl _) ?_; intro w1 hown1 hgrow1)
 have hb1 := (Below.refl w.heap.size w).grown hgrow1 (Nat.le_refl _) (fun k e => by cases e)
 refine (whole_c w1).mono ?_
 rintro e w2 ⟨rfl, hk2, hm2, hs2⟩
 have hown2 := hown1.kept (w' := w2) (row := none) ⟨hm2.os, hm2.tape, hm2.output, hm2.size, fun i hi _ => hm2.block i hi⟩ (.inr (by simp [Value.ownBlock]))
 have hb2 := hb1.trans (hm2.mono hb1.size)
 obtain ⟨q, hq⟩ : ∃ q, q = w1.heap.size := ⟨_, rfl⟩
 rw [← hq] at hk2 hs2 ⊢
 have hqw : w.heap.size ≤ q := by rw [hq]; exact hb1.size
 clear hown1 hgrow1 hb1 hm2 hq hbx hmx
 go_wp2_with fail
 refine (new_c l _).mono ?_
 rintro e w3 ⟨rfl, hr3, hw3⟩
 have hown3 := hown2.alloc (.cells #[.string (ba l), .int .i64 0] 132)
 rw [← hw3] at hown3
 have hb3 : Below w.heap.size w w3 := by rw [hw3]; exact hb2.alloc hb2.size _
 have hk3 : Keeps w3 q 0 := by rw [hw3]; exact is_alloc hk2 _
 obtain ⟨g, hg⟩ : ∃ g, g = w2.heap.size := ⟨_, rfl⟩
 rw [← hg] at hr3 ⊢
 have hgq : g ≠ q := by omega
 have hgw : w.heap.size ≤ g := by rw [hg]; exact hb2.size
 clear hw3 hown2 hk2 hb2 hs2 hg
 go_wp2_with fail
 go_loopw [6, 24] (fun v i wr => ∃ (k j p : Nat) (s : St) (out : List Nat), i = .int .i64 (k : Int) ∧ k + j = N ∧ out.length = k ∧ res = fR j p s (cbs out) ∧ Words out ∧ p < 18446744073709551616 ∧
   wr.ownsRow w.heap.size 49 1 v out.length (fvs out) ∧ Keeps wr q p ∧ Rdr wr g s ∧ Below w.heap.size w wr) (fun _ i _ => N - (Go.RowKit.intOf i).toNat)
 case atStart => exact ⟨0, N, 0, ⟨l, 0⟩, [], rfl, by omega, rfl, HR0.out, fun u hu => by simp at hu, by decide, hown3, hk3, hr3, hb3⟩
 case round =>
  clear hown3 hk3 hr3 hb3 HR0
  obtain ⟨k, j, p, s, out, rfl, hkj, hol, hres, hwo, hp, hown, hkp, hr, hb⟩ := hrel
  have HRES := Lib.hid hres
  have HWO := Lib.hid hwo
  have HOL := Lib.hid hol
  have hole : out.length ≤ 100000 := by omega
  clear hres hwo hol
  by_cases hlt : k < N
  ·obtain ⟨j, rfl⟩ : ∃ j', j = j' + 1 := ⟨j - 1, by omega⟩
   go_wp2_with fail
   refine (num_m g s _ hr).mono ?_
   rintro e w4 ⟨rfl, hr4, ho4⟩
   have hown4 := hown.kept ho4 (.inr (own_apart hown hr (by decide)))
   have hk4 : Keeps w4 q p := is_grown hkp ho4 (fun e => hgq (by injection e with e; exact e.symm))
   have hb4 := below_only hb ho4 hb.size hgw
   have hv := numV_lt s
   clear hown hkp hr hb ho4
   go_wp2_with fail
   refine (swap_c (numV s) hv _).mono ?_
   rintro e wz ⟨rfl, rfl⟩
   go_wp2_with fail
   refine (whole1_c q (sw (numV s)) p (sw_lt _) hp _ hk4).mono ?_
   rintro e w5 ⟨rfl, hk5, ho5⟩
   have hown5 := hown4.kept ho5 (.inr (own_apart hown4 hk4 (by decide)))
   have hr5 : Rdr w5 g (numS s) := is_grown hr4 ho5 (fun e => hgq (by injection e))
   have hb5 := below_only hb4 ho5 hb4.size hqw
   have hul : sw (numV s) ^^^ p < 18446744073709551616 := Re.xor_lt (sw_lt _) hp
   obtain ⟨u, hu⟩ : ∃ u, u = sw (numV s) ^^^ p := ⟨_, rfl⟩
   rw [← hu] at hk5 hul ⊢
   have HU := Lib.hid hu
   clear hown4 hk4 hr4 hb4 ho5 hu
   obtain ⟨s1, hs1⟩ : ∃ s1, s1 = numS s := ⟨_, rfl⟩
   rw [← hs1] at hr5
   have HS := Lib.hid hs1
   clear hs1
   by_cases he : s1.e = 0
   ·have hne : (s1.e != 0) = false := by rw [he]; rfl
    have HE := Lib.hid he
    clear he
    go_wp2_with fail
    refine (err_c g s1 _ hr5).mono ?_
    rintro e wz ⟨rfl, rfl⟩
    cases hcn : cn u
    ·have HC := Lib.hid hcn
     go_wp2_with fail
     refine (canon_c u hul _).mono ?_
     rintro e wz ⟨rfl, rfl⟩
     rw [HC.out]
     go_wp2_with fail
     go_ret2
     refine rEnd_nil ?_ hb5
     rw [HRES.out, fR_form (by rw [← HS.out]; exact HE.out) (by rw [← HU.out]; exact HC.out)]
    ·have HC := Lib.hid hcn
     go_wp2_with fail
     refine (canon_c u hul _).mono ?_
     rintro e wz ⟨rfl, rfl⟩
     rw [HC.out]
     go_wp2_with fail
     refine (float_c u hul _).mono ?_
     rintro e w6 ⟨rfl, hm6⟩
     have hg6 : w5.grownBy w6 none := ⟨hm6.os, hm6.tape, hm6.output, hm6.size, fun i hi _ => hm6.block i hi⟩
     have hown6 := hown5.kept hg6 (by cases h : Value.ownBlock _ <;> simp)
     have hk6 := keeps_below hk5 hm6
     have hr6 : Rdr w6 g s1 := rdr_grown hr5 hm6
     have hb6 := hb5.trans (hm6.mono hb5.size)
     have hfl := fl_lt u hul
     obtain ⟨y, hy⟩ : ∃ y, y = fl u := ⟨_, rfl⟩
     rw [← hy] at hfl ⊢
     have HY := Lib.hid hy
     have hbz := hb6.size
     clear hown5 hk5 hr5 hb5 hm6 hg6 hy hcn
     go_wp2_with (at_builtin; refine wpList_append_own _ rfl _ _ 23 rfl w.heap.size 49 i0 (.float .f64 0) 1 8 Tryz.underlying23 hi hz0 hz1 hz2 rfl (by decide) _ _ _ rfl (hown6.alloc _) ⟨w6.heap.size, 0, none⟩ 1 1 [.float .f64 y] rfl rfl (cell_one_new _ _ _) (by simp [Value.oneCell']) (by unfold maxLen; omega) (by omega) (by simp; omega) ?_; intro v' w7 hown7 hgrow7 _)
     have hk7 : Keeps w7 q u := is_grown (is_alloc hk6 _) hgrow7 (fun e => own_apart hown6 hk6 (by decide) e.symm)
     have hr7 : Rdr w7 g s1 := is_grown (is_alloc hr6 _) hgrow7 (fun e => own_apart hown6 hr6 (by decide) e.symm)
     have hb7 := Dl.below_ownI hb6 hbz hown6 hgrow7
     have ho7 := own_snocF hown7
     clear hown6 hown7 hgrow7 hb6 hk6 hr6
     go_wp2
     go_roundw
     case rel =>
      refine ⟨k + 1, j, u, s1, out ++ [y], by go_num, by omega, by simp [HOL.out], ?_, words_snoc HWO.out hfl, hul, ho7, hk7, hr7, hb7⟩
      rw [HRES.out, fR_go (by rw [← HS.out]; exact HE.out) (by rw [← HU.out]; exact HC.out), ← HU.out, ← HS.out, cbs_snoc, HY.out, cb_fl_cn hul HC.out]
     case measure => simp only [Go.RowKit.intOf]; omega
   ·have hne : (s1.e != 0) = true := by simpa using he
    have HE := Lib.hid he
    clear he
    go_wp2_with fail
    refine (err_c g s1 _ hr5).mono ?_
    rintro e wz ⟨rfl, rfl⟩
    go_wp2_with fail
    go_ret2
    refine rEnd_nil ?_ hb5
    rw [HRES.out, fR_err (by rw [← HS.out]; exact HE.out), HS.out]
  ·obtain rfl : j = 0 := by omega
   obtain ⟨A, cap, rfl, hat, _, hroom⟩ := own_at hown
   have HROOM := Lib.hid hroom
   clear hroom
   have HAT := Lib.hid hat
   clear hat hown hkp
   go_wp2_with fail
   refine (done_c g s _ hr).mono ?_
   rintro e wz ⟨rfl, rfl⟩
   by_cases hd : doneV s = 0
   ·have hdb : (doneV s != 0) = false := by rw [hd]; rfl
    have HDD := Lib.hid hd
    clear hd
    go_wp2_with fail
    go_ret2
    rw [HRES.out, fR_done HDD.out]
    exact ⟨A, cap, out, rfl, rfl, HWO.out, HAT.out, hb, HROOM.out⟩
   ·have hdb : (doneV s != 0) = true := by simpa using hd
    have HDD := Lib.hid hd
    clear hd
    go_wp2_with fail
    go_ret2
    refine rEnd_nil ?_ hb
    rw [HRES.out, fR_left HDD.out]
end Rl
end Go.Proofs.YtojhenpaeedimaaGreat
end
section
namespace Go.Proofs.YtojhenpaeedimaaGreat
open Dl
namespace Rl
open Go.RowKit Go.IntWalk
open Pk Fl Re
set_option maxRecDepth 100000
attribute [local go_sem] Oper.semAt_some
end Rl
end Go.Proofs.YtojhenpaeedimaaGreat
end
section
namespace Go.Proofs.YtojhenpaeedimaaGreat
open Dl
namespace Rl
open Go.RowKit Go.IntWalk
open Pk Fl Re
set_option maxRecDepth 100000
theorem encodeR_k {A : Option Addr} {cap n : Nat} (xs us : List Nat) (S : ByteArray) (hn : n = xs.length) (hu : cbs xs = us) (hS : ba (encR us) = S) (hx : xs.length ≤ 100000) (hw : Words xs) {w : World} (hc : At w w.heap.size A (fvs xs)) :
  Calls Tryz.prog 64 #[.slice A n cap] w fun e w' => e = .returned (.string S) ∧ Below w.heap.size w w' := by
 subst hn hu hS
 exact encodeR_c A cap xs hx hw w hc
theorem decodeR_k {S : ByteArray} (l : List UInt8) (n : Int) (us : List Nat) (x : Int) (hS : S = ba l) (hr : decR l n = (us, x)) (hn1 : -9223372036854775808 ≤ n) (hn2 : n ≤ 9223372036854775807) (hl : l.length ≤ 100000) (w : World) :
  Calls Tryz.prog 143 #[.string S, .int .i64 n] w fun e w' => ∃ A cap ys, e = .returned (.tuple #[.slice A ys.length cap, .int .i64 x]) ∧ cbs ys = us ∧ Words ys ∧ ys.length = us.length ∧ At w' w'.heap.size A (fvs ys) ∧ Below w.heap.size w w' ∧ ys.length ≤ cap := by
 subst hS
 have := decodeR_c l n hn1 hn2 hl w
 rw [hr] at this
 refine this.mono ?_
 rintro e w' ⟨A, cap, ys, he, h1, h2, h3, h4, h5⟩
 exact ⟨A, cap, ys, he, h1, h2, by have := congrArg List.length h1; rwa [cbs_len] at this, h3, h4, h5⟩
namespace live9
end live9
end Rl
end Go.Proofs.YtojhenpaeedimaaGreat
end
