/-
 Contracts of the Readers' Done; of Swap, the program's and the document's; of the two closures that keep the word ahead.
 Encode, the program's and the document's.
 Same, the program's (slices.EqualFunc) and the document's.
-/
import Derived.Test.YtojhenpaeedimaaGreatHb
import Derived.Test.YtojhenpaeedimaaGreatDg
import Derived.Test.YtojhenpaeedimaaGreatDe
import Derived.Test.YtojhenpaeedimaaGreatMg
import Derived.Test.YtojhenpaeedimaaGreatDa
section
namespace Go.Proofs.YtojhenpaeedimaaGreat
open Dl
namespace Rl
open Go.RowKit
open Pk
set_option maxRecDepth 100000
theorem done_c (g : Nat) (s : St) (w : World) (h : Rdr w g s) :
  Calls Tryz.prog 91 #[.pointer (some ⟨g, 0, none⟩)] w fun e w' => e = .returned (.int .i64 (doneV s)) ∧ w = w' := by
 by_cases he : s.e = 0
 ·have hd : (s.e != 0) = false := by rw [he]; rfl
  by_cases hp : 0 < s.l.length
  ·have HV : Hid (doneV s = 5) := by unfold Hid doneV; rw [if_pos he, if_pos hp]
   clear he
   go_enter Tryz.func91, Tryz.ntmps91
   go_wp2_with (first
    | (go_at_call 54; refine (err_c g s _ h).mono ?_; rintro e wz ⟨rfl, rfl⟩)
    | (go_at_call 53; refine (left_c g s _ h).mono ?_; rintro e wz ⟨rfl, rfl⟩))
   go_ret
   exact ⟨ret_int HV.out.symm, rfl⟩
  ·have HV : Hid (doneV s = 0) := by unfold Hid doneV; rw [if_pos he, if_neg hp]
   clear he
   go_enter Tryz.func91, Tryz.ntmps91
   go_wp2_with (first
    | (go_at_call 54; refine (err_c g s _ h).mono ?_; rintro e wz ⟨rfl, rfl⟩)
    | (go_at_call 53; refine (left_c g s _ h).mono ?_; rintro e wz ⟨rfl, rfl⟩))
   go_ret
   exact ⟨ret_int HV.out.symm, rfl⟩
 ·have hd : (s.e != 0) = true := by simpa using he
  have HV : Hid (doneV s = s.e) := by unfold Hid doneV; rw [if_neg he]
  clear he
  go_enter Tryz.func91, Tryz.ntmps91
  go_wp2_with (go_at_call 54; refine (err_c g s _ h).mono ?_; rintro e wz ⟨rfl, rfl⟩)
  go_ret
  exact ⟨ret_int HV.out.symm, rfl⟩
theorem rdone_m (g : Nat) (s : List UInt8) (st : St) (hl : s.length ≤ 140737488351232) (w : World) (h : Ref w g s st) :
  Calls Tryz.prog 71 #[.pointer (some ⟨g, 0, none⟩)] w fun e w' => e = .returned (.int .i64 (doneV st)) ∧ ∃ n, w' = w.drewN n := by
 obtain ⟨k, hk, hd, hr⟩ := h
 have hll := drop_at hd
 have h2 := ref_e hr
 by_cases he : st.e = 0
 ·have ht : (st.e == 0) = true := by simpa using he
  by_cases hp : 0 < st.l.length
  ·have HV : Hid (doneV st = 5) := by unfold Hid doneV; rw [if_pos he, if_pos hp]
   have hp2 : (0 : Int) < ((s.length - k : Nat) : Int) := by omega
   have HR := Lib.hid hr
   clear he hd hr hll
   go_enter Tryz.func71, Tryz.ntmps71
   go_wp2_with (go_at_call 56; refine (rLeft_c g s k st.e hk hl _ HR.out).mono ?_; rintro e wz ⟨rfl, n, rfl⟩)
   go_ret
   exact ⟨ret_int HV.out.symm, _, rfl⟩
  ·have HV : Hid (doneV st = 0) := by unfold Hid doneV; rw [if_pos he, if_neg hp]
   have hp2 : ¬ (0 : Int) < ((s.length - k : Nat) : Int) := by omega
   have HR := Lib.hid hr
   have HE := Lib.hid he
   clear he hd hr hll
   go_enter Tryz.func71, Tryz.ntmps71
   go_wp2_with (go_at_call 56; refine (rLeft_c g s k st.e hk hl _ HR.out).mono ?_; rintro e wz ⟨rfl, n, rfl⟩)
   go_ret
   exact ⟨ret_int (by rw [HV.out, HE.out]), _, rfl⟩
 ·have ht : (st.e == 0) = false := by simpa using he
  have HV : Hid (doneV st = st.e) := by unfold Hid doneV; rw [if_neg he]
  clear he hd hr hll
  go_enter Tryz.func71, Tryz.ntmps71
  go_wp2
  go_ret
  exact ⟨ret_int (by rw [HV.out]), 0, rfl⟩
theorem rev_c (u : Nat) (hu : u < 18446744073709551616) (w : World) :
  Calls Tryz.prog 174 #[.int .u64 (u : Int)] w fun e w' => e = .returned (.int .u64 (Re.sw u : Nat)) ∧ w = w' := by
 obtain ⟨x, hx⟩ : ∃ x, x = ((u / 256) &&& 71777214294589695) ||| ((u &&& 71777214294589695) * 256) := ⟨_, rfl⟩
 obtain ⟨y, hy⟩ : ∃ y, y = ((x / 65536) &&& 281470681808895) ||| ((x &&& 281470681808895) * 65536) := ⟨_, rfl⟩
 obtain ⟨hxl, hyl, hr⟩ := Re.rev64 u x y hu hx hy
 have m8 : ∀ z : Nat, z &&& 71777214294589695 < 72057594037927936 := fun z => Nat.lt_of_le_of_lt Nat.and_le_right (by decide)
 have m16 : ∀ z : Nat, z &&& 281470681808895 < 281474976710656 := fun z => Nat.lt_of_le_of_lt Nat.and_le_right (by decide)
 have a1 : bits .and .u64 ((u : Int) / 256) 71777214294589695 = (((u / 256) &&& 71777214294589695 : Nat) : Int) := u64_and_nat (u / 256) 71777214294589695 (by omega) (by decide)
 have a2 : bits .and .u64 (u : Int) 71777214294589695 = ((u &&& 71777214294589695 : Nat) : Int) := u64_and_nat u 71777214294589695 hu (by decide)
 have k1 := m8 (u / 256)
 have k2 := m8 u
 obtain ⟨p, hp⟩ : ∃ p, p = (u / 256) &&& 71777214294589695 := ⟨_, rfl⟩
 obtain ⟨q, hq⟩ : ∃ q, q = u &&& 71777214294589695 := ⟨_, rfl⟩
 rw [← hp] at a1 k1
 rw [← hq] at a2 k2
 have a3 : bits .or .u64 (p : Int) ((q : Int) * 256) = (x : Int) := by
  rw [hx, ← hp, ← hq]; exact u64_or_nat p (q * 256) (by omega) (by omega)
 have w1 : IntKind.u64.wrap ((q : Int) * 256) = (q : Int) * 256 := by rw [IntKind.wrap_u64]; omega
 have b1 : bits .and .u64 ((x : Int) / 65536) 281470681808895 = (((x / 65536) &&& 281470681808895 : Nat) : Int) := u64_and_nat (x / 65536) 281470681808895 (by omega) (by decide)
 have b2 : bits .and .u64 (x : Int) 281470681808895 = ((x &&& 281470681808895 : Nat) : Int) := u64_and_nat x 281470681808895 hxl (by decide)
 have k3 := m16 (x / 65536)
 have k4 := m16 x
 obtain ⟨r, hr1⟩ : ∃ r, r = (x / 65536) &&& 281470681808895 := ⟨_, rfl⟩
 obtain ⟨t, ht⟩ : ∃ t, t = x &&& 281470681808895 := ⟨_, rfl⟩
 rw [← hr1] at b1 k3
 rw [← ht] at b2 k4
 have b3 : bits .or .u64 (r : Int) ((t : Int) * 65536) = (y : Int) := by
  rw [hy, ← hr1, ← ht]; exact u64_or_nat r (t * 65536) (by omega) (by omega)
 have w2 : IntKind.u64.wrap ((t : Int) * 65536) = (t : Int) * 65536 := by rw [IntKind.wrap_u64]; omega
 have c3 : bits .or .u64 ((y : Int) / 4294967296) ((y : Int) % 4294967296 * 4294967296) = (Re.sw u : Nat) := by
  rw [← hr]; exact u64_or_nat (y / 4294967296) (y % 4294967296 * 4294967296) (by omega) (by omega)
 have w3 : IntKind.u64.wrap ((y : Int) * 4294967296) = (y : Int) % 4294967296 * 4294967296 := by rw [IntKind.wrap_u64]; omega
 have HH := Lib.hid hr
 clear hx hy hp hq hr1 ht m8 m16 hr
 go_enter Tryz.func174, Tryz.ntmps174
 go_wp2
 go_ret
 exact ⟨rfl, rfl⟩
theorem swap_c (u : Nat) (hu : u < 18446744073709551616) (w : World) :
  Calls Tryz.prog 113 #[.int .u64 (u : Int)] w fun e w' => e = .returned (.int .u64 (Re.sw u : Nat)) ∧ w = w' := by
 go_enter Tryz.func113, Tryz.ntmps113
 go_wp2_with fail
 refine (rev_c u hu _).mono ?_
 rintro e wz ⟨rfl, rfl⟩
 go_wp2
 go_ret
 exact ⟨rfl, rfl⟩
theorem rswap_c (u : Nat) (hu : u < 18446744073709551616) (w : World) :
  Calls Tryz.prog 118 #[.int .u64 (u : Int)] w fun e w' => e = .returned (.int .u64 (Re.sw u : Nat)) ∧ w = w' := by
 have HS := Lib.hid (Re.swn_eq u hu)
 go_enter Tryz.func118, Tryz.ntmps118
 go_wp2
 go_loop [0, 3, 4] (fun x v i => ∃ (k y z : Nat), k ≤ 8 ∧ i = .int .i64 (k : Int) ∧ x = .int .u64 (y : Int) ∧ v = .int .u64 (z : Int) ∧ y < 18446744073709551616 ∧ z < 256 ^ k ∧ Re.swn (8 - k) z y = Re.swn 8 0 u) (fun _ _ i => 8 - (Go.RowKit.intOf i).toNat)
 case atStart => exact ⟨0, u, 0, by omega, rfl, rfl, rfl, hu, by decide, rfl⟩
 case round =>
  obtain ⟨k, y, z, hk, rfl, rfl, rfl, hy, hz, hrun⟩ := hrel
  by_cases hlt : k < 8
  ·rw [show 8 - k = (8 - (k + 1)) + 1 by omega] at hrun
   have H := Lib.hid hrun
   have hz8 : z < 72057594037927936 := Nat.lt_of_lt_of_le hz (show 256 ^ k ≤ 256 ^ 7 from Nat.pow_le_pow_right (by decide) (by omega))
   have hzn : 256 * z + y % 256 < 256 ^ (k + 1) := by rw [Nat.pow_succ]; omega
   have hsum : IntKind.u64.wrap (256 * (z : Int) + (y : Int) % 256) = ((256 * z + y % 256 : Nat) : Int) := by rw [IntKind.wrap_u64]; omega
   have hmul : IntKind.u64.wrap (256 * (z : Int)) = 256 * (z : Int) := by rw [IntKind.wrap_u64]; omega
   have HZ := Lib.hid hzn
   clear hrun hz hzn
   go_wp2
   go_round
   case rel => exact ⟨k + 1, y / 256, 256 * z + y % 256, by omega, by go_num, by go_num, by go_num, by omega, HZ.out, H.out⟩
   case measure => simp [Go.RowKit.intOf]; omega
  ·obtain rfl : k = 8 := by omega
   go_wp2
   go_ret
   exact ⟨ret_int (by rw [← HS.out, ← hrun]; rfl), rfl⟩
theorem grown_set (w : World) (b : Nat) (u : Value) : w.grownBy (w.setCell ⟨b, 0, none⟩ u) (some b) :=
 ⟨rfl, rfl, rfl, by simp [World.setCell], fun k _ hk => Below.heap_setCell _ _ _ _ (fun e => hk (by simp [e]))⟩
/-- block b keeps the word p -/
def Keeps (w : World) (b : Nat) (p : Nat) : Prop := Is w b 62 [.int .u64 (p : Int)]
theorem xor_u64 (x y : Nat) (hx : x < 18446744073709551616) (hy : y < 18446744073709551616) : bits .xor .u64 (x : Int) (y : Int) = ((x ^^^ y : Nat) : Int) := u64_xor_nat x y hx hy
theorem unlike_c (w : World) : Calls Tryz.prog 112 #[] w fun e w' =>
  e = .returned (.func (.func 173) #[] #[.pointer (some ⟨w.heap.size, 0, none⟩)]) ∧ Keeps w' w.heap.size 0 ∧ Below w.heap.size w w' ∧ w.heap.size < w'.heap.size := by
 have hmf : ∀ (fn : Fn) (first cap : Array Value) (w : World), (Instr.makeFunc fn first cap).run Tryz.prog w = .ok (.func fn first cap) w := fun _ _ _ _ => rfl
 go_enter Tryz.func112, Tryz.ntmps112
 go_wp2
 go_ret
 refine ⟨rfl, ?_, ?_, ?_⟩
 ·first | exact is_new w 62 [.int .u64 0] | exact is_set (is_new w 62 [.int .u64 0]) 0 (.int .u64 0)
 ·first | exact (Below.refl _ _).alloc (Nat.le_refl _) _ | exact Below.setCell ((Below.refl _ _).alloc (Nat.le_refl _) _) (p := ⟨w.heap.size, 0, none⟩) (Nat.le_refl _) _
 ·simp
theorem whole_c (w : World) : Calls Tryz.prog 189 #[] w fun e w' =>
  e = .returned (.func (.func 214) #[] #[.pointer (some ⟨w.heap.size, 0, none⟩)]) ∧ Keeps w' w.heap.size 0 ∧ Below w.heap.size w w' ∧ w.heap.size < w'.heap.size := by
 have hmf : ∀ (fn : Fn) (first cap : Array Value) (w : World), (Instr.makeFunc fn first cap).run Tryz.prog w = .ok (.func fn first cap) w := fun _ _ _ _ => rfl
 go_enter Tryz.func189, Tryz.ntmps189
 go_wp2
 go_ret
 refine ⟨rfl, ?_, ?_, ?_⟩
 ·first | exact is_new w 62 [.int .u64 0] | exact is_set (is_new w 62 [.int .u64 0]) 0 (.int .u64 0)
 ·first | exact (Below.refl _ _).alloc (Nat.le_refl _) _ | exact Below.setCell ((Below.refl _ _).alloc (Nat.le_refl _) _) (p := ⟨w.heap.size, 0, none⟩) (Nat.le_refl _) _
 ·simp
theorem unlike1_c (b u p : Nat) (hu : u < 18446744073709551616) (hp : p < 18446744073709551616) (w : World) (h : Keeps w b p) : Calls Tryz.prog 173 #[.int .u64 (u : Int), .pointer (some ⟨b, 0, none⟩)] w fun e w' =>
  e = .returned (.int .u64 (u ^^^ p : Nat)) ∧ Keeps w' b u ∧ w.grownBy w' (some b) := by
 have hc := is_cell h 0
 have hf := is_free h 0
 have hlt := is_lt h
 have hset := is_set h 0 (.int .u64 (u : Int))
 have hg := grown_set w b (.int .u64 (u : Int))
 simp only [List.getElem?_cons_zero, List.set_cons_zero] at hc hset
 have hx := xor_u64 u p hu hp
 clear h
 go_enter Tryz.func173, Tryz.ntmps173
 go_wp2
 go_ret
 exact ⟨rfl, hset, hg⟩
theorem whole1_c (b x p : Nat) (hx : x < 18446744073709551616) (hp : p < 18446744073709551616) (w : World) (h : Keeps w b p) : Calls Tryz.prog 214 #[.int .u64 (x : Int), .pointer (some ⟨b, 0, none⟩)] w fun e w' =>
  e = .returned (.int .u64 (x ^^^ p : Nat)) ∧ Keeps w' b (x ^^^ p) ∧ w.grownBy w' (some b) := by
 have hc := is_cell h 0
 have hf := is_free h 0
 have hlt := is_lt h
 have hset := is_set h 0 (.int .u64 (x ^^^ p : Nat))
 have hg := grown_set w b (.int .u64 (x ^^^ p : Nat))
 simp only [List.getElem?_cons_zero, List.set_cons_zero] at hc hset
 have hxx : bits .xor .u64 (p : Int) (x : Int) = ((x ^^^ p : Nat) : Int) := by rw [Nat.xor_comm]; exact xor_u64 p x hp hx
 clear h
 go_enter Tryz.func214, Tryz.ntmps214
 go_wp2
 go_ret
 exact ⟨rfl, hset, hg⟩
end Rl
end Go.Proofs.YtojhenpaeedimaaGreat
end
section
namespace Go.Proofs.YtojhenpaeedimaaGreat
open Dl
namespace Rl
open Go.RowKit Go.IntWalk
open Pk Fl Re
set_option maxRecDepth 100000
/-- numbers with a point as cells -/
def fvs (l : List Nat) : List Value := l.map fun (x : Nat) => Value.float .f64 x
theorem fvs_at {l : List Nat} {k : Nat} {x : Nat} (h : l[k]? = some x) : (fvs l)[k]? = some (.float .f64 x) := by simp [fvs, h]
theorem words_at {l : List Nat} (h : Words l) {k x : Nat} (hx : l[k]? = some x) : x < 18446744073709551616 := h x (List.mem_of_getElem? hx)
/-- their bits -/
def cbs (l : List Nat) : List Nat := l.map cb
theorem cbs_len (l : List Nat) : (cbs l).length = l.length := by simp [cbs]
theorem cbs_words {l : List Nat} (h : Words l) : Words (cbs l) := fun u hu => by
 simp only [cbs, List.mem_map] at hu
 obtain ⟨x, hx, rfl⟩ := hu
 exact cb_lt x (h x hx)
theorem cbs_take {l : List Nat} {k x : Nat} (h : l[k]? = some x) : cbs (l.take (k + 1)) = cbs (l.take k) ++ [cb x] := by
 rw [List.take_add_one, h]; simp [cbs]
theorem encR_take {l : List Nat} {k x : Nat} (h : l[k]? = some x) : encR (cbs (l.take (k + 1))) = encR (cbs (l.take k)) ++ put (sw (cb x ^^^ lst 0 (cbs (l.take k)))) := by
 rw [cbs_take h, encR, dx_app, encS_app]
 show _ ++ (put _ ++ []) = _
 rw [List.append_nil]; rfl
theorem lst_take {l : List Nat} {k x : Nat} (h : l[k]? = some x) : lst 0 (cbs (l.take (k + 1))) = cb x := by rw [cbs_take h, lst_snoc]
theorem encR_take_len (l : List Nat) (k : Nat) : (encR (cbs (l.take k))).length ≤ 10 * l.length := by
 have := (encR_len (cbs (l.take k))).2
 rw [cbs_len, List.length_take] at this
 omega
theorem words_take {l : List Nat} (h : Words l) (k : Nat) : Words (l.take k) := fun u hu => h u (List.mem_of_mem_take hu)
theorem bld_only {w w' : World} {B b q : Nat} {l : List UInt8} (h : Bld w B b l) (ho : w.grownBy w' (some q)) (hne : b ≠ q) (hq : q < B) : Bld w' B b l := by
 obtain ⟨p, v, hp, hk, hown, hn⟩ := h
 exact ⟨p, v, hp, (ho.block b (Array.getElem?_eq_some_iff.1 hk).1 (fun e => hne (by injection e))).trans hk, own_only hown ho hq, hn⟩
theorem keeps_but {w w' : World} {B b q p : Nat} (h : Keeps w q p) (hb : But B b w w') (hq : q < B) (hne : q ≠ b) : Keeps w' q p := (hb.block q hq hne).trans h
theorem keeps_below {w w' : World} {q p : Nat} (h : Keeps w q p) (hb : Below w.heap.size w w') : Keeps w' q p := is_below h hb (is_lt h)
theorem cell_below {w w' : World} {B : Nat} {b o : Nat} {v : Value} (h : w.cell? ⟨b, o, none⟩ = some v) (hb : Below B w w') (hlt : b < B) : w'.cell? ⟨b, o, none⟩ = some v := (hb.cell (p := ⟨b, o, none⟩) hlt).trans h
set_option maxHeartbeats 2000000 in
theorem encodeR_c (A : Option Addr) (cap : Nat) (xs : List Nat) (hx : xs.length ≤ 100000) (hw : Words xs) (w : World) (hc : At w w.heap.size A (fvs xs)) :
  Calls Tryz.prog 64 #[.slice A xs.length cap] w fun e w' => e = .returned (.string (ba (encR (cbs xs)))) ∧ Below w.heap.size w w' := by
 have HC := Lib.hid hc
 have HW := Lib.hid hw
 clear hc hw
 go_enter Tryz.func64, Tryz.ntmps64
 go_wp2_with fail
 have h0 : Below w.heap.size w (w.alloc (.cells #[.pointer none, .slice none 0 0] 111)) := (Below.refl _ _).alloc (Nat.le_refl _) _
 refine (unlike_c _).mono ?_
 rintro e w1 ⟨rfl, hk1, hb1, hsz⟩
 rw [World.size_alloc] at hk1 hb1 hsz ⊢
 have hbld0 := bld_grown (bld_new w w1.heap.size) (by rw [World.size_alloc]; exact hb1)
 have hb01 := h0.trans (hb1.mono (Nat.le_succ _))
 clear h0 hb1
 go_wp2_with fail
 go_loopw [10] (fun i wr => ∃ k : Nat, i = .int .i64 (k : Int) ∧ k ≤ xs.length ∧ Bld wr w1.heap.size w.heap.size (encR (cbs (xs.take k))) ∧ Keeps wr (w.heap.size + 1) (lst 0 (cbs (xs.take k))) ∧ Below w.heap.size w wr ∧ w1.heap.size ≤ wr.heap.size) (fun i _ => xs.length - (Go.RowKit.intOf i).toNat)
 case atStart => exact ⟨0, rfl, Nat.zero_le _, hbld0, hk1, hb01, Nat.le_refl _⟩
 case round =>
  clear hbld0 hk1 hb01
  obtain ⟨k, rfl, hk, hbld, hkp, hb, hws⟩ := hrel
  by_cases hlt : k < xs.length
  ·obtain ⟨x, hxk⟩ := some_at hlt
   obtain ⟨b, off, rfl, hbl, hcell0⟩ := HC.out k _ (fvs_at hxk)
   have hcell := cell_below hcell0 hb hbl
   have hx64 := words_at HW.out hxk
   have hcb := cb_lt x hx64
   have hp := lst_lt (p := 0) (by decide) (cbs_words (words_take HW.out k))
   have hde := encR_take_len xs k
   have ET := Lib.hid (encR_take hxk)
   have LT := Lib.hid (lst_take hxk)
   obtain ⟨p, hpe⟩ : ∃ p, p = lst 0 (cbs (xs.take k)) := ⟨_, rfl⟩
   obtain ⟨S, hSe⟩ : ∃ S, S = encR (cbs (xs.take k)) := ⟨_, rfl⟩
   rw [← hpe] at hkp hp
   rw [← hpe, ← hSe] at ET
   rw [← hSe] at hbld hde
   have hpl := put_len10 (sw_lt (cb x ^^^ p))
   have hle : S.length + (put (sw (cb x ^^^ p))).length ≤ 140737488355328 := by omega
   have hxx := Re.xor_lt hcb hp
   clear hcell0 hxk hpl hde hpe hSe
   go_wp2_with fail
   refine (bits_c x hx64 _).mono ?_
   rintro e w2 ⟨rfl, hb2⟩
   have hbld2 := bld_grown hbld hb2
   have hkp2 : Keeps w2 (w.heap.size + 1) p := keeps_below hkp hb2
   have hb02 := hb.trans (hb2.mono hb.size)
   have hws2 := Nat.le_trans hws hb2.size
   clear hbld hkp hb hws hb2 hcell
   go_wp2_with fail
   refine (unlike1_c (w.heap.size + 1) (cb x) p hcb hp _ hkp2).mono ?_
   rintro e w3 ⟨rfl, hkp3, ho3⟩
   have hbld3 := bld_only hbld2 ho3 (by omega) (by omega)
   have hb03 := below_only hb02 ho3 hb02.size (Nat.le_succ _)
   have hws3 := Nat.le_trans hws2 ho3.size
   clear hbld2 hkp2 hb02 hws2 ho3
   go_wp2_with fail
   refine (swap_c (cb x ^^^ p) hxx _).mono ?_
   rintro e wz ⟨rfl, rfl⟩
   go_wp2_with fail
   refine (put_c (sw (cb x ^^^ p)) (sw_lt _) _).mono ?_
   rintro e w4 ⟨rfl, hb4⟩
   have hbld4 := bld_grown hbld3 hb4
   have hkp4 : Keeps w4 (w.heap.size + 1) (cb x) := keeps_below hkp3 hb4
   have hb04 := hb03.trans (hb4.mono hb03.size)
   have hws4 := Nat.le_trans hws3 hb4.size
   clear hbld3 hkp3 hb03 hws3 hb4
   go_wp2_with fail
   refine (write_b w1.heap.size w.heap.size S (put (sw (cb x ^^^ p))) _ hbld4 hle hws4).mono ?_
   rintro e w5 ⟨rfl, hbld5, hbut5⟩
   have hkp5 := keeps_but hkp4 hbut5 hsz (by omega)
   have hb05 := hb04.trans (hbut5.below (by omega) (Nat.le_refl _))
   have hws5 := Nat.le_trans hws4 hbut5.size
   clear hbld4 hkp4 hb04 hws4 hbut5
   go_wp2_with fail
   go_roundw
   case rel => exact ⟨k + 1, by go_num, by omega, by rw [ET.out]; exact hbld5, by rw [LT.out]; exact hkp5, hb05, hws5⟩
   case measure => simp only [Go.RowKit.intOf]; omega
  ·obtain rfl : k = xs.length := by omega
   rw [List.take_length] at hbld
   go_wp2_with fail
   refine (string_c w1.heap.size w.heap.size w.heap.size _ _ hbld (by omega) (Nat.le_refl _)).mono ?_
   rintro e w3 ⟨rfl, hb3⟩
   go_wp2
   go_ret
   exact ⟨rfl, hb.trans hb3⟩
set_option maxHeartbeats 2000000 in
theorem rencodeR_c (A : Option Addr) (cap : Nat) (xs : List Nat) (hx : xs.length ≤ 100000) (hw : Words xs) (w : World) (hc : At w w.heap.size A (fvs xs)) :
  Calls Tryz.prog 67 #[.slice A xs.length cap] w fun e w' => e = .returned (.string (ba (encR (cbs xs)))) ∧ Below w.heap.size w w' := by
 have HC := Lib.hid hc
 have HW := Lib.hid hw
 clear hc hw
 go_enter Tryz.func67, Tryz.ntmps67
 go_wp2_with fail
 go_loopw [3, 4, 5, 6] (fun s p i _ wr => ∃ k : Nat, s = .string (ba (encR (cbs (xs.take k)))) ∧ p = .int .u64 (lst 0 (cbs (xs.take k)) : Nat) ∧ i = .int .i64 (k : Int) ∧ k ≤ xs.length ∧ Below w.heap.size w wr) (fun _ _ i _ _ => xs.length - (Go.RowKit.intOf i).toNat)
 case atStart => exact ⟨0, rfl, rfl, rfl, Nat.zero_le _, Below.refl _ _⟩
 case round =>
  obtain ⟨k, rfl, rfl, rfl, hk, hb⟩ := hrel
  by_cases hlt : k < xs.length
  ·obtain ⟨x, hxk⟩ := some_at hlt
   obtain ⟨b, off, rfl, hbl, hcell0⟩ := HC.out k _ (fvs_at hxk)
   have hcell := cell_below hcell0 hb hbl
   have hx64 := words_at HW.out hxk
   have hcb := cb_lt x hx64
   have hp := lst_lt (p := 0) (by decide) (cbs_words (words_take HW.out k))
   have hde := encR_take_len xs k
   have ET := Lib.hid (encR_take hxk)
   have LT := Lib.hid (lst_take hxk)
   obtain ⟨p, hpe⟩ : ∃ p, p = lst 0 (cbs (xs.take k)) := ⟨_, rfl⟩
   obtain ⟨S, hSe⟩ : ∃ S, S = encR (cbs (xs.take k)) := ⟨_, rfl⟩
   rw [← hpe] at hp ⊢
   rw [← hpe, ← hSe] at ET
   rw [← hSe] at hde ⊢
   have hpl := put_len10 (sw_lt (cb x ^^^ p))
   have hadd := add_ba S (put (sw (cb x ^^^ p))) (by omega)
   have hxx := Re.xor_lt hcb hp
   have hxor := xor_u64 (cb x) p hcb hp
   clear hcell0 hxk hpl hde hpe hSe
   go_wp2_with fail
   refine (rBits_c x hx64 _).mono ?_
   rintro e wz ⟨rfl, rfl⟩
   go_wp2_with fail
   refine (rswap_c (cb x ^^^ p) hxx _).mono ?_
   rintro e wz ⟨rfl, rfl⟩
   go_wp2_with fail
   refine (rPut_c (sw (cb x ^^^ p)) (sw_lt _) _).mono ?_
   rintro e w4 ⟨rfl, hb4⟩
   have hb04 := hb.trans (hb4.mono hb.size)
   clear hb hb4 hcell
   go_wp2_with fail
   go_roundw
   case rel => exact ⟨k + 1, by rw [ET.out], by rw [LT.out], by go_num, by omega, hb04⟩
   case measure => simp only [Go.RowKit.intOf]; omega
  ·obtain rfl : k = xs.length := by omega
   rw [List.take_length]
   go_wp2_with fail
   go_ret
   exact ⟨rfl, hb⟩
end Rl
end Go.Proofs.YtojhenpaeedimaaGreat
end
section
namespace Go.Proofs.YtojhenpaeedimaaGreat
open Dl
namespace Rl
open Go.RowKit Go.IntWalk
open Pk Fl Re
set_option maxRecDepth 100000
theorem cbs_at {l : List Nat} {k x : Nat} (h : l[k]? = some x) : (cbs l)[k]? = some (cb x) := by simp [cbs, h]
theorem eq_int {a b : Nat} (h : a = b) : (((a : Int) == (b : Int))) = true := by rw [h]; simp
theorem ne_int {a b : Nat} (h : a ≠ b) : (((a : Int) == (b : Int))) = false := by rw [beq_eq_false_iff_ne]; omega
theorem q_same {P : Program} {f : FuncId} {args : Array Value} {w : World} {n : Nat} {v : Value} (h : Calls P f args (w.drewN n) fun e w' => e = .returned v ∧ w.drewN n = w') :
  Calls P f args (w.drewN n) fun e w'' => e = .returned v ∧ ∃ m, w'' = w.drewN m := h.mono fun _ _ ⟨he, hm⟩ => ⟨he, n, hm.symm⟩
set_option maxHeartbeats 1000000 in
theorem rsame9_c (A1 A2 : Option Addr) (c1 c2 : Nat) (xs ys : List Nat) (hx : xs.length ≤ maxLen) (hy : ys.length ≤ maxLen) (hwx : Words xs) (hwy : Words ys) (w : World) (h1 : At w w.heap.size A1 (fvs xs)) (h2 : At w w.heap.size A2 (fvs ys)) :
  Calls Tryz.prog 26 #[.slice A1 xs.length c1, .slice A2 ys.length c2] w fun e w' => e = .returned (.bool (decide (cbs xs = cbs ys))) ∧ ∃ q, w' = w.drewN q := by
 unfold maxLen at hx hy
 have H1 := Lib.hid h1
 have H2 := Lib.hid h2
 have HWX := Lib.hid hwx
 have HWY := Lib.hid hwy
 clear h1 h2 hwx hwy
 by_cases hl : xs.length = ys.length
 ·obtain ⟨n, hn⟩ : ∃ n, n = ys.length := ⟨_, rfl⟩
  have hn1 : xs.length = n := by omega
  rw [← hn, hn1]
  rw [hn1] at hx hl
  rw [← hn] at hy hl
  have HN := Lib.hid hn
  have HN1 := Lib.hid hn1
  clear hn hn1
  go_enter Tryz.func26, Tryz.ntmps26
  go_wp2_with fail
  go_loopw [5] (fun i wr => ∃ k : Nat, i = .int .i64 (k : Int) ∧ k ≤ n ∧ (cbs xs).take k = (cbs ys).take k ∧ ∃ q, wr = w.drewN q) (fun i _ => n - (Go.RowKit.intOf i).toNat)
  case atStart => exact ⟨0, rfl, Nat.zero_le _, rfl, 0, rfl⟩
  case round =>
   obtain ⟨k, rfl, hk, heq, hq⟩ := hrel
   have HQ := Lib.hid hq
   clear hq
   have HEQ := Lib.hid heq
   clear heq
   by_cases hlt : k < n
   ·obtain ⟨x, hxk⟩ := some_at (show k < xs.length by rw [HN1.out]; exact hlt)
    obtain ⟨y, hyk⟩ := some_at (show k < ys.length by rw [← HN.out]; exact hlt)
    obtain ⟨b1, o1, rfl, _, hc1⟩ := (at_drewE H1.out HQ.out) k _ (fvs_at hxk)
    obtain ⟨b2, o2, rfl, _, hc2⟩ := (at_drewE H2.out HQ.out) k _ (fvs_at hyk)
    have hx64 := words_at HWX.out hxk
    have hy64 := words_at HWY.out hyk
    have HE := Lib.hid (ext_take HEQ.out (cbs_at hxk) (cbs_at hyk))
    clear hxk hyk
    by_cases hxy : cb x = cb y
    ·have ht := eq_int hxy
     have HT := Lib.hid hxy
     clear hxy
     go_wp2_with fail
     go_quiet ((go_at_call 83; exact q_same (rSame_c x y hx64 hy64 _)))
     try rw [ht]
     go_wp2_with fail
     go_roundw
     case rel => exact ⟨k + 1, by go_num, by omega, HE.out.2 HT.out, drewE HQ.out _⟩
     case measure => simp only [Go.RowKit.intOf]; omega
    ·have ht := ne_int hxy
     have HT := Lib.hid hxy
     clear hxy
     go_wp2_with fail
     go_quiet ((go_at_call 83; exact q_same (rSame_c x y hx64 hy64 _)))
     try rw [ht]
     go_wp2_with fail
     go_ret
     refine ⟨ret_bool ?_, drewE HQ.out _⟩
     have : ¬ cbs xs = cbs ys := fun e => HT.out (HE.out.1 (by rw [e]))
     simp [this]
   ·obtain rfl : k = n := by omega
    go_wp2_with fail
    go_ret
    refine ⟨ret_bool ?_, HQ.out⟩
    have h := HEQ.out
    rw [List.take_of_length_le (by rw [cbs_len, HN1.out]; exact Nat.le_refl _), List.take_of_length_le (by rw [cbs_len, ← HN.out]; exact Nat.le_refl _)] at h
    simp [h]
 ·have HL := Lib.hid hl
  have hne : ((xs.length : Int) != (ys.length : Int)) = true := by rw [bne_iff_ne]; omega
  go_enter Tryz.func26, Tryz.ntmps26
  go_wp2_with fail
  go_ret
  refine ⟨ret_bool ?_, 0, rfl⟩
  have : ¬ cbs xs = cbs ys := fun e => HL.out (by have := congrArg List.length e; rwa [cbs_len, cbs_len] at this)
  simp [this]
end Rl
end Go.Proofs.YtojhenpaeedimaaGreat
end
