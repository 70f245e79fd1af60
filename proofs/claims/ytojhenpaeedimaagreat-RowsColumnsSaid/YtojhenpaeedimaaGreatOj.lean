/-
 Decode of flags, the document's.
 The contracts of flags at written lengths; the live answers of flags.
 PutRanks: the program's.
 Encode as columns: the program's.
-/
import Derived.Test.YtojhenpaeedimaaGreatQg
import Derived.Test.YtojhenpaeedimaaGreatDg
import Derived.Test.YtojhenpaeedimaaGreatPj
import Derived.Test.YtojhenpaeedimaaGreatPi
import Derived.Test.YtojhenpaeedimaaGreatOh
import Derived.Test.YtojhenpaeedimaaGreatHh
import Derived.Test.YtojhenpaeedimaaGreatZe
import Derived.Test.YtojhenpaeedimaaGreatJk
import Derived.Test.YtojhenpaeedimaaGreatJf
import Derived.Test.YtojhenpaeedimaaGreatMg
section
namespace Go.Proofs.YtojhenpaeedimaaGreat
open Dl Ru
namespace Fg
open Go.RowKit Go.IntWalk
open Pk
set_option maxRecDepth 100000
attribute [local go_sem] Oper.semAt_some
end Fg
end Go.Proofs.YtojhenpaeedimaaGreat
end
section
namespace Go.Proofs.YtojhenpaeedimaaGreat
open Dl Ru
namespace Fg
open Go.RowKit Go.IntWalk
open Pk
set_option maxRecDepth 100000
attribute [local go_sem] Oper.semAt_some
theorem fencode_k {A : Option Addr} {cap n : Nat} (xs : List Bool) (hn : xs.length = n) (hx : n ≤ 100000) {w : World} (hc : At w w.heap.size A (bvs xs)) :
  Calls Tryz.prog 63 #[.slice A n cap] w fun e w' => e = .returned (.string (ba (encF xs))) ∧ Below w.heap.size w w' := by
 subst hn; exact fencode_c A cap xs hx w hc
theorem count_k {A : Option Addr} {cap n : Nat} (xs : List Bool) (c : Int) (h : (cnt xs : Int) = c) (hn : xs.length = n) (hx : n ≤ 100000) {w : World} (hc : At w w.heap.size A (bvs xs)) :
  Calls Tryz.prog 144 #[.slice A n cap] w fun e w' => e = .returned (.int .i64 c) ∧ w' = w := by
 subst hn; subst h; exact count_c A cap xs hx w hc
theorem fdecode_k (l : List UInt8) (n : Int) (ys : List Bool) (x : Int) (k : Nat) (h : decF l n = (ys, x)) (hk : ys.length = k) (hn1 : -9223372036854775808 ≤ n) (hn2 : n ≤ 9223372036854775807) (hl : l.length ≤ 90000) (w : World) :
  Calls Tryz.prog 141 #[.string (ba l), .int .i64 n] w fun e w' => ∃ A cap, e = .returned (.tuple #[.slice A k cap, .int .i64 x]) ∧ At w' w'.heap.size A (bvs ys) ∧ Below w.heap.size w w' := by
 subst hk
 refine (fdecode_c l n hn1 hn2 (by omega) w).mono ?_
 rintro e w' ⟨A, cap, rfl, -, -, ha, hb⟩
 rw [h] at ha ⊢
 exact ⟨A, cap, rfl, ha, hb⟩
namespace live7
end live7
end Fg
end Go.Proofs.YtojhenpaeedimaaGreat
end
section
namespace Go.Proofs.YtojhenpaeedimaaGreat
open Go.RowKit Go.IntWalk
open Pk Rf Fl Wd Ol Dl Ru Fg Dt Rl
set_option maxRecDepth 100000
attribute [local go_sem] Oper.semAt_some
theorem isnz_w (x : Nat) (hx : x < 18446744073709551616) (w : World) :
  Calls Tryz.prog 62 #[.float .f64 x] w fun e w' => e = .returned (.bool (nz (cb x))) ∧ Below w.heap.size w w' := by
 obtain ⟨q, hq⟩ : ∃ q, nz (cb x) = q := ⟨_, rfl⟩
 have hc := nought_w x hx w
 rw [hq] at hc ⊢
 cases q
 all_goals
  go_enter Tryz.func62, Tryz.ntmps62
  go_wp2_with fail
  refine hc.mono ?_
  rintro e w1 ⟨rfl, hb⟩
  go_wp2_with fail
  go_ret
  exact ⟨rfl, hb⟩
def nzL (l : List Nat) : List Bool := l.map fun x => nz (cb x)
theorem nzL_take {l : List Nat} {k x : Nat} (h : l[k]? = some x) : bvs (nzL (l.take (k + 1))) = bvs (nzL (l.take k)) ++ [.bool (nz (cb x))] := by
 rw [List.take_add_one, h]; simp [bvs, nzL]
set_option maxHeartbeats 4000000 in
theorem colB_c (A : Option Addr) (cap : Nat) (l : List Nat) (hl : l.length ≤ 100000) (hw : Re.Words l) (w : World) (hc : At w w.heap.size A (fvs l)) :
  Calls Tryz.prog 61 #[.slice A l.length cap, .func (.func 62) #[] #[]] w fun e w' => ∃ A' cap', e = .returned (.slice A' l.length cap') ∧ l.length ≤ cap' ∧ Fresh w.heap.size A' ∧ At w' w'.heap.size A' (bvs (nzL l)) ∧ Below w.heap.size w w' := by
 obtain ⟨i0, hi, hz0, hz1, hz2⟩ := info_parts Tryz.info4
 have HC := Lib.hid hc
 have HW := Lib.hid hw
 have eg : ∀ args w, (callFunc 62 args).run Tryz.prog w = .ok (.enter 62 args) w := fun _ _ => rfl
 have hbx : i0.bytes * l.length ≤ 281474976710656 := by rw [hz2]; omega
 have hmx : l.length ≤ maxLen := by unfold maxLen; omega
 clear hc hw
 go_enter Tryz.func61, Tryz.ntmps61
 go_wp2_with (at_make; refine wpList_make_own _ rfl _ _ 85 rfl w.heap.size 4 i0 (.bool false) 1 Tryz.underlying85 hi hz0 hz1 .i64 .i64 _ l.length rfl rfl rfl hbx hmx (Nat.le_refl _) ?_; intro w1 hown1 hgrow1)
 have hb1 : Below w.heap.size w w1 := (Below.refl _ w).grown hgrow1 (Nat.le_refl _) (fun k e => by cases e)
 clear hbx hmx hgrow1
 go_loopw [5, 13] (fun v i wr => ∃ k : Nat, i = .int .i64 (k : Int) ∧ k ≤ l.length ∧ wr.ownsRow w.heap.size 4 1 v k (bvs (nzL (l.take k))) ∧ Below w.heap.size w wr) (fun _ i _ => l.length - (Go.RowKit.intOf i).toNat)
 case atStart => exact ⟨0, rfl, Nat.zero_le _, hown1, hb1⟩
 case round =>
  clear hown1 hb1
  obtain ⟨k, rfl, hk, hown, hb⟩ := hrel
  obtain ⟨Av, cv, rfl, -, -, -⟩ := own_at hown
  have HO := Lib.hid hown
  have HB := Lib.hid hb
  clear hown hb
  by_cases hlt : k < l.length
  ·obtain ⟨x, hx⟩ := some_at hlt
   have hki : (0 : Int) ≤ (k : Int) := by omega
   have hkl : (k : Int) < (l.length : Int) := by omega
   obtain ⟨b0, o0, rfl, hb0, c0⟩ := (HC.out.below HB.out) k (.float .f64 x) (by simp [fvs, hx])
   have hcall := isnz_w x (HW.out x (mem_at hx)) wr
   have hs := nzL_take hx
   obtain ⟨q, hq⟩ : ∃ q, nz (cb x) = q := ⟨_, rfl⟩
   rw [hq] at hcall hs
   have HS := Lib.hid hs
   have HCA := Lib.hid hcall
   clear hx hq hcall hs
   go_wp2_with (first
    | (go_at_fn 62; refine HCA.out.mono ?_; rintro e w3 ⟨rfl, hb3⟩; have ho3 := below_ownI HO.out hb3; have hb4 := HB.out.trans (hb3.mono HB.out.size))
    | (at_builtin; refine wpList_append_own _ rfl _ _ 85 rfl w.heap.size 4 i0 (.bool false) 1 1 Tryz.underlying85 hi hz0 hz1 hz2 rfl (by decide) _ _ _ rfl (ho3.alloc _) ⟨w3.heap.size, 0, none⟩ 1 1 [.bool q] rfl rfl (cell_one_new _ _ _) (by simp [Value.oneCell']) (by unfold maxLen; omega) (by omega) (by have := hb4.size; simp; omega) ?_; intro v' w5 hown' hgrow _))
   have hb5 : Below w.heap.size w w5 := below_own (hb4.alloc hb4.size _) (by have := hb4.size; simp; omega) (ho3.alloc _) hgrow
   rw [← HS.out] at hown'
   have HO5 := Lib.hid hown'
   have HB5 := Lib.hid hb5
   clear hown' hgrow hb5 hb4 ho3 hb3
   go_wp2_with fail
   go_roundw
   case rel => exact ⟨k + 1, by go_num, by omega, HO5.out, HB5.out⟩
   case measure => simp only [Go.RowKit.intOf]; omega
  ·obtain rfl : k = l.length := by omega
   have hown := HO.out
   rw [List.take_length] at hown
   obtain ⟨A', cap', e9, ha, hfr, hcp⟩ := own_at hown
   injection e9 with e1 e2 e3
   subst e1 e3
   have HA := Lib.hid ha
   have HFR := Lib.hid hfr
   clear hown ha hfr
   go_wp2_with fail
   go_ret
   exact ⟨_, _, rfl, hcp, HFR.out, HA.out, HB.out⟩
/-- P19.2, of ranks -/
def rkF (l : List Nat) : List UInt8 := rkU (cbs l)
theorem rkF_eq (l : List Nat) : rkF l = prt (encF (nzL l)) ++ Re.encR (cbs (fnz l)) := by
 unfold rkF rkU nzL fnz cbs
 rw [List.map_map, List.filter_map]
 rfl
theorem fnz_words {l : List Nat} (h : Re.Words l) : Re.Words (fnz l) := fun u hu => h u (List.mem_filter.1 hu).1
theorem fnz_len (l : List Nat) : (fnz l).length ≤ l.length := List.length_filter_le ..
set_option maxHeartbeats 4000000 in
theorem pranks_c (A : Option Addr) (cap : Nat) (l : List Nat) (hl : l.length ≤ 10000) (hA : A = none → cap = 0) (hw : Re.Words l) (w : World) (hc : At w w.heap.size A (fvs l)) :
  Calls Tryz.prog 16 #[.slice A l.length cap] w fun e w' => e = .returned (.string (ba (rkF l))) ∧ Below w.heap.size w w' := by
 have hfl := fnz_len l
 have h1 := encF_len (l := nzL l) (by unfold nzL; rw [List.length_map]; omega)
 have h1' : (nzL l).length = l.length := by unfold nzL; rw [List.length_map]
 rw [h1'] at h1
 have h2 := (Re.encR_len (cbs (fnz l))).2
 rw [cbs_len] at h2
 have h3 := prt_len (s := encF (nzL l)) (by omega)
 obtain ⟨S, hS⟩ : ∃ S, ba (rkF l) = S := ⟨_, rfl⟩
 have hadd : ∀ w : World, (Op.stringOp .add (ba (prt (encF (nzL l)))) (ba (Re.encR (cbs (fnz l))))).run Tryz.prog w = .ok (.string S) w := fun w => by
  rw [← hS, rkF_eq]; exact hadd_v _ _ (by omega) w
 have HC := Lib.hid hc
 have HW := Lib.hid hw
 have HF := Lib.hid (show (encF (nzL l)).length ≤ 1000000 by omega)
 rw [hS]
 clear hc hw hS h1 h2 h3
 go_enter Tryz.func16, Tryz.ntmps16
 go_wp2_with fail
 refine (cloneF_c A cap l (by omega) hA _ HC.out).mono ?_
 rintro e w1 ⟨A1, c1, rfl, hown, hb⟩
 have HB1 := Lib.hid hb
 have HO1 := Lib.hid hown
 clear hb hown
 go_wp2_with fail
 refine (delF_c A1 c1 l (by omega) HW.out w.heap.size _ HO1.out).mono ?_
 rintro e w2 ⟨c2, rfl, ha, hg⟩
 have HB2 := Lib.hid (below_own HB1.out HB1.out.size HO1.out hg)
 have HA2 := Lib.hid ha
 clear ha hg
 go_wp2_with fail
 refine (colB_c A cap l (by omega) HW.out _ (HC.out.keep HB2.out)).mono ?_
 rintro e w3 ⟨A3, c3, rfl, -, -, ha, hb⟩
 have HB3 := Lib.hid (HB2.out.trans (hb.mono HB2.out.size))
 have HA3 := Lib.hid ha
 have HA4 := Lib.hid (HA2.out.keep hb)
 clear ha hb
 go_wp2_with fail
 refine (fencode_k (nzL l) h1' (by omega) HA3.out).mono ?_
 rintro e w4 ⟨rfl, hb⟩
 have HB4 := Lib.hid (HB3.out.trans (hb.mono HB3.out.size))
 have HA5 := Lib.hid (HA4.out.keep hb)
 clear hb
 go_wp2_with fail
 refine (prt_c HF.out _).mono ?_
 rintro e w5 ⟨rfl, hb⟩
 have HB5 := Lib.hid (HB4.out.trans (hb.mono HB4.out.size))
 have HA6 := Lib.hid (HA5.out.keep hb)
 clear hb
 go_wp2_with fail
 refine (encodeR_k (fnz l) (cbs (fnz l)) _ rfl rfl rfl (by omega) (fnz_words HW.out) HA6.out).mono ?_
 rintro e w6 ⟨rfl, hb⟩
 have HB6 := Lib.hid (HB5.out.trans (hb.mono HB5.out.size))
 clear hb
 go_wp2_with fail
 go_ret
 exact ⟨rfl, HB6.out⟩
end Go.Proofs.YtojhenpaeedimaaGreat
end
section
namespace Go.Proofs.YtojhenpaeedimaaGreat
open Go.RowKit Go.IntWalk
open Pk Rf Fl Wd Ol Dl Ru Fg Dt Rl
set_option maxRecDepth 100000
attribute [local go_sem] Oper.semAt_some
theorem fn1_w (m : Mv) (w : World) : Calls Tryz.prog 33 #[.agg #[.int .i64 (mc m), .int .i64 (mr m), .int .i64 (pa (mw m)), .int .i64 (ch (mw m)), .string (ba (nm (mw m))), .float .f64 (rk (mw m))]] w fun e w' => e = .returned (.int .i64 (mc m)) ∧ Below w.heap.size w w' := by
 go_enter Tryz.func33, Tryz.ntmps33
 go_wp2_with fail
 go_ret
 exact ⟨rfl, (Below.refl _ _).alloc (Nat.le_refl _) _⟩
theorem eg1 : ∀ args w, (callFunc 33 args).run Tryz.prog w = .ok (.enter 33 args) w := fun _ _ => rfl
theorem fn2_w (m : Mv) (w : World) : Calls Tryz.prog 35 #[.agg #[.int .i64 (mc m), .int .i64 (mr m), .int .i64 (pa (mw m)), .int .i64 (ch (mw m)), .string (ba (nm (mw m))), .float .f64 (rk (mw m))]] w fun e w' => e = .returned (.int .u64 ((u64 (mr m) : Nat) : Int)) ∧ Below w.heap.size w w' := by
 have hwu : IntKind.u64.wrap (mr m) = (u64 (mr m) : Int) := u64_wrap _
 go_enter Tryz.func35, Tryz.ntmps35
 go_wp2_with fail
 go_ret
 exact ⟨rfl, (Below.refl _ _).alloc (Nat.le_refl _) _⟩
theorem eg2 : ∀ args w, (callFunc 35 args).run Tryz.prog w = .ok (.enter 35 args) w := fun _ _ => rfl
theorem fn3_w (m : Mv) (w : World) : Calls Tryz.prog 36 #[.agg #[.int .i64 (mc m), .int .i64 (mr m), .int .i64 (pa (mw m)), .int .i64 (ch (mw m)), .string (ba (nm (mw m))), .float .f64 (rk (mw m))]] w fun e w' => e = .returned (.int .i64 (pa (mw m))) ∧ Below w.heap.size w w' := by
 go_enter Tryz.func36, Tryz.ntmps36
 go_wp2_with fail
 go_ret
 exact ⟨rfl, (Below.refl _ _).alloc (Nat.le_refl _) _⟩
theorem eg3 : ∀ args w, (callFunc 36 args).run Tryz.prog w = .ok (.enter 36 args) w := fun _ _ => rfl
theorem fn4_w (m : Mv) (w : World) : Calls Tryz.prog 37 #[.agg #[.int .i64 (mc m), .int .i64 (mr m), .int .i64 (pa (mw m)), .int .i64 (ch (mw m)), .string (ba (nm (mw m))), .float .f64 (rk (mw m))]] w fun e w' => e = .returned (.int .i64 (ch (mw m))) ∧ Below w.heap.size w w' := by
 go_enter Tryz.func37, Tryz.ntmps37
 go_wp2_with fail
 go_ret
 exact ⟨rfl, (Below.refl _ _).alloc (Nat.le_refl _) _⟩
theorem eg4 : ∀ args w, (callFunc 37 args).run Tryz.prog w = .ok (.enter 37 args) w := fun _ _ => rfl
theorem fn5_w (m : Mv) (w : World) : Calls Tryz.prog 39 #[.agg #[.int .i64 (mc m), .int .i64 (mr m), .int .i64 (pa (mw m)), .int .i64 (ch (mw m)), .string (ba (nm (mw m))), .float .f64 (rk (mw m))]] w fun e w' => e = .returned (.string (ba (nm (mw m)))) ∧ Below w.heap.size w w' := by
 go_enter Tryz.func39, Tryz.ntmps39
 go_wp2_with fail
 go_ret
 exact ⟨rfl, (Below.refl _ _).alloc (Nat.le_refl _) _⟩
theorem eg5 : ∀ args w, (callFunc 39 args).run Tryz.prog w = .ok (.enter 39 args) w := fun _ _ => rfl
theorem fn6_w (m : Mv) (w : World) : Calls Tryz.prog 41 #[.agg #[.int .i64 (mc m), .int .i64 (mr m), .int .i64 (pa (mw m)), .int .i64 (ch (mw m)), .string (ba (nm (mw m))), .float .f64 (rk (mw m))]] w fun e w' => e = .returned (.float .f64 (rk (mw m))) ∧ Below w.heap.size w w' := by
 go_enter Tryz.func41, Tryz.ntmps41
 go_wp2_with fail
 go_ret
 exact ⟨rfl, (Below.refl _ _).alloc (Nat.le_refl _) _⟩
theorem eg6 : ∀ args w, (callFunc 41 args).run Tryz.prog w = .ok (.enter 41 args) w := fun _ _ => rfl
theorem lenc_k {A : Option Addr} {cap n : Nat} {xs : List Int} {S : ByteArray} (hn : xs.length = n) (hS : ba (encL xs) = S) (hx : n ≤ 100000) {w : World} (hc : At w w.heap.size A (ivs xs)) :
  Calls Tryz.prog 43 #[.slice A n cap] w fun e w' => e = .returned (.string S) ∧ Below w.heap.size w w' := by
 subst hn hS; exact encode_c A cap xs hx w hc
theorem uenc_k {A : Option Addr} {cap n : Nat} {xs : List Nat} {S : ByteArray} (hn : xs.length = n) (hS : ba (encU xs) = S) (hx : n ≤ 100000) (hxn : Nums xs) {w : World} (hc : At w w.heap.size A (uvs xs)) :
  Calls Tryz.prog 44 #[.slice A n cap] w fun e w' => e = .returned (.string S) ∧ Below w.heap.size w w' := by
 subst hS; exact uencode_k xs hn hx hxn hc
theorem prt_v {s : List UInt8} {S T : ByteArray} (hS : ba s = S) (hT : ba (prt s) = T) (hs : s.length ≤ 1000000) (w : World) :
  Calls Tryz.prog 18 #[.string S] w fun e w' => e = .returned (.string T) ∧ Below w.heap.size w w' := by
 subst hS hT; exact prt_c hs w
theorem pranks_k {A : Option Addr} {cap n : Nat} {l : List Nat} {S : ByteArray} (hn : l.length = n) (hS : ba (rkF l) = S) (hl : n ≤ 10000) (hA : A = none → cap = 0) (hw : Re.Words l) {w : World} (hc : At w w.heap.size A (fvs l)) :
  Calls Tryz.prog 16 #[.slice A n cap] w fun e w' => e = .returned (.string S) ∧ Below w.heap.size w w' := by
 subst hn hS; exact pranks_c A cap l hl hA hw w hc
theorem denc_k {A : Option Addr} {cap n : Nat} {l : List Dc.Tx} {S : ByteArray} (hn : l.length = n) (hS : ba (encD l) = S) (hx : n ≤ 100000) (hts : ∀ t ∈ l, t.length ≤ 100000) {w : World} (hc : At w w.heap.size A (svs l)) :
  Calls Tryz.prog 45 #[.slice A n cap] w fun e w' => e = .returned (.string S) ∧ Below w.heap.size w w' := by
 subst hS; exact dencode_k l _ rfl hn hx hts hc
theorem rkF_rkL (l : List Mv) : rkF (l.map fun m => rk (mw m)) = rkU (rkL l) := by
 unfold rkF cbs rkL
 rw [List.map_map]
 rfl
theorem at_newO (w : World) (t : TypeId) (xs : List Value) : At (w.alloc (.cells xs.toArray t)) (w.alloc (.cells xs.toArray t)).heap.size (some ⟨w.heap.size, 0, none⟩) xs := fun i v hv =>
 ⟨w.heap.size, 0, rfl, by rw [size_alloc]; omega, by rw [Nat.zero_add]; exact (is_cell (is_new w t xs) i).trans hv⟩
def encC (l : List Mv) : List Ck.Chk := if mayM l then encO l else []
/-- such moves as are written as columns -/
def Mok4 (l : List Mv) : Prop := ∀ m ∈ l, rk (mw m) < 18446744073709551616 ∧ (nm (mw m)).length ≤ 1000
set_option maxHeartbeats 8000000 in
theorem pencO_c (A : Option Addr) (cap : Nat) (l : List Mv) (hl : l.length ≤ 4000) (ho : Mok4 l) (w : World) (hc : At w w.heap.size A (mvs l)) :
  Calls Tryz.prog 11 #[.slice A l.length cap] w fun e w' => ∃ A' cap', e = .returned (.tuple #[.slice A' (encC l).length cap', .int .i64 (encE l)]) ∧ At w' w'.heap.size A' (Ck.cvs (encC l)) ∧ (encC l).length ≤ cap' ∧ Below w.heap.size w w' := by
 have HM0 := Lib.hid hc
 have HOK := Lib.hid ho
 have hmx : l.length ≤ maxLen := by unfold maxLen; omega
 have HN := Lib.hid (show ∀ m ∈ l, (nm (mw m)).length ≤ maxLen from fun m hm => by have := (ho m hm).2; unfold maxLen; omega)
 have B0 : Hid (Below w.heap.size w w) := Lib.hid (Below.refl _ _)
 clear hc ho
 cases hm : mayM l with
 | false =>
  have he : encC l = [] ∧ encE l = 1 := by unfold encC encE; rw [hm]; exact ⟨rfl, rfl⟩
  have HE := Lib.hid he
  have HMM := Lib.hid hm
  clear hm he
  go_enter Tryz.func11, Tryz.ntmps11
  go_wp2_with fail
  refine (mmay_c A cap l hmx HN.out _ HM0.out).mono ?_
  rintro e w1 ⟨rfl, hb⟩
  rw [HMM.out]
  have HB := Lib.hid hb
  clear hb
  go_wp2_with fail
  go_ret2
  rw [HE.out.1, HE.out.2]
  exact ⟨none, 0, rfl, At.nil _ _ _, Nat.zero_le _, HB.out⟩
 | true =>
  have he : encC l = encO l ∧ encE l = 0 := by unfold encC encE; rw [hm]; exact ⟨rfl, rfl⟩
  have e1 : (mcL l).length = l.length := List.length_map ..
  have e2 : (mrL l).length = l.length := List.length_map ..
  have e3 : (paL l).length = l.length := List.length_map ..
  have e4 : (chL l).length = l.length := List.length_map ..
  have e5 : (nmL l).length = l.length := List.length_map ..
  have e6 : (l.map fun m => rk (mw m)).length = l.length := List.length_map ..
  have b1 := (encL_len (mcL l)).2
  have b3 := (encL_len (paL l)).2
  have b4 := (encL_len (chL l)).2
  have b2 := encU_len (nums_u64 l) (by omega)
  have p1 := prt_len (s := encL (mcL l)) (by omega)
  have p3 := prt_len (s := encL (paL l)) (by omega)
  have hwu : IntKind.u64.wrap (l.length : Int) = (l.length : Int) := by rw [IntKind.wrap_u64]; omega
  obtain ⟨S0, hS0⟩ : ∃ S, ba (put l.length) = S := ⟨_, rfl⟩
  obtain ⟨S1, hS1⟩ : ∃ S, ba (encL (mcL l)) = S := ⟨_, rfl⟩
  obtain ⟨T1, hT1⟩ : ∃ S, ba (prt (encL (mcL l))) = S := ⟨_, rfl⟩
  obtain ⟨S2, hS2⟩ : ∃ S, ba (encU (mrL l)) = S := ⟨_, rfl⟩
  obtain ⟨U1, hU1⟩ : ∃ S, ba (bdT l) = S := ⟨_, rfl⟩
  obtain ⟨S3, hS3⟩ : ∃ S, ba (encL (paL l)) = S := ⟨_, rfl⟩
  obtain ⟨T3, hT3⟩ : ∃ S, ba (prt (encL (paL l))) = S := ⟨_, rfl⟩
  obtain ⟨S4, hS4⟩ : ∃ S, ba (encL (chL l)) = S := ⟨_, rfl⟩
  obtain ⟨U3, hU3⟩ : ∃ S, ba (bdE l) = S := ⟨_, rfl⟩
  obtain ⟨S5, hS5⟩ : ∃ S, ba (Dt.encD (nmL l)) = S := ⟨_, rfl⟩
  obtain ⟨S6, hS6⟩ : ∃ S, ba (rkU (rkL l)) = S := ⟨_, rfl⟩
  have ha1 : ∀ w : World, (Op.stringOp .add T1 S2).run Tryz.prog w = .ok (.string U1) w := fun w => by rw [← hT1, ← hS2, ← hU1]; exact hadd_v _ _ (by omega) w
  have ha3 : ∀ w : World, (Op.stringOp .add T3 S4).run Tryz.prog w = .ok (.string U3) w := fun w => by rw [← hT3, ← hS4, ← hU3]; exact hadd_v _ _ (by omega) w
  have hcv : Ck.cvs (encC l) = [.int .i64 4, .string S0, .int .i64 5, .string U1, .int .i64 6, .string U3, .int .i64 7, .string S5, .int .i64 8, .string S6] := by
   rw [he.1, ← hS0, ← hU1, ← hU3, ← hS5, ← hS6]; rfl
  have hcl : (encC l).length = 5 := by rw [he.1]; rfl
  have hput := fun W => put_c l.length (by omega) W
  rw [hS0] at hput
  have X0 := Lib.hid hput
  have X1 := Lib.hid hS1
  have X2 := Lib.hid hS2
  have X3 := Lib.hid hS3
  have X4 := Lib.hid hS4
  have X5 := Lib.hid hS5
  have X6 := Lib.hid (show ba (rkF (l.map fun m => rk (mw m))) = S6 by rw [rkF_rkL]; exact hS6)
  have Y1 := Lib.hid hT1
  have Y3 := Lib.hid hT3
  have Z1 := Lib.hid (show (encL (mcL l)).length ≤ 1000000 by omega)
  have Z3 := Lib.hid (show (encL (paL l)).length ≤ 1000000 by omega)
  have E1 := Lib.hid e1
  have E2 := Lib.hid e2
  have E3 := Lib.hid e3
  have E4 := Lib.hid e4
  have E5 := Lib.hid e5
  have E6 := Lib.hid e6
  have HE := Lib.hid he.2
  have HMM := Lib.hid hm
  have HCV := Lib.hid hcv
  have HCL := Lib.hid hcl
  clear hm he e1 e2 e3 e4 e5 e6 b1 b2 b3 b4 p1 p3 hS0 hS1 hS2 hS3 hS4 hS5 hS6 hT1 hT3 hU1 hU3 hcv hcl hput
  go_enter Tryz.func11, Tryz.ntmps11
  go_wp2_with fail
  refine (mmay_c A cap l hmx HN.out _ HM0.out).mono ?_
  rintro e w1 ⟨rfl, hb⟩
  rw [HMM.out]
  have B1 := Lib.hid (B0.out.trans (hb.mono B0.out.size))
  have HM1 := Lib.hid (HM0.out.keep hb)
  clear hb
  go_wp2_with fail
  refine (colI_c A cap l 33 (fun m => mc m) (by omega) eg1 _ HM1.out (fun W m _ _ => fn1_w m W)).mono ?_
  rintro e w2 ⟨A1, c1, rfl, hno1, hcap1, -, ha, hb⟩
  have B2 := Lib.hid (B1.out.trans (hb.mono B1.out.size))
  have HM2 := Lib.hid (HM1.out.keep hb)
  have C12 := Lib.hid ha
  clear ha hb
  go_wp2_with fail
  refine (colU_c A cap l 35 (fun m => u64 (mr m)) (by omega) eg2 _ HM2.out (fun W m _ _ => fn2_w m W)).mono ?_
  rintro e w3 ⟨A2, c2, rfl, hno2, hcap2, -, ha, hb⟩
  have B3 := Lib.hid (B2.out.trans (hb.mono B2.out.size))
  have HM3 := Lib.hid (HM2.out.keep hb)
  have C13 := Lib.hid (C12.out.keep hb)
  have C23 := Lib.hid ha
  clear ha hb
  go_wp2_with fail
  refine (colI_c A cap l 36 (fun m => pa (mw m)) (by omega) eg3 _ HM3.out (fun W m _ _ => fn3_w m W)).mono ?_
  rintro e w4 ⟨A3, c3, rfl, hno3, hcap3, -, ha, hb⟩
  have B4 := Lib.hid (B3.out.trans (hb.mono B3.out.size))
  have HM4 := Lib.hid (HM3.out.keep hb)
  have C14 := Lib.hid (C13.out.keep hb)
  have C24 := Lib.hid (C23.out.keep hb)
  have C34 := Lib.hid ha
  clear ha hb
  go_wp2_with fail
  refine (colI_c A cap l 37 (fun m => ch (mw m)) (by omega) eg4 _ HM4.out (fun W m _ _ => fn4_w m W)).mono ?_
  rintro e w5 ⟨A4, c4, rfl, hno4, hcap4, -, ha, hb⟩
  have B5 := Lib.hid (B4.out.trans (hb.mono B4.out.size))
  have HM5 := Lib.hid (HM4.out.keep hb)
  have C15 := Lib.hid (C14.out.keep hb)
  have C25 := Lib.hid (C24.out.keep hb)
  have C35 := Lib.hid (C34.out.keep hb)
  have C45 := Lib.hid ha
  clear ha hb
  go_wp2_with fail
  refine (colS_c A cap l 39 (fun m => nm (mw m)) (by omega) eg5 _ HM5.out (fun W m _ _ => fn5_w m W)).mono ?_
  rintro e w6 ⟨A5, c5, rfl, hno5, hcap5, -, ha, hb⟩
  have B6 := Lib.hid (B5.out.trans (hb.mono B5.out.size))
  have HM6 := Lib.hid (HM5.out.keep hb)
  have C16 := Lib.hid (C15.out.keep hb)
  have C26 := Lib.hid (C25.out.keep hb)
  have C36 := Lib.hid (C35.out.keep hb)
  have C46 := Lib.hid (C45.out.keep hb)
  have C56 := Lib.hid ha
  clear ha hb
  go_wp2_with fail
  refine (colF_c A cap l 41 (fun m => rk (mw m)) (by omega) eg6 _ HM6.out (fun W m _ _ => fn6_w m W)).mono ?_
  rintro e w7 ⟨A6, c6, rfl, hno6, hcap6, -, ha, hb⟩
  have B7 := Lib.hid (B6.out.trans (hb.mono B6.out.size))
  have HM7 := Lib.hid (HM6.out.keep hb)
  have C17 := Lib.hid (C16.out.keep hb)
  have C27 := Lib.hid (C26.out.keep hb)
  have C37 := Lib.hid (C36.out.keep hb)
  have C47 := Lib.hid (C46.out.keep hb)
  have C57 := Lib.hid (C56.out.keep hb)
  have C67 := Lib.hid ha
  clear ha hb
  go_wp2_with fail
  refine (X0.out _).mono ?_
  rintro e w8 ⟨rfl, hb⟩
  have B8 := Lib.hid (B7.out.trans (hb.mono B7.out.size))
  have C18 := Lib.hid (C17.out.keep hb)
  have C28 := Lib.hid (C27.out.keep hb)
  have C38 := Lib.hid (C37.out.keep hb)
  have C48 := Lib.hid (C47.out.keep hb)
  have C58 := Lib.hid (C57.out.keep hb)
  have C68 := Lib.hid (C67.out.keep hb)
  clear hb
  go_wp2_with fail
  refine (lenc_k E1.out X1.out (by omega) C18.out).mono ?_
  rintro e w9 ⟨rfl, hb⟩
  have B9 := Lib.hid (B8.out.trans (hb.mono B8.out.size))
  have C29 := Lib.hid (C28.out.keep hb)
  have C39 := Lib.hid (C38.out.keep hb)
  have C49 := Lib.hid (C48.out.keep hb)
  have C59 := Lib.hid (C58.out.keep hb)
  have C69 := Lib.hid (C68.out.keep hb)
  clear hb
  go_wp2_with fail
  refine (prt_v X1.out Y1.out Z1.out _).mono ?_
  rintro e w10 ⟨rfl, hb⟩
  have B10 := Lib.hid (B9.out.trans (hb.mono B9.out.size))
  have C210 := Lib.hid (C29.out.keep hb)
  have C310 := Lib.hid (C39.out.keep hb)
  have C410 := Lib.hid (C49.out.keep hb)
  have C510 := Lib.hid (C59.out.keep hb)
  have C610 := Lib.hid (C69.out.keep hb)
  clear hb
  go_wp2_with fail
  refine (uenc_k E2.out X2.out (by omega) (nums_u64 l) C210.out).mono ?_
  rintro e w11 ⟨rfl, hb⟩
  have B11 := Lib.hid (B10.out.trans (hb.mono B10.out.size))
  have C311 := Lib.hid (C310.out.keep hb)
  have C411 := Lib.hid (C410.out.keep hb)
  have C511 := Lib.hid (C510.out.keep hb)
  have C611 := Lib.hid (C610.out.keep hb)
  clear hb
  go_wp2_with fail
  refine (lenc_k E3.out X3.out (by omega) C311.out).mono ?_
  rintro e w12 ⟨rfl, hb⟩
  have B12 := Lib.hid (B11.out.trans (hb.mono B11.out.size))
  have C412 := Lib.hid (C411.out.keep hb)
  have C512 := Lib.hid (C511.out.keep hb)
  have C612 := Lib.hid (C611.out.keep hb)
  clear hb
  go_wp2_with fail
  refine (prt_v X3.out Y3.out Z3.out _).mono ?_
  rintro e w13 ⟨rfl, hb⟩
  have B13 := Lib.hid (B12.out.trans (hb.mono B12.out.size))
  have C413 := Lib.hid (C412.out.keep hb)
  have C513 := Lib.hid (C512.out.keep hb)
  have C613 := Lib.hid (C612.out.keep hb)
  clear hb
  go_wp2_with fail
  refine (lenc_k E4.out X4.out (by omega) C413.out).mono ?_
  rintro e w14 ⟨rfl, hb⟩
  have B14 := Lib.hid (B13.out.trans (hb.mono B13.out.size))
  have C514 := Lib.hid (C513.out.keep hb)
  have C614 := Lib.hid (C613.out.keep hb)
  clear hb
  go_wp2_with fail
  refine (denc_k E5.out X5.out (by omega) (fun t ht => by obtain ⟨m, hm, rfl⟩ := List.mem_map.1 ht; have := (HOK.out m hm).2; omega) C514.out).mono ?_
  rintro e w15 ⟨rfl, hb⟩
  have B15 := Lib.hid (B14.out.trans (hb.mono B14.out.size))
  have C615 := Lib.hid (C614.out.keep hb)
  clear hb
  go_wp2_with fail
  refine (pranks_k E6.out X6.out (by omega) hno6 (fun u hu => by obtain ⟨m, hm, rfl⟩ := List.mem_map.1 hu; exact (HOK.out m hm).1) C615.out).mono ?_
  rintro e w16 ⟨rfl, hb⟩
  have B16 := Lib.hid (B15.out.trans (hb.mono B15.out.size))
  clear hb
  go_wp2_with fail
  go_ret2
  rw [HE.out, HCL.out, HCV.out]
  refine ⟨_, _, rfl, ?_, Nat.le_refl _, B16.out.alloc B16.out.size _⟩
  exact at_newO _ _ _
end Go.Proofs.YtojhenpaeedimaaGreat
end
