/-
 delta's ints; slices.Collect of them; Decode.
 slices.Collect; Decode; the document's Decode.
-/
import Derived.Test.YtojhenpaeedimaaGreatDe
import Derived.Test.YtojhenpaeedimaaGreatMg
import Derived.Test.YtojhenpaeedimaaGreatBi
import Derived.Test.YtojhenpaeedimaaGreatBl
section
namespace Go.Proofs.YtojhenpaeedimaaGreat
namespace Dl
open Go.RowKit Go.IntWalk
open Pk
set_option maxRecDepth 100000
attribute [local go_sem] Oper.semAt_some
theorem rdr_grown {w w' : World} {q : Nat} {s : St} (h : Rdr w q s) (hg : Below w.heap.size w w') : Rdr w' q s := is_below h hg (is_lt h)
theorem only_cell {w w' : World} {q : Nat} (h : w.grownBy w' (some q)) {p : Addr} {v : Value} (hc : w.cell? p = some v) (hne : p.block ≠ q) : w'.cell? p = some v := by
 rw [World.cell?_of_block (h.block _ (World.block_lt_of_cell? _ _ hc) (fun e => hne (by injection e)))]; exact hc
/-- what the iterator over a Reader of s0 leaves -/
def IntsEnd (q n : Nat) (s0 : St) (ys : List Int) (W : World) : Prop := Rdr W q (rdn n s0).2 ∧ ((rdn n s0).2.e = 0 → ys = (rdn n s0).1)
set_option maxHeartbeats 2000000 in
theorem ints1_in (m : Nat) (hm : 1 ≤ m) (l Bn Br n₀ q n : Nat) (s0 : St) (hn : n ≤ 100000) (he0 : s0.e = 0) (hBr : Br < n₀) (hq : q < n₀) (hqr : Br ≠ q) (J Jx : List Int → World → Prop)
  (hJ : ∀ s A B, J s A → A.grownBy B (some q) → J s B)
  (hY : ∀ pre x W, J pre W → pre.length < n → YieldAt Fence.wide (m - 1) Tryz.prog l #[.int .i64 x] W fun e W' =>
   (e = .returned (.bool true) ∧ J (pre ++ [x]) W' ∧ Below n₀ W W') ∨ (e = .returned (.bool false) ∧ Jx (pre ++ [x]) W'))
  (W : World) (hcn : W.cell? ⟨Bn, 0, none⟩ = some (.int .i64 (n : Int))) (hcr : W.cell? ⟨Br, 0, none⟩ = some (.pointer (some ⟨q, 0, none⟩))) (hr : Rdr W q s0) (h0 : J [] W) :
  CallsIn Fence.wide m Tryz.prog 210 #[.func (.yield l) #[] #[], .pointer (some ⟨Bn, 0, none⟩), .pointer (some ⟨Br, 0, none⟩)] W fun e W' => (∃ v, e = .returned v) ∧ ((∃ ys, IntsEnd q n s0 ys W' ∧ J ys W') ∨ ∃ pre, True ∧ Jx pre W') := by
 refine callsIn_of_wp Tryz.func210 rfl trivial ?_ rfl
 simp only [Tryz.ntmps210, List.size_toArray, List.length_cons, List.length_nil, Nat.reduceAdd, Nat.reduceSub, Array.replicate_succ, Array.replicate_zero, List.push_toArray, List.append_toArray, List.nil_append, List.cons_append]
 have HJ := Lib.hid hJ
 clear hJ
 gi_wp2
 gi_loopw [6] (fun i wr => ∃ (k j : Nat) (s : St) (pre : List Int), i = .int .i64 (k : Int) ∧ k + j = n ∧ pre.length = k ∧ s.e = 0 ∧ pre ++ (rdn j s).1 = (rdn n s0).1 ∧ (rdn j s).2 = (rdn n s0).2 ∧
   wr.cell? ⟨Br, 0, none⟩ = some (.pointer (some ⟨q, 0, none⟩)) ∧ Rdr wr q s ∧ J pre wr)
  (fun i _ => n - (Go.RowKit.intOf i).toNat)
 case atStart => exact ⟨0, n, s0, [], rfl, by omega, rfl, he0, rfl, rfl, hcr, hr, h0⟩
 case round =>
  clear hcn hcr hr h0
  obtain ⟨k, j, s, pre, rfl, hkj, hpl, he, hp1, hp2, hcr, hr, hJs⟩ := hrel
  have HP1 := Lib.hid hp1
  have HP2 := Lib.hid hp2
  have HE := Lib.hid he
  have HPL := Lib.hid hpl
  clear hp1 hp2 he hpl
  by_cases hlt : k < n
  ·obtain ⟨j, rfl⟩ : ∃ j', j = j' + 1 := ⟨j - 1, by omega⟩
   gi_wp2_with fail
   refine ⟨trivial, (callsIn_wide.2 (int_m q s _ hr)).mono ?_⟩
   rintro e w1 ⟨rfl, hr1, ho1⟩
   have hcr1 := only_cell ho1 hcr hqr
   have hJ1 := HJ.out _ _ _ hJs ho1
   clear hr hcr hJs ho1
   obtain ⟨d, hd⟩ : ∃ d, d = zag (numV s) := ⟨_, rfl⟩
   obtain ⟨s1, hs1⟩ : ∃ s1, s1 = numS s := ⟨_, rfl⟩
   have e1 : pre ++ (d :: (rdn j s1).1) = (rdn n s0).1 := by rw [hd, hs1]; exact HP1.out
   have e2 : (rdn j s1).2 = (rdn n s0).2 := by rw [hs1]; exact HP2.out
   have E1 := Lib.hid e1
   have E2 := Lib.hid e2
   rw [← hs1] at hr1
   rw [← hd]
   clear hd hs1 e1 e2
   by_cases hz : s1.e = 0
   ·have hb : (s1.e != 0) = false := by rw [hz]; rfl
    have HZ := Lib.hid hz
    clear hz
    obtain ⟨fn, tmps, assign, body, hy, hR⟩ := hY pre d w1 hJ1 (by rw [HPL.out]; exact hlt)
    gi_wp2_with fail
    refine ⟨trivial, (callsIn_wide.2 (err_c q s1 _ hr1)).mono ?_⟩
    rintro e wz ⟨rfl, rfl⟩
    gi_wp2_with fail
    refine hR.mono ?_
    rintro e w3 (⟨rfl, hJ3, hk3⟩ | ⟨rfl, hJx3⟩)
    ·have hcr3 := (hk3.cell (p := ⟨Br, 0, none⟩) hBr).trans hcr1
     have hr3 := is_below hr1 hk3 hq
     clear hJ1 hcr1 hr1 hk3 hy hR
     gi_wp2_with fail
     go_roundw
     case rel => exact ⟨k + 1, j, s1, pre ++ [d], by simp, by omega, by simp [HPL.out], HZ.out, by rw [List.append_assoc]; exact E1.out, E2.out, hcr3, hr3, hJ3⟩
     case measure => simp [Go.RowKit.intOf]; omega
    ·gi_wp2_with fail
     refine bodyPost_ret (results_none rfl _ _ _) rfl ?_
     exact ⟨⟨_, rfl⟩, .inr ⟨_, trivial, hJx3⟩⟩
   ·have hb : (s1.e != 0) = true := by simpa using hz
    have HZ := Lib.hid hz
    clear hz
    gi_wp2_with fail
    refine ⟨trivial, (callsIn_wide.2 (err_c q s1 _ hr1)).mono ?_⟩
    rintro e wz ⟨rfl, rfl⟩
    gi_wp2_with fail
    refine ⟨fun _ h => (by cases h), ?_⟩
    gi_wp2_with fail
    refine bodyPost_ret (results_none rfl _ _ _) rfl ?_
    have hst := rdn_stuck j s1 HZ.out
    refine ⟨⟨_, rfl⟩, .inl ⟨pre, ⟨by rw [← E2.out, hst]; exact hr1, fun h => ?_⟩, hJ1⟩⟩
    rw [← E2.out, hst] at h
    exact absurd h HZ.out
  ·obtain rfl : j = 0 := by omega
   gi_wp2_with fail
   go_end0
   exact ⟨⟨_, rfl⟩, .inl ⟨pre, ⟨by rw [← HP2.out]; exact hr, fun _ => by rw [← HP1.out]; simp [rdn]⟩, hJs⟩⟩
set_option maxHeartbeats 1000000 in
theorem ints_in (F : Fence) (n : Nat) (h : F.fn 178) (hro : F.round = none) (p : Addr) (k : Int) (w : World) :
  CallsIn F n Tryz.prog 178 #[.pointer (some p), .int .i64 k] w fun e w' => e = .returned (.func (.func 210) #[] #[.pointer (some ⟨w.heap.size + 1, 0, none⟩), .pointer (some ⟨w.heap.size, 0, none⟩)]) ∧
   w' = (w.alloc (.cells #[.pointer (some p)] 73)).alloc (.cells #[.int .i64 k] 3) := by
 refine callsIn_of_wp Tryz.func178 rfl h ?_ hro
 simp only [Tryz.ntmps178, List.size_toArray, List.length_cons, List.length_nil, Nat.reduceAdd, Nat.reduceSub, Array.replicate_succ, Array.replicate_zero, List.push_toArray, List.append_toArray, List.nil_append, List.cons_append]
 gi_wp2
 go_ret
 exact ⟨rfl, rfl⟩
theorem ints_stops (m : Nat) (hm : 1 ≤ m) (Bn Br q n : Nat) (s0 : St) (hn : n ≤ 100000) (he0 : s0.e = 0) (hqr : Br ≠ q) (w : World) (n₀ : Nat) (hn₀ : n₀ ≤ w.heap.size) (hBn : Bn < n₀) (hBr : Br < n₀) (hq : q < n₀)
  (hcn : w.cell? ⟨Bn, 0, none⟩ = some (.int .i64 (n : Int))) (hcr : w.cell? ⟨Br, 0, none⟩ = some (.pointer (some ⟨q, 0, none⟩))) (hr : Rdr w q s0) :
  SeqQ Fence.wide m Tryz.prog 210 #[.pointer (some ⟨Bn, 0, none⟩), .pointer (some ⟨Br, 0, none⟩)] (fun x : Int => #[Value.int .i64 x]) (Below n₀) (fun A B => A.grownBy B (some q)) (IntsEnd q n s0) (fun _ _ => True) n w :=
 fun l J Jx W hW hJ _ hY h0 => ints1_in m hm l Bn Br n₀ q n s0 hn he0 hBr hq hqr J Jx hJ hY W
  ((hW.cell (p := ⟨Bn, 0, none⟩) (by show Bn < _; omega)).trans hcn) ((hW.cell (p := ⟨Br, 0, none⟩) (by show Br < _; omega)).trans hcr) (is_below hr hW (by omega)) h0
theorem ownFrom_only {β : Type} {B q : Nat} {w0 : World} (hB : w0.heap.size ≤ B) : OwnFrom B (fun (_ : β) W => w0.grownBy W (some q)) :=
 fun _ X Y row hs hg hr => ⟨hg.os.trans hs.os, hg.tape.trans hs.tape, hg.output.trans hs.output, Nat.le_trans hs.size hg.size, fun i hi hne =>
  (hg.block i (Nat.lt_of_lt_of_le hi hs.size) (fun e => by have := (hr i e.symm).1; omega)).trans (hs.block i hi hne)⟩
theorem ownFrom_rdr {B q n : Nat} {s0 : St} : OwnFrom B (IntsEnd q n s0) := fun ys X Y row hs hg hr => by
 refine ⟨?_, hs.2⟩
 have hk : X.heap[q]? = _ := hs.1
 refine (hg.block q (is_lt hs.1) (fun e => ?_)).trans hk
 obtain ⟨_, o, ho, hc⟩ := hr q e.symm
 rw [hk] at ho
 cases ho
 cases hc
theorem only_then {a b c : World} {q : Nat} (h : a.grownBy b (some q)) (k : Below a.heap.size b c) : a.grownBy c (some q) :=
 ⟨k.os.trans h.os, k.tape.trans h.tape, k.output.trans h.output, Nat.le_trans h.size k.size, fun i hi hne => (k.block i hi).trans (h.block i hi hne)⟩
theorem only_put {a b : World} {q D : Nat} (h : a.grownBy b (some q)) (hD : a.heap.size ≤ D) (o : Obj) : a.grownBy (b.putObj D o) (some q) :=
 ⟨h.os, h.tape, h.output, by simp; exact h.size, fun i hi hne => (World.putObj_heap_other (by omega)).trans (h.block i hi hne)⟩
set_option maxHeartbeats 2000000 in
theorem appendSeq_in (m : Nat) (hm : 3 ≤ m) (Bn Br q n : Nat) (s0 : St) (hn : n ≤ 100000) (he0 : s0.e = 0) (hqr : Br ≠ q) (w : World) (hBn : Bn < w.heap.size) (hBr : Br < w.heap.size) (hq : q < w.heap.size)
  (hcn : w.cell? ⟨Bn, 0, none⟩ = some (.int .i64 (n : Int))) (hcr : w.cell? ⟨Br, 0, none⟩ = some (.pointer (some ⟨q, 0, none⟩))) (hr : Rdr w q s0) :
  CallsIn Fence.wide m Tryz.prog 209 #[.slice none 0 0, .func (.func 210) #[] #[.pointer (some ⟨Bn, 0, none⟩), .pointer (some ⟨Br, 0, none⟩)]] w fun e W' =>
   ∃ v ys, e = .returned v ∧ W'.ownsRow w.heap.size 3 1 v ys.length (ivs ys) ∧ ys.length ≤ n ∧ IntsEnd q n s0 ys W' ∧ w.grownBy W' (some q) := by
 have h1 : 1 ≤ m := by omega
 obtain ⟨i0, hi, hz0, hz1, hz2⟩ := info_parts Tryz.info3
 refine callsIn_of_wp_marks Tryz.func209 rfl trivial ?_ rfl
 simp only [Tryz.ntmps209, List.size_toArray, List.length_cons, List.length_nil, Nat.reduceAdd, Nat.reduceSub, Array.replicate_succ, Array.replicate_zero, List.push_toArray, List.append_toArray, List.nil_append, List.cons_append]
 gi_wp2
 have bO := Boxed.new w 57 (.slice none 0 0)
 have hsz : (w.alloc (.cells #[.slice none 0 0] 57)).heap.size = w.heap.size + 1 := by simp
 refine rangeQ rfl h1 (gf := 210) (lb := #[.pointer (some ⟨Bn, 0, none⟩), .pointer (some ⟨Br, 0, none⟩)]) rfl trivial (enters_of Tryz.func210 (by kernel_rfl) rfl)
  (ints_stops (m - 1) (by omega) Bn Br q n s0 hn he0 hqr (w.alloc (.cells #[.slice none 0 0] 57)) w.heap.size (by omega) hBn hBr hq (cell_boxed hcn _) (cell_boxed hcr _) (is_alloc hr _)) belowK_t (belowK_b (by omega)) (Below.refl _ _) (fun _ => rfl)
  (fun A B hab k o hk hko ho => (hab.block k (Array.getElem?_eq_some_iff.1 hko).1 (fun e => by injection e with e; omega)).trans hko)
  ownFrom_rdr (ownFrom_pure _ _)
  (fun pre W => (∃ v, Boxed W w.heap.size 57 v ∧ W.ownsRow w.heap.size 3 1 v pre.length (ivs pre) ∧ pre.length ≤ n) ∧ w.grownBy W (some q))
  (fun _ _ _ => False)
  (OwnFrom.and (Own.from (holdsRow_own w.heap.size w.heap.size 57 3 1 (fun pre => pre.length) (fun pre => ivs pre) (fun pre _ => pre.length ≤ n)) _) (ownFrom_only (by omega)))
  (fun _ _ _ _ _ hs _ _ => hs)
  (fun s A B hs hab => by
   obtain ⟨⟨v, hv, hrow, hl⟩, ho⟩ := hs
   refine ⟨⟨v, hv.kept hab (fun e => by injection e with e; omega), hrow.kept hab ?_, hl⟩, only_trans ho hab⟩
   by_cases hb : v.ownBlock = none
   ·exact .inl hb
   ·exact .inr fun e => by have := (hrow.lt q e).1; omega)
  (fun _ _ _ _ hs _ => hs)
  ⟨⟨_, bO, World.ownsRow_nil _ _ _ _, Nat.zero_le _⟩, World.grownBy_alloc w _ _⟩
  (fun x => { tmps := #[.slice none 0 0, .func (.func 210) #[] #[.pointer (some ⟨Bn, 0, none⟩), .pointer (some ⟨Br, 0, none⟩)], .pointer (some ⟨w.heap.size, 0, none⟩), undef, .slice none 0 0, .int .i64 x,
   .func (.func 210) #[] #[.pointer (some ⟨Bn, 0, none⟩), .pointer (some ⟨Br, 0, none⟩)], .int .i64 x, undef, undef, undef, undef, undef], defers := [] }) ?assign ?body ?done ?stop
 case assign =>
  intro l x W K hK
  gi_wp2
  exact hK
 case body =>
  rintro l pre x W ⟨⟨v, hv, hrow, hpn⟩, hB⟩ hlt
  have hcv := hv.cell
  have hbs := hB.size
  gi_wp2_with (gi_at_builtin; refine wpListIn_append_own _ rfl _ _ 57 rfl w.heap.size 3 i0 (.int .i64 0) 1 8 Tryz.underlying57 hi hz0 hz1 hz2 rfl (by decide) _ _ _ rfl (hrow.alloc _) ⟨W.heap.size, 0, none⟩ 1 1 [.int .i64 x] rfl rfl (cell_one_new _ _ _) (by simp [Value.oneCell']) (by unfold maxLen; omega) (by omega) (by simp; omega) ?_; intro v' w2 hown' hgrow _; obtain ⟨g', cap', rfl⟩ := ownsRow_succ hown'; obtain ⟨hv1, hv2, hr2, hk2, hb2⟩ := hv.appended (by decide) hrow hbs (Nat.le_refl _) hown' hgrow; have hc1 := hv1.cell; have hf1 := hv1.frozen)
  refine ⟨hk2.from _, hb2, ⟨_, hv2, ?_, by simp; omega⟩, only_then hB hb2⟩
  rw [List.length_append, show ivs (pre ++ [x]) = ivs pre ++ [.int .i64 x] by simp [ivs]]
  exact hr2
 case done =>
  rintro D ys W hD hS ⟨⟨v, hv, hrow, hpn⟩, hB⟩ hK
  have hcv := hv.cell
  gi_wp2
  refine ⟨by simp, .inl ⟨_, _, rfl, run_takeDeferred hK, ?_⟩⟩
  refine ⟨_, results_tmp rfl _ _ _, v, ys, rfl, ownsRow_putObj hrow _ hK rfl, hpn, ?_, only_put hB (by omega) _⟩
  exact ⟨(World.putObj_heap_other (by omega)).trans hS.1, hS.2⟩
 case stop =>
  rintro D c pre W _ _ h _
  exact h.elim
end Dl
end Go.Proofs.YtojhenpaeedimaaGreat
end
section
namespace Go.Proofs.YtojhenpaeedimaaGreat
namespace Dl
open Go.RowKit Go.IntWalk
open Pk
set_option maxRecDepth 100000
attribute [local go_sem] Oper.semAt_some
set_option maxHeartbeats 1000000 in
theorem collect_c (Bn Br q n : Nat) (s0 : St) (hn : n ≤ 100000) (he0 : s0.e = 0) (hqr : Br ≠ q) (w : World) (hBn : Bn < w.heap.size) (hBr : Br < w.heap.size) (hq : q < w.heap.size)
  (hcn : w.cell? ⟨Bn, 0, none⟩ = some (.int .i64 (n : Int))) (hcr : w.cell? ⟨Br, 0, none⟩ = some (.pointer (some ⟨q, 0, none⟩))) (hr : Rdr w q s0) :
  Calls Tryz.prog 177 #[.func (.func 210) #[] #[.pointer (some ⟨Bn, 0, none⟩), .pointer (some ⟨Br, 0, none⟩)]] w fun e W' =>
   ∃ A cap ys, e = .returned (.slice A ys.length cap) ∧ At W' W'.heap.size A (ivs ys) ∧ Fresh w.heap.size A ∧ ys.length ≤ n ∧ IntsEnd q n s0 ys W' ∧ w.grownBy W' (some q) := by
 refine (callsIn_wide (n := 4)).1 ?_
 refine callsIn_of_wp Tryz.func177 rfl trivial ?_ rfl
 simp only [Tryz.ntmps177, List.size_toArray, List.length_cons, List.length_nil, Nat.reduceAdd, Nat.reduceSub, Array.replicate_succ, Array.replicate_zero, List.push_toArray, List.append_toArray, List.nil_append, List.cons_append]
 gi_wp2_with fail
 refine ⟨trivial, (appendSeq_in 3 (Nat.le_refl _) Bn Br q n s0 hn he0 hqr w hBn hBr hq hcn hcr hr).mono ?_⟩
 rintro e w1 ⟨v, ys, rfl, hown, hyn, hend, ho⟩
 obtain ⟨A, cap, rfl, ha, hfr, -⟩ := own_at hown
 clear hown
 gi_wp2
 go_ret
 exact ⟨A, cap, ys, rfl, ha, hfr, hyn, hend, ho⟩
/-- what Decode answers -/
def DecEnd (r : List Int × Int) (w : World) (e : Ending) (w' : World) : Prop :=
 ∃ A cap, e = .returned (.tuple #[.slice A r.1.length cap, .int .i64 r.2]) ∧ r.1.length ≤ cap ∧ Fresh w.heap.size A ∧ At w' w'.heap.size A (ivs r.1) ∧ Below w.heap.size w w'
theorem decEnd_nil {r : List Int × Int} {w w' : World} {x : Int} (h : r = ([], x)) (hb : Below w.heap.size w w') : DecEnd r w (.returned (.tuple #[.slice none 0 0, .int .i64 x])) w' := by
 subst h
 exact ⟨none, 0, rfl, Nat.le_refl _, fun a ha => (by cases ha), At.nil _ _ _, hb⟩
set_option maxHeartbeats 2000000 in
theorem decode_c (l : List UInt8) (n : Int) (hn1 : -9223372036854775808 ≤ n) (hn2 : n ≤ 9223372036854775807) (hl : l.length ≤ 100000) (w : World) :
  Calls Tryz.prog 126 #[.string (ba l), .int .i64 n] w (DecEnd (decV l n) w) := by
 have hs := ba_size l
 rcases Int.lt_or_le n 0 with hneg | hpos
 ·have hd := decV_neg (l := l) hneg
  have HD := Lib.hid hd
  clear hd
  go_enter Tryz.func126, Tryz.ntmps126
  go_wp2_with fail
  go_ret2
  exact decEnd_nil HD.out (Below.refl _ _)
 rcases Int.lt_or_le (l.length : Int) n with hfar | hin
 ·have hd := decV_far hfar
  have HD := Lib.hid hd
  clear hd
  go_enter Tryz.func126, Tryz.ntmps126
  go_wp2_with fail
  go_ret2
  exact decEnd_nil HD.out (Below.refl _ _)
 obtain ⟨k, rfl⟩ := Int.eq_ofNat_of_zero_le hpos
 have hk : k ≤ l.length := by omega
 have HBAD := Lib.hid (@decV_bad l k hk)
 have HOK := Lib.hid (@decV_ok l k hk)
 obtain ⟨r, hr⟩ : ∃ r, r = decV l (k : Int) := ⟨_, rfl⟩
 have HR := Lib.hid hr
 rw [← hr]
 clear hr
 go_enter Tryz.func126, Tryz.ntmps126
 go_wp2_with fail
 refine (new_c l _).mono ?_
 rintro e w1 ⟨rfl, hr1, hw1⟩
 have hsz1 : w1.heap.size = w.heap.size + 1 := by rw [hw1]; simp
 have hb1 : Below w.heap.size w w1 := by rw [hw1]; exact (Below.refl _ _).alloc (Nat.le_refl _) _
 clear hw1
 go_wp2_with fail
 refine ((callsIn_wide (n := 3)).1 (ints_in Fence.wide 3 trivial rfl ⟨w.heap.size, 0, none⟩ (k : Int) w1)).mono ?_
 rintro e w2 ⟨rfl, hw2⟩
 have hsz2 : w2.heap.size = w.heap.size + 3 := by rw [hw2]; simp [hsz1]
 have hb2 : Below w.heap.size w w2 := by rw [hw2]; exact (hb1.alloc hb1.size _).alloc (by simp; omega) _
 have hr2 : Rdr w2 w.heap.size ⟨l, 0⟩ := by rw [hw2]; exact is_alloc (is_alloc hr1 _) _
 have hcr : w2.cell? ⟨w1.heap.size, 0, none⟩ = some (.pointer (some ⟨w.heap.size, 0, none⟩)) := by
  rw [hw2]; exact ((Boxed.new w1 73 (.pointer (some ⟨w.heap.size, 0, none⟩))).alloc _).cell
 have hcn : w2.cell? ⟨w1.heap.size + 1, 0, none⟩ = some (.int .i64 (k : Int)) := by
  have := (Boxed.new (w1.alloc (.cells #[.pointer (some ⟨w.heap.size, 0, none⟩)] 73)) 3 (.int .i64 (k : Int))).cell
  rw [World.size_alloc] at this
  rw [hw2]; exact this
 rw [hsz1] at hcr hcn ⊢
 clear hw2 hr1 hb1
 go_wp2_with fail
 refine (collect_c _ _ w.heap.size k ⟨l, 0⟩ (by omega) rfl (by omega) w2 (by omega) (by omega) (by omega) hcn hcr hr2).mono ?_
 rintro e w3 ⟨A, cap, ys, rfl, hat, hfr, hyn, hend, ho⟩
 have hb3 : Below w.heap.size w w3 := hb2.trans ⟨ho.os, ho.tape, ho.output, ho.size, fun i hi => ho.block i (by omega) (fun e => by injection e with e; omega)⟩
 obtain ⟨hr3, hys⟩ := hend
 have HYS := Lib.hid hys
 have HAT := Lib.hid hat
 clear hcn hcr hr2 hb2 hys hat ho
 obtain ⟨st, hst⟩ : ∃ st, st = (rdn k ⟨l, 0⟩).2 := ⟨_, rfl⟩
 rw [← hst] at hr3 HYS
 have HST := Lib.hid hst
 clear hst
 go_wp2_with fail
 refine (done_c _ st _ hr3).mono ?_
 rintro e wz ⟨rfl, rfl⟩
 by_cases hd : doneV st = 0
 ·have hdb : (doneV st != 0) = false := by rw [hd]; rfl
  have HDD := Lib.hid hd
  clear hd
  go_wp2_with fail
  refine (sums_c A cap ys (by omega) _ HAT.out).mono ?_
  rintro e w4 ⟨A', cap', rfl, hcp4, hfr4, hat4, hb4⟩
  go_wp2_with fail
  go_ret2
  have h0 := HYS.out (doneV_zero HDD.out).1
  have hdec := HOK.out (by rw [← HST.out]; exact HDD.out)
  rw [HR.out, hdec, ← h0]
  exact ⟨A', cap', by rw [sm_len]; rfl, by rw [sm_len]; exact hcp4, fun a ha => Nat.le_trans hb3.size (hfr4 a ha), hat4, hb3.trans (hb4.mono hb3.size)⟩
 ·have hdb : (doneV st != 0) = true := by simpa using hd
  have HDD := Lib.hid hd
  clear hd
  go_wp2_with fail
  go_ret2
  refine decEnd_nil ?_ hb3
  rw [HR.out, HST.out]
  exact HBAD.out (by rw [← HST.out]; exact HDD.out)
theorem below_only {B g : Nat} {a w w' : World} (hb : Below B a w) (ho : w.grownBy w' (some g)) (hB : B ≤ w.heap.size) (hg : B ≤ g) : Below B a w' :=
 hb.grown ho hB (fun k hk => by injection hk with hk; omega)
theorem ref_drewN' {w : World} {q : Nat} {l : List UInt8} {s : St} (h : Ref w q l s) (n : Nat) : Ref (w.drewN n) q l s := h
theorem own_only {w w' : World} {B e size n q : Nat} {v : Value} {xs : List Value} (h : w.ownsRow B e size v n xs) (ho : w.grownBy w' (some q)) (hq : q < B) : w'.ownsRow B e size v n xs :=
 h.kept ho (by
  by_cases hb : v.ownBlock = none
  ·exact .inl hb
  ·exact .inr fun e => by have := (h.lt q e).1; omega)
theorem at_drewN {w : World} {A : Option Addr} {xs : List Value} (h : At w w.heap.size A xs) (n : Nat) : At (w.drewN n) (w.drewN n).heap.size A xs := h
theorem ref_new {w w2 : World} {q : Nat} {l : List UInt8} {s : St} {o : Obj} {B : Nat} {e : TypeId} {size n : Nat} {v : Value} {xs : List Value} (h : Ref w q l s) (hown : w.ownsRow B e size v n xs) (hg : (w.alloc o).grownBy w2 v.ownBlock) (hq : q < B) : Ref w2 q l s := by
 obtain ⟨k, hk, hd, hr⟩ := h
 exact ⟨k, hk, hd, is_grown (is_alloc hr o) hg (fun e => by have := (hown.lt q e.symm).1; omega)⟩
set_option maxHeartbeats 4000000 in
theorem rdecode_c (l : List UInt8) (n : Int) (hn1 : -9223372036854775808 ≤ n) (hn2 : n ≤ 9223372036854775807) (hl : l.length ≤ 100000) (w : World) :
  Calls Tryz.prog 72 #[.string (ba l), .int .i64 n] w (DecEnd (decV l n) w) := by
 have hs := ba_size l
 rcases Int.lt_or_le n 0 with hneg | hpos
 ·have hd := decV_neg (l := l) hneg
  have HD := Lib.hid hd
  clear hd
  go_enter Tryz.func72, Tryz.ntmps72
  go_wp2_with fail
  go_ret2
  exact decEnd_nil HD.out (Below.refl _ _)
 rcases Int.lt_or_le (l.length : Int) n with hfar | hin
 ·have hd := decV_far hfar
  have HD := Lib.hid hd
  clear hd
  go_enter Tryz.func72, Tryz.ntmps72
  go_wp2_with fail
  go_ret2
  exact decEnd_nil HD.out (Below.refl _ _)
 obtain ⟨n, rfl⟩ := Int.eq_ofNat_of_zero_le hpos
 have hk : n ≤ l.length := by omega
 have HBAD := Lib.hid (@decV_bad l n hk)
 have HOK := Lib.hid (@decV_ok l n hk)
 obtain ⟨r, hr⟩ : ∃ r, r = decV l (n : Int) := ⟨_, rfl⟩
 have HR := Lib.hid hr
 rw [← hr]
 clear hr
 obtain ⟨i0, hi, hz0, hz1, hz2⟩ := info_parts Tryz.info3
 have hbl1 : decide (l.length < n) = false := by simp; omega
 have hbl2 : decide ((n : Int) < 0) = false := by simp
 go_enter Tryz.func72, Tryz.ntmps72
 go_wp2_with fail
 have hr1 : Ref (w.alloc (.cells #[.string (ba l), .int .i64 0, .int .i64 0] 81)) w.heap.size l ⟨l, 0⟩ := ref_mk (Nat.zero_le _) rfl (is_new w 81 [.string (ba l), .int .i64 0, .int .i64 0])
 have hb1 : Below w.heap.size w (w.alloc (.cells #[.string (ba l), .int .i64 0, .int .i64 0] 81)) := (Below.refl _ _).alloc (Nat.le_refl _) _
 obtain ⟨w1, hw1⟩ : ∃ w1, w1 = w.alloc (.cells #[.string (ba l), .int .i64 0, .int .i64 0] 81) := ⟨_, rfl⟩
 have hsz1 : w1.heap.size = w.heap.size + 1 := by rw [hw1]; simp
 rw [← hw1] at hr1 hb1 ⊢
 clear hw1
 go_loopw [7, 8] (fun v i wr => ∃ (k j : Nat) (s : St) (out : List Int), i = .int .i64 (k : Int) ∧ k + j = n ∧ out.length = k ∧ out ++ (rdn j s).1 = (rdn n ⟨l, 0⟩).1 ∧ (rdn j s).2 = (rdn n ⟨l, 0⟩).2 ∧
   Ref wr w.heap.size l s ∧ wr.ownsRow w1.heap.size 3 1 v out.length (ivs out) ∧ Below w.heap.size w wr ∧ w1.heap.size ≤ wr.heap.size)
  (fun _ i _ => n - (Go.RowKit.intOf i).toNat)
 case atStart => exact ⟨0, n, ⟨l, 0⟩, [], rfl, by omega, rfl, rfl, rfl, hr1, World.ownsRow_nil _ _ _ _, hb1, Nat.le_refl _⟩
 case round =>
  clear hr1 hb1
  obtain ⟨k, j, s, out, rfl, hkj, hol, he1, he2, hr, hown, hb, hws⟩ := hrel
  have HE1 := Lib.hid he1
  have HE2 := Lib.hid he2
  have HOL := Lib.hid hol
  have hle : out.length ≤ 100000 := by omega
  clear he1 he2 hol
  by_cases hlt : k < n
  ·obtain ⟨j, rfl⟩ : ∃ j', j = j' + 1 := ⟨j - 1, by omega⟩
   go_wp2_with fail
   refine (rint_m _ l s (by omega) _ hr).mono ?_
   rintro e w2 ⟨rfl, hr2, ho2⟩
   have hb2 := below_only hb ho2 hb.size (Nat.le_refl _)
   have hws2 := Nat.le_trans hws ho2.size
   have hown2 := own_only hown ho2 (by omega)
   clear hr hown ho2 hb
   obtain ⟨d, hd⟩ : ∃ d, d = zag (numV s) := ⟨_, rfl⟩
   rw [← hd]
   have HD := Lib.hid hd
   clear hd
   go_wp2_with (at_builtin; refine wpList_append_own _ rfl _ _ 57 rfl w1.heap.size 3 i0 (.int .i64 0) 1 8 Tryz.underlying57 hi hz0 hz1 hz2 rfl (by decide) _ _ _ rfl (hown2.alloc _) ⟨w2.heap.size, 0, none⟩ 1 1 [.int .i64 d] rfl rfl (cell_one_new _ _ _) (by simp [Value.oneCell']) (by unfold maxLen; omega) (by omega) (by simp; omega) ?_; intro v' w3 hown' hgrow _)
   have hr3 := ref_new hr2 hown2 hgrow (by omega)
   have hb3 := below_ownI hb2 hb2.size (ownsRow_lower hown2 (by omega)) hgrow
   have ho3 := own_snocI hown'
   have hws3 : w1.heap.size ≤ w3.heap.size := Nat.le_trans hws2 (by have := hgrow.size; rw [World.size_alloc] at this; omega)
   clear hown2 hown' hgrow hb2 hr2
   go_wp2
   go_roundw
   case rel => exact ⟨k + 1, j, numS s, out ++ [d], by go_num, by omega, by simp [HOL.out], by rw [← HE1.out, HD.out, rdn]; simp, by rw [← HE2.out, rdn], hr3, ho3, hb3, hws3⟩
   case measure => simp only [Go.RowKit.intOf]; omega
  ·obtain rfl : j = 0 := by omega
   obtain ⟨A, cap, rfl, hat, hfr, -⟩ := own_at hown
   have HAT := Lib.hid hat
   have hwsz := hb.size
   clear hown hat
   go_wp2_with fail
   refine (rdone_m _ l s (by omega) _ hr).mono ?_
   rintro e w2 ⟨rfl, q1, rfl⟩
   have hb2 := below_drewN hb q1
   obtain ⟨st, hst⟩ : ∃ st, st = (rdn n ⟨l, 0⟩).2 := ⟨_, rfl⟩
   have hss : s = st := by rw [hst]; exact HE2.out
   subst hss
   have HST := Lib.hid hst
   clear hst
   by_cases hd : doneV s = 0
   ·have hdb : (doneV s != 0) = false := by rw [hd]; rfl
    have HDD := Lib.hid hd
    clear hd
    have hoi : Ints out := by
     have h : out = (rdn n ⟨l, 0⟩).1 := by rw [← HE1.out]; simp [rdn]
     rw [h]; exact rdn_in _ _
    have HOI := Lib.hid hoi
    clear hoi
    go_wp2_with fail
    refine (rsums_c A cap out hle HOI.out _ (at_drewN HAT.out q1)).mono ?_
    rintro e w4 ⟨A', cap', rfl, hcp4, hfr4, hat4, hb4⟩
    go_wp2_with fail
    go_ret2
    have h0 : out = (rdn n ⟨l, 0⟩).1 := by rw [← HE1.out]; simp [rdn]
    have hdec := HOK.out (by rw [← HST.out]; exact HDD.out)
    rw [HR.out, hdec, ← h0]
    exact ⟨A', cap', by rw [sm_len]; rfl, by rw [sm_len]; exact hcp4, fun a ha => Nat.le_trans hb2.size (hfr4 a ha), hat4, hb2.trans (hb4.mono hb2.size)⟩
   ·have hdb : (doneV s != 0) = true := by simpa using hd
    have HDD := Lib.hid hd
    clear hd
    go_wp2_with fail
    refine (rdone_m _ l s (by omega) _ (ref_drewN' hr q1)).mono ?_
    rintro e w3 ⟨rfl, q2, rfl⟩
    go_wp2_with fail
    go_ret2
    refine decEnd_nil ?_ (below_drewN hb _)
    rw [HR.out, HST.out]
    exact HBAD.out (by rw [← HST.out]; exact HDD.out)
end Dl
end Go.Proofs.YtojhenpaeedimaaGreat
end
