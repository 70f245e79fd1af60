/-
 delta's steps: each number with the one ahead; Deltas.
 delta's Sums, the document's Sums and Deltas.
 The document's Rising; Encode and the document's.
 delta's ints; slices.Collect of them; Decode.
 slices.Collect; Decode; the document's Decode.
-/
import Derived.Test.YtojhenpaeedimaaGreatMg
import Derived.Test.YtojhenpaeedimaaGreatRa
import Derived.Test.YtojhenpaeedimaaGreatTl
import Derived.Deep.RegionHeldLaw
import Derived.Test.YtojhenpaeedimaaGreatBl
import Derived.Deep.RegionLaw
import Derived.Test.YtojhenpaeedimaaGreatBt
import Derived.Test.YtojhenpaeedimaaGreatBc
import Derived.Deep.QuietTactic
import Derived.BigQuiet
section
namespace Go.Proofs.YtojhenpaeedimaaGreat
namespace Dl
open Go.RowKit
open Pk
set_option maxRecDepth 100000
attribute [local go_sem] Oper.semAt_some
theorem prs_at {a : Int} {l : List Int} {k : Nat} {x : Int} (h : l[k]? = some x) : prs a (l.drop k) = (a, x) :: prs x (l.drop (k + 1)) := by
 rw [drop_at_cons h]; rfl
set_option maxHeartbeats 2000000 in
/-- the iterator: each number with the one ahead, for every loop body that keeps what lay below n₀ -/
theorem steps1_in (F : Fence) (n : Nat) (h59 : F.fn 200) (hro : F.round = none) (hn : 1 ≤ n) (l Bf Bs n₀ : Nat) (A : Option Addr) (cap : Nat) (a0 : Int) (xs : List Int) (hx : xs.length ≤ maxLen) (J Jx : List (Int × Int) → World → Prop)
  (hY : ∀ pre x W, J pre W → pre.length < xs.length → YieldAt F (n - 1) Tryz.prog l #[.int .i64 x.1, .int .i64 x.2] W fun e W' =>
   (e = .returned (.bool true) ∧ J (pre ++ [x]) W' ∧ Below n₀ W W') ∨ (e = .returned (.bool false) ∧ Jx (pre ++ [x]) W'))
  (W : World) (hBf : W.cell? ⟨Bf, 0, none⟩ = some (.int .i64 a0)) (hBs : W.cell? ⟨Bs, 0, none⟩ = some (.slice A xs.length cap)) (hc : At W n₀ A (ivs xs)) (h0 : J [] W) :
  CallsIn F n Tryz.prog 200 #[.func (.yield l) #[] #[], .pointer (some ⟨Bf, 0, none⟩), .pointer (some ⟨Bs, 0, none⟩)] W fun e W' => (∃ v, e = .returned v) ∧
   ((∃ ys, ys = prs a0 xs ∧ J ys W') ∨ (∃ pre, pre <+: prs a0 xs ∧ Jx pre W')) := by
 have HC := Lib.hid hc
 unfold maxLen at hx
 clear hc
 refine callsIn_of_wp Tryz.func200 rfl h59 ?_ hro
 simp only [Tryz.ntmps200, List.size_toArray, List.length_cons, List.length_nil, Nat.reduceAdd, Nat.reduceSub, Array.replicate_succ, Array.replicate_zero, List.push_toArray, List.append_toArray, List.nil_append, List.cons_append]
 gi_wp2
 gi_loopw [4, 10] (fun a i wr => ∃ (k : Nat) (ahead : Int) (pre : List (Int × Int)), a = .int .i64 ahead ∧ i = .int .i64 k ∧ k ≤ xs.length ∧ pre.length = k ∧ pre ++ prs ahead (xs.drop k) = prs a0 xs ∧ J pre wr ∧ Below n₀ W wr)
  (fun _ i _ => xs.length - (Go.RowKit.intOf i).toNat)
 case atStart => exact ⟨0, a0, [], rfl, rfl, Nat.zero_le _, rfl, rfl, h0, Below.refl _ _⟩
 case round =>
  obtain ⟨k, ahead, pre, rfl, rfl, hk, hpl, hpre, hJs, hnx⟩ := hrel
  have HP := Lib.hid hpre
  clear hpre
  by_cases hlt : k < xs.length
  ·obtain ⟨x, hxk⟩ := some_at hlt
   obtain ⟨b, off, rfl, hbl, hcell⟩ := (HC.out.below hnx) k _ (ivs_at hxk)
   have HX := Lib.hid hxk
   clear hxk
   obtain ⟨fn, tmps, assign, body, hy, hR⟩ := hY pre (ahead, x) wr hJs (by rw [hpl]; exact hlt)
   dsimp only at hy
   gi_wp2
   refine hR.mono ?_
   rintro e W3 (⟨rfl, hJ3, hk3⟩ | ⟨rfl, hJx3⟩)
   ·gi_wp2
    go_roundw
    case rel => exact ⟨k + 1, x, pre ++ [(ahead, x)], rfl, by simp, by omega, by simp [hpl], by rw [← HP.out, prs_at HX.out]; simp, hJ3, hnx.trans hk3⟩
    case measure => simp [Go.RowKit.intOf]; omega
   ·gi_wp2
    refine bodyPost_ret (results_none rfl _ _ _) rfl ?_
    exact ⟨⟨_, rfl⟩, .inr ⟨pre ++ [(ahead, x)], ⟨prs x (xs.drop (k + 1)), by rw [← HP.out, prs_at HX.out]; simp⟩, hJx3⟩⟩
  ·obtain rfl : k = xs.length := by omega
   gi_wp2
   go_end0
   exact ⟨⟨_, rfl⟩, .inl ⟨_, by rw [← HP.out, List.drop_length]; simp [prs], hJs⟩⟩
set_option maxHeartbeats 1000000 in
theorem steps_in (F : Fence) (n : Nat) (h40 : F.fn 161) (hro : F.round = none) (a : Int) (A : Option Addr) (len cap : Nat) (w : World) :
  CallsIn F n Tryz.prog 161 #[.int .i64 a, .slice A len cap] w fun e w' => e = .returned (.func (.func 200) #[] #[.pointer (some ⟨w.heap.size, 0, none⟩), .pointer (some ⟨w.heap.size + 1, 0, none⟩)]) ∧
   w' = (w.alloc (.cells #[.int .i64 a] 3)).alloc (.cells #[.slice A len cap] 57) := by
 refine callsIn_of_wp Tryz.func161 rfl h40 ?_ hro
 simp only [Tryz.ntmps161, List.size_toArray, List.length_cons, List.length_nil, Nat.reduceAdd, Nat.reduceSub, Array.replicate_succ, Array.replicate_zero, List.push_toArray, List.append_toArray, List.nil_append, List.cons_append]
 gi_wp2
 go_ret
 exact ⟨rfl, rfl⟩
theorem steps_stops (F : Fence) (n : Nat) (h59 : F.fn 200) (hro : F.round = none) (hn : 1 ≤ n) (Bf Bs n₀ : Nat) (A : Option Addr) (cap : Nat) (a0 : Int) (xs : List Int) (hx : xs.length ≤ maxLen) (w : World)
  (hn₀ : n₀ ≤ w.heap.size) (hf : w.cell? ⟨Bf, 0, none⟩ = some (.int .i64 a0)) (hs : w.cell? ⟨Bs, 0, none⟩ = some (.slice A xs.length cap)) (hc : At w n₀ A (ivs xs)) :
  SeqStopsK F n Tryz.prog 200 #[.pointer (some ⟨Bf, 0, none⟩), .pointer (some ⟨Bs, 0, none⟩)] (fun x : Int × Int => #[Value.int .i64 x.1, Value.int .i64 x.2]) (Below n₀) (fun ys => ys = prs a0 xs) (fun pre => pre <+: prs a0 xs) xs.length w := fun l J Jx W hW _ _ hY h0 =>
 steps1_in F n h59 hro hn l Bf Bs n₀ A cap a0 xs hx J Jx hY W ((hW.cell (p := ⟨Bf, 0, none⟩) (World.block_lt_of_cell? _ _ hf)).trans hf) ((hW.cell (p := ⟨Bs, 0, none⟩) (World.block_lt_of_cell? _ _ hs)).trans hs) (hc.below (hW.mono hn₀)) h0
theorem Tryz.info3 : (Tryz.prog.info? 3).map (fun i => (i.zero, i.size, i.bytes)) = some (some (.int .i64 0), 1, 8) := by kernel_rfl
def dpre (pre : List (Int × Int)) : List Int := pre.map fun p => w64 (p.2 - p.1)
set_option maxHeartbeats 2000000 in
theorem deltas_in (F : Fence) (n : Nat) (h15 : F.fn 94) (h40 : F.fn 161) (h59 : F.fn 200) (hro : F.round = none) (hn : 3 ≤ n) (A : Option Addr) (cap : Nat) (xs : List Int) (hx : xs.length ≤ 100000) (w : World) (hc : At w w.heap.size A (ivs xs)) :
  CallsIn F n Tryz.prog 94 #[.slice A xs.length cap] w fun e W' => ∃ v, e = .returned v ∧ W'.ownsRow w.heap.size 3 1 v (dl 0 xs).length (ivs (dl 0 xs)) ∧ Below w.heap.size w W' := by
 have h1 : 1 ≤ n := by omega
 obtain ⟨i0, hi, hz0, hz1, hz2⟩ := info_parts Tryz.info3
 have HC := Lib.hid hc
 clear hc
 refine callsIn_of_wp_marks Tryz.func94 rfl h15 ?_ hro
 simp only [Tryz.ntmps94, List.size_toArray, List.length_cons, List.length_nil, Nat.reduceAdd, Nat.reduceSub, Array.replicate_succ, Array.replicate_zero, List.push_toArray, List.append_toArray, List.nil_append, List.cons_append]
 have hbx : i0.bytes * xs.length ≤ 281474976710656 := by rw [hz2]; omega
 have hmx : xs.length ≤ maxLen := by unfold maxLen; omega
 gi_wp2_with (gi_at_make; refine wpListIn_make_own _ rfl _ _ 57 rfl w.heap.size 3 i0 (.int .i64 0) 1 Tryz.underlying57 hi hz0 hz1 .i64 .i64 _ xs.length rfl rfl rfl hbx hmx (Nat.le_refl _) ?_; intro w1 hown1 hgrow1)
 have bO := Boxed.new w1 57 (.slice (some ⟨w.heap.size, 0, none⟩) 0 xs.length)
 have hW0 : Below w.heap.size w (w1.alloc (.cells #[.slice (some ⟨w.heap.size, 0, none⟩) 0 xs.length] 57)) := ((Below.refl _ w).grown hgrow1 (Nat.le_refl _) (fun k e => by cases e)).alloc hgrow1.size _
 have hown0 := hown1.alloc (.cells #[.slice (some ⟨w.heap.size, 0, none⟩) 0 xs.length] 57)
 obtain ⟨B, hB⟩ : ∃ B, B = w1.heap.size := ⟨_, rfl⟩
 obtain ⟨W0, hW⟩ : ∃ W0, W0 = w1.alloc (.cells #[.slice (some ⟨w.heap.size, 0, none⟩) 0 xs.length] 57) := ⟨_, rfl⟩
 have hsz : W0.heap.size = B + 1 := by rw [hW, hB]; simp
 have hwB : w.heap.size ≤ B := by rw [hB]; exact hgrow1.size
 rw [← hW, ← hB]
 rw [← hW] at bO hW0 hown0
 rw [← hB] at bO
 clear hW hB hown1 hgrow1 hbx
 refine (steps_in F (n - 1) h40 hro _ _ _ _ _).mono ?_
 rintro e W1 ⟨rfl, hW1⟩
 have hf := Boxed.new W0 3 (.int .i64 0)
 have hs := Boxed.new (W0.alloc (.cells #[.int .i64 0] 3)) 57 (.slice A xs.length cap)
 rw [World.size_alloc] at hs
 have hf1 := (hf.alloc (.cells #[.slice A xs.length cap] 57)).cell
 have hs1 := hs.cell
 have bO1 := (bO.alloc (.cells #[.int .i64 0] 3)).alloc (.cells #[.slice A xs.length cap] 57)
 have hown2 := (hown0.alloc (.cells #[.int .i64 0] 3)).alloc (.cells #[.slice A xs.length cap] 57)
 have hbw1 : Below w.heap.size w W1 := by rw [hW1]; exact (hW0.alloc hW0.size _).alloc (by simp; omega) _
 rw [← hW1] at hf1 hs1 bO1 hown2
 have hsz1 : W1.heap.size = B + 3 := by rw [hW1]; simp [hsz]
 clear hf hs bO hown0 hW1
 rw [hsz] at hf1 hs1
 rw [hsz]
 gi_wp2
 refine wpIn_rangeFunc_ownG hro h1 (gf := 200) (lb := #[.pointer (some ⟨B + 1, 0, none⟩), .pointer (some ⟨B + 1 + 1, 0, none⟩)]) rfl h59 (enters_of Tryz.func200 (by kernel_rfl) rfl)
  (steps_stops F (n - 1) h59 hro (by omega) (B + 1) (B + 1 + 1) w.heap.size A cap 0 xs hmx W1 hbw1.size hf1 hs1 (HC.out.below hbw1)) belowK_t (belowK_b hbw1.size) (Below.refl _ _) (fun _ => rfl)
  (fun pre W => (∃ v, Boxed W B 57 v ∧ W.ownsRow w.heap.size 3 1 v (dpre pre).length (ivs (dpre pre)) ∧ True) ∧ Below w.heap.size w W)
  (fun _ _ _ => False)
  (OwnFrom.and (Own.from (holdsRow_own w.heap.size B 57 3 1 (fun pre => (dpre pre).length) (fun pre => ivs (dpre pre)) (fun _ _ => True)) _) (ownFrom_below (Nat.le_refl _) (by omega)))
  (fun _ _ _ _ _ hs _ _ => hs)
  ⟨⟨_, bO1, hown2, trivial⟩, hbw1⟩
  (fun x => { tmps := #[.slice A xs.length cap, undef, .slice none 0 0, .pointer (some ⟨B, 0, none⟩), .int .i64 x.1, .int .i64 x.2, .slice A xs.length cap, .int .i64 (xs.length : Int), .slice (some ⟨w.heap.size, 0, none⟩) 0 xs.length, .slice A xs.length cap,
   .func (.func 200) #[] #[.pointer (some ⟨B + 1, 0, none⟩), .pointer (some ⟨B + 1 + 1, 0, none⟩)], .int .i64 x.1, .int .i64 x.2, undef, undef, undef, undef, undef, undef, undef], defers := [] }) ?assign ?body ?done ?stop
 case assign =>
  intro l x W K hK
  gi_wp2
  exact hK
 case body =>
  rintro l pre x W ⟨⟨v, hv, hrow, -⟩, hB⟩ hlt
  have hcv := hv.cell
  have hpl : (dpre pre).length ≤ pre.length := by simp [dpre]
  have hbs := hB.size
  gi_wp2_with (gi_at_builtin; refine wpListIn_append_own _ rfl _ _ 57 rfl w.heap.size 3 i0 (.int .i64 0) 1 8 Tryz.underlying57 hi hz0 hz1 hz2 rfl (by decide) _ _ _ rfl (hrow.alloc _) ⟨W.heap.size, 0, none⟩ 1 1 [.int .i64 (wrap64 (x.2 - x.1))] rfl rfl (cell_one_new _ _ _) (by simp [Value.oneCell']) (by unfold maxLen; omega) (by omega) (by simp; omega) ?_; intro v' w2 hown' hgrow _; obtain ⟨g', cap', rfl⟩ := ownsRow_succ hown'; obtain ⟨hv1, hv2, hr2, hk2, hb2⟩ := hv.appended (by decide) hrow hbs hwB hown' hgrow; have hc1 := hv1.cell; have hf1 := hv1.frozen)
  refine ⟨hk2.from _, hb2, ⟨_, hv2, ?_, trivial⟩, hB.trans hb2⟩
  have e1 : dpre (pre ++ [x]) = dpre pre ++ [wrap64 (x.2 - x.1)] := by simp [dpre, w64, wrap64]
  have e2 : ivs (dpre (pre ++ [x])) = ivs (dpre pre) ++ [.int .i64 (wrap64 (x.2 - x.1))] := by rw [e1]; simp [ivs]
  rw [e2, e1, List.length_append, List.length_singleton]
  exact hr2
 case done =>
  rintro D ys W hD rfl ⟨⟨v, hv, hrow, -⟩, hB⟩ hK
  have hcv := hv.cell
  gi_wp2
  refine ⟨by simp, .inl ⟨_, _, rfl, run_takeDeferred hK, ?_⟩⟩
  exact ⟨_, results_tmp rfl _ _ _, v, rfl, ownsRow_putObj hrow _ hK rfl, hB.trans (belowK_b (w := w) (Nat.le_refl _) W D _ _ (by omega) hK rfl rfl)⟩
 case stop =>
  rintro D c pre W _ _ h _
  exact h.elim
theorem deltas_c (A : Option Addr) (cap : Nat) (xs : List Int) (hx : xs.length ≤ 100000) (w : World) (hc : At w w.heap.size A (ivs xs)) :
  Calls Tryz.prog 94 #[.slice A xs.length cap] w fun e w' => ∃ A' cap', e = .returned (.slice A' xs.length cap') ∧ xs.length ≤ cap' ∧ Fresh w.heap.size A' ∧ At w' w'.heap.size A' (ivs (dl 0 xs)) ∧ Below w.heap.size w w' := by
 refine ((callsIn_wide (n := 3)).1 (deltas_in Fence.wide 3 trivial trivial trivial rfl (Nat.le_refl _) A cap xs hx w hc)).mono ?_
 rintro e w' ⟨v, rfl, hown, hb⟩
 obtain ⟨A', cap', rfl, ha, hfr, hcp⟩ := own_at hown
 rw [dl_len] at hcp ⊢
 exact ⟨A', cap', rfl, hcp, hfr, ha, hb⟩
end Dl
end Go.Proofs.YtojhenpaeedimaaGreat
end
section
namespace Go.Proofs.YtojhenpaeedimaaGreat
namespace Dl
open Go.RowKit
open Pk
set_option maxRecDepth 100000
theorem own_snocI {w : World} {base : Nat} {v : Value} {xs : List Int} {x : Int} (h : w.ownsRow base 3 1 v (xs.length + 1) (ivs xs ++ [.int .i64 x])) : w.ownsRow base 3 1 v (xs ++ [x]).length (ivs (xs ++ [x])) := by
 rw [List.length_append]; simpa [ivs] using h
theorem below_ownI {B : Nat} {w w1 w2 : World} {v : Value} {o : Obj} {e : TypeId} {size n : Nat} {xs : List Value} (hb : Below B w w1) (hB : B ≤ w1.heap.size) (hown : w1.ownsRow B e size v n xs) (hg : (w1.alloc o).grownBy w2 v.ownBlock) : Below B w w2 :=
 (hb.alloc hB o).grown hg (by simp; omega) (fun k hk => (hown.lt k hk).1)
set_option maxHeartbeats 2000000 in
theorem sums_c (A : Option Addr) (cap : Nat) (xs : List Int) (hx : xs.length ≤ 100000) (w : World) (hc : At w w.heap.size A (ivs xs)) :
  Calls Tryz.prog 179 #[.slice A xs.length cap] w fun e w' => ∃ A' cap', e = .returned (.slice A' xs.length cap') ∧ xs.length ≤ cap' ∧ Fresh w.heap.size A' ∧ At w' w'.heap.size A' (ivs (sm 0 xs)) ∧ Below w.heap.size w w' := by
 obtain ⟨i0, hi, hz0, hz1, hz2⟩ := info_parts Tryz.info3
 have HC := Lib.hid hc
 clear hc
 have hbx : i0.bytes * xs.length ≤ 281474976710656 := by rw [hz2]; omega
 have hmx : xs.length ≤ maxLen := by unfold maxLen; omega
 go_enter Tryz.func179, Tryz.ntmps179
 go_wp2_with (at_make; refine wpList_make_own _ rfl _ _ 57 rfl w.heap.size 3 i0 (.int .i64 0) 1 Tryz.underlying57 hi hz0 hz1 .i64 .i64 _ xs.length rfl rfl rfl hbx hmx (Nat.le_refl _) ?_; intro w1 hown1 hgrow1)
 have hb1 : Below w.heap.size w w1 := (Below.refl _ w).grown hgrow1 (Nat.le_refl _) (fun k e => by cases e)
 clear hbx hmx hgrow1
 go_loopw [3, 4, 12] (fun v a i wr => ∃ (k : Nat) (acc : Int) (out : List Int), i = .int .i64 (k : Int) ∧ a = .int .i64 acc ∧ k ≤ xs.length ∧ out.length = k ∧ out ++ sm acc (xs.drop k) = sm 0 xs ∧ wr.ownsRow w.heap.size 3 1 v out.length (ivs out) ∧ Below w.heap.size w wr)
  (fun _ _ i _ => xs.length - (Go.RowKit.intOf i).toNat)
 case atStart => exact ⟨0, 0, [], rfl, rfl, Nat.zero_le _, rfl, rfl, hown1, hb1⟩
 case round =>
  clear hown1 hb1
  obtain ⟨k, acc, out, rfl, rfl, hk, hol, heq, hown, hb⟩ := hrel
  have HE := Lib.hid heq
  have HOL := Lib.hid hol
  have hb0 := hb.size
  have hle : out.length ≤ 100000 := by omega
  clear heq hol
  by_cases hlt : k < xs.length
  ·obtain ⟨x, hxk⟩ := some_at hlt
   obtain ⟨b, off, rfl, hbl, hcell⟩ := (HC.out.below hb) k _ (ivs_at hxk)
   have HX := Lib.hid hxk
   clear hxk
   go_wp2_with (at_builtin; refine wpList_append_own _ rfl _ _ 57 rfl w.heap.size 3 i0 (.int .i64 0) 1 8 Tryz.underlying57 hi hz0 hz1 hz2 rfl (by decide) _ _ _ rfl (hown.alloc _) ⟨wr.heap.size, 0, none⟩ 1 1 [.int .i64 (wrap64 (acc + x))] rfl rfl (cell_one_new _ _ _) (by simp [Value.oneCell']) (by unfold maxLen; omega) (by omega) (by simp; omega) ?_; intro v' w2 hown' hgrow _)
   have hb2 := below_ownI hb hb0 hown hgrow
   have ho2 := own_snocI hown'
   clear hown hown' hgrow hb
   go_wp2
   go_roundw
   case rel => exact ⟨k + 1, wrap64 (acc + x), out ++ [wrap64 (acc + x)], by go_num, rfl, by omega, by simp [HOL.out], by rw [← HE.out, drop_at_cons HX.out]; simp [sm, w64, wrap64], ho2, hb2⟩
   case measure => simp only [Go.RowKit.intOf]; omega
  ·obtain rfl : k = xs.length := by omega
   obtain ⟨A', cap', rfl, ha, hfr, hcp⟩ := own_at hown
   have hfin : out = sm 0 xs := by rw [← HE.out, List.drop_length]; simp [sm]
   rw [HOL.out]
   go_wp2
   go_ret
   rw [← hfin]
   exact ⟨_, _, rfl, by have := HOL.out; omega, hfr, ha, hb⟩
end Dl
end Go.Proofs.YtojhenpaeedimaaGreat
end
section
namespace Go.Proofs.YtojhenpaeedimaaGreat
namespace Dl
open Go.RowKit Go.IntWalk
open Pk
set_option maxRecDepth 100000
theorem but_cell {B b : Nat} {w w' : World} (h : But B b w w') {p : Addr} (hp : p.block < B) (hne : p.block ≠ b) : w'.cell? p = w.cell? p := World.cell?_of_block (h.block _ hp hne)
set_option maxHeartbeats 2000000 in
theorem encode_c (A : Option Addr) (cap : Nat) (xs : List Int) (hx : xs.length ≤ 100000) (w : World) (hc : At w w.heap.size A (ivs xs)) :
  Calls Tryz.prog 43 #[.slice A xs.length cap] w fun e w' => e = .returned (.string (ba (encL xs))) ∧ Below w.heap.size w w' := by
 have hdi := dl_in 0 xs
 have hdl := dl_len 0 xs
 have hel := (encL_len xs).2
 unfold encL at hel ⊢
 have HC := Lib.hid hc
 have HDI := Lib.hid hdi
 clear hc hdi
 go_enter Tryz.func43, Tryz.ntmps43
 go_wp2_with fail
 have h0 : Below w.heap.size w (w.alloc (.cells #[.pointer none, .slice none 0 0] 111)) := (Below.refl _ _).alloc (Nat.le_refl _) _
 refine (deltas_c A cap xs hx _ ((HC.out.below h0).mono (by simp))).mono ?_
 rintro e w1 ⟨A', cap', rfl, -, hfr, hat, hb1⟩
 have hbld0 := bld_grown (bld_new w w1.heap.size) hb1
 have hbb : But w1.heap.size w.heap.size w1 w1 := But.refl _ _ _
 rw [World.size_alloc] at hfr hb1
 have hb01 := h0.trans (hb1.mono (Nat.le_succ _))
 have hsz1 : w.heap.size < w1.heap.size := by have := hb1.size; simp at this; omega
 obtain ⟨D, hD⟩ : ∃ D, D = dl 0 xs := ⟨_, rfl⟩
 have hdl2 : D.length = xs.length := by rw [hD]; exact hdl
 rw [← hD] at hat HDI hel
 have HD := Lib.hid hD
 have HAT := Lib.hid hat
 have HFR := Lib.hid hfr
 have HEL := Lib.hid hel
 have HDL := Lib.hid hdl2
 clear hD hat hfr hel hdl hdl2 h0 hb1
 go_wp2_with fail
 go_loopw [9] (fun i wr => ∃ k : Nat, i = .int .i64 (k : Int) ∧ k ≤ xs.length ∧ Bld wr w1.heap.size w.heap.size (encD (D.take k)) ∧ But w1.heap.size w.heap.size w1 wr) (fun i _ => xs.length - (Go.RowKit.intOf i).toNat)
 case atStart => exact ⟨0, rfl, Nat.zero_le _, hbld0, hbb⟩
 case round =>
  clear hbld0 hbb
  obtain ⟨k, rfl, hk, hbld, hbut⟩ := hrel
  by_cases hlt : k < xs.length
  ·obtain ⟨x, hxk⟩ := some_at (show k < D.length by rw [HDL.out]; exact hlt)
   obtain ⟨b, off, rfl, hbl, hcell⟩ := HAT.out k _ (ivs_at hxk)
   have hne : b ≠ w.heap.size := by have := HFR.out _ rfl; simp at this; omega
   have hcell2 : wr.cell? ⟨b, off + k, none⟩ = some (.int .i64 x) := (but_cell hbut (p := ⟨b, off + k, none⟩) hbl hne).trans hcell
   have hx64 := HDI.out x (mem_at hxk)
   have hzl := zig_lt hx64.1 (by have := hx64.2; omega)
   obtain ⟨hx1, hx2⟩ := hx64
   have hpl := put_len10 hzl
   have hde := (encD_len (D.take k) (fun y hy => HDI.out y (List.mem_of_mem_take hy))).2
   rw [List.length_take] at hde
   have hle : (encD (D.take k)).length + (put (zig x)).length ≤ 140737488355328 := by omega
   have hws := hbut.size
   have HX := Lib.hid hxk
   clear hcell hxk hpl hde
   go_wp2_with fail
   refine (zig_c x hx1 (by omega) _).mono ?_
   rintro e wz ⟨rfl, rfl⟩
   go_wp2_with fail
   refine (put_c (zig x) hzl _).mono ?_
   rintro e w2 ⟨rfl, hb2⟩
   have hbld2 := bld_grown hbld hb2
   have hbut2 := hbut.trans (but_below (b := w.heap.size) (hb2.mono hws))
   have hws2 := Nat.le_trans hws hb2.size
   clear hbld hbut hb2 hcell2
   go_wp2_with fail
   refine (write_b w1.heap.size w.heap.size _ (put (zig x)) _ hbld2 hle hws2).mono ?_
   rintro e w3 ⟨rfl, hbld3, hbut3⟩
   have hbut4 := hbut2.trans hbut3
   clear hbld2 hbut2 hbut3
   go_wp2_with fail
   go_roundw
   case rel => exact ⟨k + 1, by go_num, by omega, by rw [List.take_add_one, HX.out]; simpa [encD] using hbld3, hbut4⟩
   case measure => simp only [Go.RowKit.intOf]; omega
  ·obtain rfl : k = xs.length := by omega
   rw [← HDL.out, List.take_length] at hbld
   go_wp2_with fail
   refine (string_c w1.heap.size w.heap.size w.heap.size _ _ hbld (Nat.le_of_lt hsz1) (Nat.le_refl _)).mono ?_
   rintro e w3 ⟨rfl, hb3⟩
   go_wp2
   go_ret
   rw [← HD.out]
   exact ⟨rfl, (hb01.trans (hbut.below (Nat.le_of_lt hsz1) (Nat.le_refl _))).trans hb3⟩
end Dl
end Go.Proofs.YtojhenpaeedimaaGreat
end
section
namespace Go.Proofs.YtojhenpaeedimaaGreat
namespace Dl
open Go.RowKit Go.IntWalk
open Pk
set_option maxRecDepth 100000
attribute [local go_sem] Oper.semAt_some
theorem rdr_grown {w w' : World} {q : Nat} {s : St} (h : Rdr w q s) (hg : Below w.heap.size w w') : Rdr w' q s := is_below h hg (is_lt h)
theorem only_cell {w w' : World} {q : Nat} (h : w.grownBy w' (some q)) {p : Addr} {v : Value} (hc : w.cell? p = some v) (hne : p.block ≠ q) : w'.cell? p = some v := by
 rw [World.cell?_of_block (h.block _ (World.block_lt_of_cell? _ _ hc) (fun e => hne (by injection e)))]; exact hc
/-- what the iterator over a Reader of s0 leaves -/
def IntsEnd (q n : Nat) (s0 : St) (ys : List Int) (W : World) : Prop := Rdr W q (rdn n s0).2 ∧ ((rdn n s0).2.e = 0 → ys = (rdn n s0).1)
set_option maxHeartbeats 2000000 in
theorem ints1_in (m : Nat) (hm : 1 ≤ m) (l Bn Br n₀ q n : Nat) (s0 : St) (hn : n ≤ 100000) (he0 : s0.e = 0) (hBr : Br < n₀) (hq : q < n₀) (hqr : Br ≠ q) (J Jx : List Int → World → Prop)
  (hJ : ∀ s A B, J s A → A.grownBy B (some q) → J s B)
  (hY : ∀ pre x W, J pre W → pre.length < n → YieldAt Fence.wide (m - 1) Tryz.prog l #[.int .i64 x] W fun e W' =>
   (e = .returned (.bool true) ∧ J (pre ++ [x]) W' ∧ Below n₀ W W') ∨ (e = .returned (.bool false) ∧ Jx (pre ++ [x]) W'))
  (W : World) (hcn : W.cell? ⟨Bn, 0, none⟩ = some (.int .i64 (n : Int))) (hcr : W.cell? ⟨Br, 0, none⟩ = some (.pointer (some ⟨q, 0, none⟩))) (hr : Rdr W q s0) (h0 : J [] W) :
  CallsIn Fence.wide m Tryz.prog 210 #[.func (.yield l) #[] #[], .pointer (some ⟨Bn, 0, none⟩), .pointer (some ⟨Br, 0, none⟩)] W fun e W' => (∃ v, e = .returned v) ∧ ((∃ ys, IntsEnd q n s0 ys W' ∧ J ys W') ∨ ∃ pre, True ∧ Jx pre W') := by
 refine callsIn_of_wp Tryz.func210 rfl trivial ?_ rfl
 simp only [Tryz.ntmps210, List.size_toArray, List.length_cons, List.length_nil, Nat.reduceAdd, Nat.reduceSub, Array.replicate_succ, Array.replicate_zero, List.push_toArray, List.append_toArray, List.nil_append, List.cons_append]
 have HJ := Lib.hid hJ
 clear hJ
 gi_wp2
 gi_loopw [6] (fun i wr => ∃ (k j : Nat) (s : St) (pre : List Int), i = .int .i64 (k : Int) ∧ k + j = n ∧ pre.length = k ∧ s.e = 0 ∧ pre ++ (rdn j s).1 = (rdn n s0).1 ∧ (rdn j s).2 = (rdn n s0).2 ∧
   wr.cell? ⟨Br, 0, none⟩ = some (.pointer (some ⟨q, 0, none⟩)) ∧ Rdr wr q s ∧ J pre wr)
  (fun i _ => n - (Go.RowKit.intOf i).toNat)
 case atStart => exact ⟨0, n, s0, [], rfl, by omega, rfl, he0, rfl, rfl, hcr, hr, h0⟩
 case round =>
  clear hcn hcr hr h0
  obtain ⟨k, j, s, pre, rfl, hkj, hpl, he, hp1, hp2, hcr, hr, hJs⟩ := hrel
  have HP1 := Lib.hid hp1
  have HP2 := Lib.hid hp2
  have HE := Lib.hid he
  have HPL := Lib.hid hpl
  clear hp1 hp2 he hpl
  by_cases hlt : k < n
  ·obtain ⟨j, rfl⟩ : ∃ j', j = j' + 1 := ⟨j - 1, by omega⟩
   gi_wp2_with fail
   refine ⟨trivial, (callsIn_wide.2 (int_m q s _ hr)).mono ?_⟩
   rintro e w1 ⟨rfl, hr1, ho1⟩
   have hcr1 := only_cell ho1 hcr hqr
   have hJ1 := HJ.out _ _ _ hJs ho1
   clear hr hcr hJs ho1
   obtain ⟨d, hd⟩ : ∃ d, d = zag (numV s) := ⟨_, rfl⟩
   obtain ⟨s1, hs1⟩ : ∃ s1, s1 = numS s := ⟨_, rfl⟩
   have e1 : pre ++ (d :: (rdn j s1).1) = (rdn n s0).1 := by rw [hd, hs1]; exact HP1.out
   have e2 : (rdn j s1).2 = (rdn n s0).2 := by rw [hs1]; exact HP2.out
   have E1 := Lib.hid e1
   have E2 := Lib.hid e2
   rw [← hs1] at hr1
   rw [← hd]
   clear hd hs1 e1 e2
   by_cases hz : s1.e = 0
   ·have hb : (s1.e != 0) = false := by rw [hz]; rfl
    have HZ := Lib.hid hz
    clear hz
    obtain ⟨fn, tmps, assign, body, hy, hR⟩ := hY pre d w1 hJ1 (by rw [HPL.out]; exact hlt)
    gi_wp2_with fail
    refine ⟨trivial, (callsIn_wide.2 (err_c q s1 _ hr1)).mono ?_⟩
    rintro e wz ⟨rfl, rfl⟩
    gi_wp2_with fail
    refine hR.mono ?_
    rintro e w3 (⟨rfl, hJ3, hk3⟩ | ⟨rfl, hJx3⟩)
    ·have hcr3 := (hk3.cell (p := ⟨Br, 0, none⟩) hBr).trans hcr1
     have hr3 := is_below hr1 hk3 hq
     clear hJ1 hcr1 hr1 hk3 hy hR
     gi_wp2_with fail
     go_roundw
     case rel => exact ⟨k + 1, j, s1, pre ++ [d], by simp, by omega, by simp [HPL.out], HZ.out, by rw [List.append_assoc]; exact E1.out, E2.out, hcr3, hr3, hJ3⟩
     case measure => simp [Go.RowKit.intOf]; omega
    ·gi_wp2_with fail
     refine bodyPost_ret (results_none rfl _ _ _) rfl ?_
     exact ⟨⟨_, rfl⟩, .inr ⟨_, trivial, hJx3⟩⟩
   ·have hb : (s1.e != 0) = true := by simpa using hz
    have HZ := Lib.hid hz
    clear hz
    gi_wp2_with fail
    refine ⟨trivial, (callsIn_wide.2 (err_c q s1 _ hr1)).mono ?_⟩
    rintro e wz ⟨rfl, rfl⟩
    gi_wp2_with fail
    refine ⟨fun _ h => (by cases h), ?_⟩
    gi_wp2_with fail
    refine bodyPost_ret (results_none rfl _ _ _) rfl ?_
    have hst := rdn_stuck j s1 HZ.out
    refine ⟨⟨_, rfl⟩, .inl ⟨pre, ⟨by rw [← E2.out, hst]; exact hr1, fun h => ?_⟩, hJ1⟩⟩
    rw [← E2.out, hst] at h
    exact absurd h HZ.out
  ·obtain rfl : j = 0 := by omega
   gi_wp2_with fail
   go_end0
   exact ⟨⟨_, rfl⟩, .inl ⟨pre, ⟨by rw [← HP2.out]; exact hr, fun _ => by rw [← HP1.out]; simp [rdn]⟩, hJs⟩⟩
set_option maxHeartbeats 1000000 in
theorem ints_in (F : Fence) (n : Nat) (h : F.fn 178) (hro : F.round = none) (p : Addr) (k : Int) (w : World) :
  CallsIn F n Tryz.prog 178 #[.pointer (some p), .int .i64 k] w fun e w' => e = .returned (.func (.func 210) #[] #[.pointer (some ⟨w.heap.size + 1, 0, none⟩), .pointer (some ⟨w.heap.size, 0, none⟩)]) ∧
   w' = (w.alloc (.cells #[.pointer (some p)] 73)).alloc (.cells #[.int .i64 k] 3) := by
 refine callsIn_of_wp Tryz.func178 rfl h ?_ hro
 simp only [Tryz.ntmps178, List.size_toArray, List.length_cons, List.length_nil, Nat.reduceAdd, Nat.reduceSub, Array.replicate_succ, Array.replicate_zero, List.push_toArray, List.append_toArray, List.nil_append, List.cons_append]
 gi_wp2
 go_ret
 exact ⟨rfl, rfl⟩
theorem ints_stops (m : Nat) (hm : 1 ≤ m) (Bn Br q n : Nat) (s0 : St) (hn : n ≤ 100000) (he0 : s0.e = 0) (hqr : Br ≠ q) (w : World) (n₀ : Nat) (hn₀ : n₀ ≤ w.heap.size) (hBn : Bn < n₀) (hBr : Br < n₀) (hq : q < n₀)
  (hcn : w.cell? ⟨Bn, 0, none⟩ = some (.int .i64 (n : Int))) (hcr : w.cell? ⟨Br, 0, none⟩ = some (.pointer (some ⟨q, 0, none⟩))) (hr : Rdr w q s0) :
  SeqQ Fence.wide m Tryz.prog 210 #[.pointer (some ⟨Bn, 0, none⟩), .pointer (some ⟨Br, 0, none⟩)] (fun x : Int => #[Value.int .i64 x]) (Below n₀) (fun A B => A.grownBy B (some q)) (IntsEnd q n s0) (fun _ _ => True) n w :=
 fun l J Jx W hW hJ _ hY h0 => ints1_in m hm l Bn Br n₀ q n s0 hn he0 hBr hq hqr J Jx hJ hY W
  ((hW.cell (p := ⟨Bn, 0, none⟩) (by show Bn < _; omega)).trans hcn) ((hW.cell (p := ⟨Br, 0, none⟩) (by show Br < _; omega)).trans hcr) (is_below hr hW (by omega)) h0
theorem ownFrom_only {β : Type} {B q : Nat} {w0 : World} (hB : w0.heap.size ≤ B) : OwnFrom B (fun (_ : β) W => w0.grownBy W (some q)) :=
 fun _ X Y row hs hg hr => ⟨hg.os.trans hs.os, hg.tape.trans hs.tape, hg.output.trans hs.output, Nat.le_trans hs.size hg.size, fun i hi hne =>
  (hg.block i (Nat.lt_of_lt_of_le hi hs.size) (fun e => by have := (hr i e.symm).1; omega)).trans (hs.block i hi hne)⟩
theorem ownFrom_rdr {B q n : Nat} {s0 : St} : OwnFrom B (IntsEnd q n s0) := fun ys X Y row hs hg hr => by
 refine ⟨?_, hs.2⟩
 have hk : X.heap[q]? = _ := hs.1
 refine (hg.block q (is_lt hs.1) (fun e => ?_)).trans hk
 obtain ⟨_, o, ho, hc⟩ := hr q e.symm
 rw [hk] at ho
 cases ho
 cases hc
theorem only_then {a b c : World} {q : Nat} (h : a.grownBy b (some q)) (k : Below a.heap.size b c) : a.grownBy c (some q) :=
 ⟨k.os.trans h.os, k.tape.trans h.tape, k.output.trans h.output, Nat.le_trans h.size k.size, fun i hi hne => (k.block i hi).trans (h.block i hi hne)⟩
theorem only_put {a b : World} {q D : Nat} (h : a.grownBy b (some q)) (hD : a.heap.size ≤ D) (o : Obj) : a.grownBy (b.putObj D o) (some q) :=
 ⟨h.os, h.tape, h.output, by simp; exact h.size, fun i hi hne => (World.putObj_heap_other (by omega)).trans (h.block i hi hne)⟩
set_option maxHeartbeats 2000000 in
theorem appendSeq_in (m : Nat) (hm : 3 ≤ m) (Bn Br q n : Nat) (s0 : St) (hn : n ≤ 100000) (he0 : s0.e = 0) (hqr : Br ≠ q) (w : World) (hBn : Bn < w.heap.size) (hBr : Br < w.heap.size) (hq : q < w.heap.size)
  (hcn : w.cell? ⟨Bn, 0, none⟩ = some (.int .i64 (n : Int))) (hcr : w.cell? ⟨Br, 0, none⟩ = some (.pointer (some ⟨q, 0, none⟩))) (hr : Rdr w q s0) :
  CallsIn Fence.wide m Tryz.prog 209 #[.slice none 0 0, .func (.func 210) #[] #[.pointer (some ⟨Bn, 0, none⟩), .pointer (some ⟨Br, 0, none⟩)]] w fun e W' =>
   ∃ v ys, e = .returned v ∧ W'.ownsRow w.heap.size 3 1 v ys.length (ivs ys) ∧ ys.length ≤ n ∧ IntsEnd q n s0 ys W' ∧ w.grownBy W' (some q) := by
 have h1 : 1 ≤ m := by omega
 obtain ⟨i0, hi, hz0, hz1, hz2⟩ := info_parts Tryz.info3
 refine callsIn_of_wp_marks Tryz.func209 rfl trivial ?_ rfl
 simp only [Tryz.ntmps209, List.size_toArray, List.length_cons, List.length_nil, Nat.reduceAdd, Nat.reduceSub, Array.replicate_succ, Array.replicate_zero, List.push_toArray, List.append_toArray, List.nil_append, List.cons_append]
 gi_wp2
 have bO := Boxed.new w 57 (.slice none 0 0)
 have hsz : (w.alloc (.cells #[.slice none 0 0] 57)).heap.size = w.heap.size + 1 := by simp
 refine rangeQ rfl h1 (gf := 210) (lb := #[.pointer (some ⟨Bn, 0, none⟩), .pointer (some ⟨Br, 0, none⟩)]) rfl trivial (enters_of Tryz.func210 (by kernel_rfl) rfl)
  (ints_stops (m - 1) (by omega) Bn Br q n s0 hn he0 hqr (w.alloc (.cells #[.slice none 0 0] 57)) w.heap.size (by omega) hBn hBr hq (cell_boxed hcn _) (cell_boxed hcr _) (is_alloc hr _)) belowK_t (belowK_b (by omega)) (Below.refl _ _) (fun _ => rfl)
  (fun A B hab k o hk hko ho => (hab.block k (Array.getElem?_eq_some_iff.1 hko).1 (fun e => by injection e with e; omega)).trans hko)
  ownFrom_rdr (ownFrom_pure _ _)
  (fun pre W => (∃ v, Boxed W w.heap.size 57 v ∧ W.ownsRow w.heap.size 3 1 v pre.length (ivs pre) ∧ pre.length ≤ n) ∧ w.grownBy W (some q))
  (fun _ _ _ => False)
  (OwnFrom.and (Own.from (holdsRow_own w.heap.size w.heap.size 57 3 1 (fun pre => pre.length) (fun pre => ivs pre) (fun pre _ => pre.length ≤ n)) _) (ownFrom_only (by omega)))
  (fun _ _ _ _ _ hs _ _ => hs)
  (fun s A B hs hab => by
   obtain ⟨⟨v, hv, hrow, hl⟩, ho⟩ := hs
   refine ⟨⟨v, hv.kept hab (fun e => by injection e with e; omega), hrow.kept hab ?_, hl⟩, only_trans ho hab⟩
   by_cases hb : v.ownBlock = none
   ·exact .inl hb
   ·exact .inr fun e => by have := (hrow.lt q e).1; omega)
  (fun _ _ _ _ hs _ => hs)
  ⟨⟨_, bO, World.ownsRow_nil _ _ _ _, Nat.zero_le _⟩, World.grownBy_alloc w _ _⟩
  (fun x => { tmps := #[.slice none 0 0, .func (.func 210) #[] #[.pointer (some ⟨Bn, 0, none⟩), .pointer (some ⟨Br, 0, none⟩)], .pointer (some ⟨w.heap.size, 0, none⟩), undef, .slice none 0 0, .int .i64 x,
   .func (.func 210) #[] #[.pointer (some ⟨Bn, 0, none⟩), .pointer (some ⟨Br, 0, none⟩)], .int .i64 x, undef, undef, undef, undef, undef], defers := [] }) ?assign ?body ?done ?stop
 case assign =>
  intro l x W K hK
  gi_wp2
  exact hK
 case body =>
  rintro l pre x W ⟨⟨v, hv, hrow, hpn⟩, hB⟩ hlt
  have hcv := hv.cell
  have hbs := hB.size
  gi_wp2_with (gi_at_builtin; refine wpListIn_append_own _ rfl _ _ 57 rfl w.heap.size 3 i0 (.int .i64 0) 1 8 Tryz.underlying57 hi hz0 hz1 hz2 rfl (by decide) _ _ _ rfl (hrow.alloc _) ⟨W.heap.size, 0, none⟩ 1 1 [.int .i64 x] rfl rfl (cell_one_new _ _ _) (by simp [Value.oneCell']) (by unfold maxLen; omega) (by omega) (by simp; omega) ?_; intro v' w2 hown' hgrow _; obtain ⟨g', cap', rfl⟩ := ownsRow_succ hown'; obtain ⟨hv1, hv2, hr2, hk2, hb2⟩ := hv.appended (by decide) hrow hbs (Nat.le_refl _) hown' hgrow; have hc1 := hv1.cell; have hf1 := hv1.frozen)
  refine ⟨hk2.from _, hb2, ⟨_, hv2, ?_, by simp; omega⟩, only_then hB hb2⟩
  rw [List.length_append, show ivs (pre ++ [x]) = ivs pre ++ [.int .i64 x] by simp [ivs]]
  exact hr2
 case done =>
  rintro D ys W hD hS ⟨⟨v, hv, hrow, hpn⟩, hB⟩ hK
  have hcv := hv.cell
  gi_wp2
  refine ⟨by simp, .inl ⟨_, _, rfl, run_takeDeferred hK, ?_⟩⟩
  refine ⟨_, results_tmp rfl _ _ _, v, ys, rfl, ownsRow_putObj hrow _ hK rfl, hpn, ?_, only_put hB (by omega) _⟩
  exact ⟨(World.putObj_heap_other (by omega)).trans hS.1, hS.2⟩
 case stop =>
  rintro D c pre W _ _ h _
  exact h.elim
end Dl
end Go.Proofs.YtojhenpaeedimaaGreat
end
section
namespace Go.Proofs.YtojhenpaeedimaaGreat
namespace Dl
open Go.RowKit Go.IntWalk
open Pk
set_option maxRecDepth 100000
attribute [local go_sem] Oper.semAt_some
set_option maxHeartbeats 1000000 in
theorem collect_c (Bn Br q n : Nat) (s0 : St) (hn : n ≤ 100000) (he0 : s0.e = 0) (hqr : Br ≠ q) (w : World) (hBn : Bn < w.heap.size) (hBr : Br < w.heap.size) (hq : q < w.heap.size)
  (hcn : w.cell? ⟨Bn, 0, none⟩ = some (.int .i64 (n : Int))) (hcr : w.cell? ⟨Br, 0, none⟩ = some (.pointer (some ⟨q, 0, none⟩))) (hr : Rdr w q s0) :
  Calls Tryz.prog 177 #[.func (.func 210) #[] #[.pointer (some ⟨Bn, 0, none⟩), .pointer (some ⟨Br, 0, none⟩)]] w fun e W' =>
   ∃ A cap ys, e = .returned (.slice A ys.length cap) ∧ At W' W'.heap.size A (ivs ys) ∧ Fresh w.heap.size A ∧ ys.length ≤ n ∧ IntsEnd q n s0 ys W' ∧ w.grownBy W' (some q) := by
 refine (callsIn_wide (n := 4)).1 ?_
 refine callsIn_of_wp Tryz.func177 rfl trivial ?_ rfl
 simp only [Tryz.ntmps177, List.size_toArray, List.length_cons, List.length_nil, Nat.reduceAdd, Nat.reduceSub, Array.replicate_succ, Array.replicate_zero, List.push_toArray, List.append_toArray, List.nil_append, List.cons_append]
 gi_wp2_with fail
 refine ⟨trivial, (appendSeq_in 3 (Nat.le_refl _) Bn Br q n s0 hn he0 hqr w hBn hBr hq hcn hcr hr).mono ?_⟩
 rintro e w1 ⟨v, ys, rfl, hown, hyn, hend, ho⟩
 obtain ⟨A, cap, rfl, ha, hfr, -⟩ := own_at hown
 clear hown
 gi_wp2
 go_ret
 exact ⟨A, cap, ys, rfl, ha, hfr, hyn, hend, ho⟩
/-- what Decode answers -/
def DecEnd (r : List Int × Int) (w : World) (e : Ending) (w' : World) : Prop :=
 ∃ A cap, e = .returned (.tuple #[.slice A r.1.length cap, .int .i64 r.2]) ∧ r.1.length ≤ cap ∧ Fresh w.heap.size A ∧ At w' w'.heap.size A (ivs r.1) ∧ Below w.heap.size w w'
theorem decEnd_nil {r : List Int × Int} {w w' : World} {x : Int} (h : r = ([], x)) (hb : Below w.heap.size w w') : DecEnd r w (.returned (.tuple #[.slice none 0 0, .int .i64 x])) w' := by
 subst h
 exact ⟨none, 0, rfl, Nat.le_refl _, fun a ha => (by cases ha), At.nil _ _ _, hb⟩
set_option maxHeartbeats 2000000 in
theorem decode_c (l : List UInt8) (n : Int) (hn1 : -9223372036854775808 ≤ n) (hn2 : n ≤ 9223372036854775807) (hl : l.length ≤ 100000) (w : World) :
  Calls Tryz.prog 126 #[.string (ba l), .int .i64 n] w (DecEnd (decV l n) w) := by
 have hs := ba_size l
 rcases Int.lt_or_le n 0 with hneg | hpos
 ·have hd := decV_neg (l := l) hneg
  have HD := Lib.hid hd
  clear hd
  go_enter Tryz.func126, Tryz.ntmps126
  go_wp2_with fail
  go_ret2
  exact decEnd_nil HD.out (Below.refl _ _)
 rcases Int.lt_or_le (l.length : Int) n with hfar | hin
 ·have hd := decV_far hfar
  have HD := Lib.hid hd
  clear hd
  go_enter Tryz.func126, Tryz.ntmps126
  go_wp2_with fail
  go_ret2
  exact decEnd_nil HD.out (Below.refl _ _)
 obtain ⟨k, rfl⟩ := Int.eq_ofNat_of_zero_le hpos
 have hk : k ≤ l.length := by omega
 have HBAD := Lib.hid (@decV_bad l k hk)
 have HOK := Lib.hid (@decV_ok l k hk)
 obtain ⟨r, hr⟩ : ∃ r, r = decV l (k : Int) := ⟨_, rfl⟩
 have HR := Lib.hid hr
 rw [← hr]
 clear hr
 go_enter Tryz.func126, Tryz.ntmps126
 go_wp2_with fail
 refine (new_c l _).mono ?_
 rintro e w1 ⟨rfl, hr1, hw1⟩
 have hsz1 : w1.heap.size = w.heap.size + 1 := by rw [hw1]; simp
 have hb1 : Below w.heap.size w w1 := by rw [hw1]; exact (Below.refl _ _).alloc (Nat.le_refl _) _
 clear hw1
 go_wp2_with fail
 refine ((callsIn_wide (n := 3)).1 (ints_in Fence.wide 3 trivial rfl ⟨w.heap.size, 0, none⟩ (k : Int) w1)).mono ?_
 rintro e w2 ⟨rfl, hw2⟩
 have hsz2 : w2.heap.size = w.heap.size + 3 := by rw [hw2]; simp [hsz1]
 have hb2 : Below w.heap.size w w2 := by rw [hw2]; exact (hb1.alloc hb1.size _).alloc (by simp; omega) _
 have hr2 : Rdr w2 w.heap.size ⟨l, 0⟩ := by rw [hw2]; exact is_alloc (is_alloc hr1 _) _
 have hcr : w2.cell? ⟨w1.heap.size, 0, none⟩ = some (.pointer (some ⟨w.heap.size, 0, none⟩)) := by
  rw [hw2]; exact ((Boxed.new w1 73 (.pointer (some ⟨w.heap.size, 0, none⟩))).alloc _).cell
 have hcn : w2.cell? ⟨w1.heap.size + 1, 0, none⟩ = some (.int .i64 (k : Int)) := by
  have := (Boxed.new (w1.alloc (.cells #[.pointer (some ⟨w.heap.size, 0, none⟩)] 73)) 3 (.int .i64 (k : Int))).cell
  rw [World.size_alloc] at this
  rw [hw2]; exact this
 rw [hsz1] at hcr hcn ⊢
 clear hw2 hr1 hb1
 go_wp2_with fail
 refine (collect_c _ _ w.heap.size k ⟨l, 0⟩ (by omega) rfl (by omega) w2 (by omega) (by omega) (by omega) hcn hcr hr2).mono ?_
 rintro e w3 ⟨A, cap, ys, rfl, hat, hfr, hyn, hend, ho⟩
 have hb3 : Below w.heap.size w w3 := hb2.trans ⟨ho.os, ho.tape, ho.output, ho.size, fun i hi => ho.block i (by omega) (fun e => by injection e with e; omega)⟩
 obtain ⟨hr3, hys⟩ := hend
 have HYS := Lib.hid hys
 have HAT := Lib.hid hat
 clear hcn hcr hr2 hb2 hys hat ho
 obtain ⟨st, hst⟩ : ∃ st, st = (rdn k ⟨l, 0⟩).2 := ⟨_, rfl⟩
 rw [← hst] at hr3 HYS
 have HST := Lib.hid hst
 clear hst
 go_wp2_with fail
 refine (done_c _ st _ hr3).mono ?_
 rintro e wz ⟨rfl, rfl⟩
 by_cases hd : doneV st = 0
 ·have hdb : (doneV st != 0) = false := by rw [hd]; rfl
  have HDD := Lib.hid hd
  clear hd
  go_wp2_with fail
  refine (sums_c A cap ys (by omega) _ HAT.out).mono ?_
  rintro e w4 ⟨A', cap', rfl, hcp4, hfr4, hat4, hb4⟩
  go_wp2_with fail
  go_ret2
  have h0 := HYS.out (doneV_zero HDD.out).1
  have hdec := HOK.out (by rw [← HST.out]; exact HDD.out)
  rw [HR.out, hdec, ← h0]
  exact ⟨A', cap', by rw [sm_len]; rfl, by rw [sm_len]; exact hcp4, fun a ha => Nat.le_trans hb3.size (hfr4 a ha), hat4, hb3.trans (hb4.mono hb3.size)⟩
 ·have hdb : (doneV st != 0) = true := by simpa using hd
  have HDD := Lib.hid hd
  clear hd
  go_wp2_with fail
  go_ret2
  refine decEnd_nil ?_ hb3
  rw [HR.out, HST.out]
  exact HBAD.out (by rw [← HST.out]; exact HDD.out)
theorem own_only {w w' : World} {B e size n q : Nat} {v : Value} {xs : List Value} (h : w.ownsRow B e size v n xs) (ho : w.grownBy w' (some q)) (hq : q < B) : w'.ownsRow B e size v n xs :=
 h.kept ho (by
  by_cases hb : v.ownBlock = none
  ·exact .inl hb
  ·exact .inr fun e => by have := (h.lt q e).1; omega)
end Dl
end Go.Proofs.YtojhenpaeedimaaGreat
end
