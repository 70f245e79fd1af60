/-
 slices.Grow, slices.Concat and append at moves.
 A move's row, whether it may be, and its place by its time: the program's, and the document's.
 Some answers that chapter 17 gives.
-/
import Derived.Test.YthhckdjagnlgpaaGreatUc
import Derived.Test.YthhckdjagnlgpaaGreatTi
import Derived.Laws.StructEq
import Derived.Test.YthhckdjagnlgpaaGreatAk
section
namespace Go.Proofs.YthhckdjagnlgpaaGreat
open Go.RowKit Go.IntWalk
set_option maxRecDepth 100000
attribute [local go_sem] Oper.semAt_some
theorem zero_sizeM (k : Nat) : (Builtin.zeroCells (Value.agg #[.int .i64 0, .int .i64 0, .int .i64 0, .int .i64 0, .string ByteArray.empty, .float .f64 0]).cells k).size = k * 6 := by
 rw [size_zeroCells]; rfl
def MadeM (w : World) (e : Ending) (w' : World) : Prop := ∃ A cap, e = .returned (.slice A 0 cap) ∧ w'.ownsRow w.heap.size 57 6 (.slice A 0 cap) 0 [] ∧ Below w.heap.size w w'
set_option maxHeartbeats 2000000 in
theorem mgrow_c (n : Nat) (hn : n ≤ 200000) (w : World) :
  Calls Tryz.prog 227 #[.slice none 0 0, .int .i64 (n : Int)] w (MadeM w) := by
 obtain ⟨i0, hi, hz0, hz1, hz2⟩ := info_parts Tryz.info57
 by_cases h0 : n = 0
 ·subst h0
  go_enter Tryz.func227, Tryz.ntmps227
  go_wp2
  go_ret
  exact ⟨none, 0, rfl, World.ownsRow_nil _ _ _ _, Below.refl _ _⟩
 ·have hrz : ∀ ty, (Builtin.append_ #[52, 3] ty #[.slice none 0 0, .int .i64 (n : Int)]).run Tryz.prog w = _ := fun ty =>
   Lib.run_append_nil_zeros w 52 3 ty 57 i0 _ .i64 .i64 Tryz.underlying52 Tryz.underlying3 hi hz0 n (by omega) (by omega) (by omega) (by rw [hz2]; omega)
  have hGn := grownCap_ge w n 0 57
  have hG63 := grownCap_le_maxLen w n 0 57 (by unfold maxLen; omega)
  have hown : (w.drew.alloc (.cells (Builtin.zeroCells (Value.agg #[.int .i64 0, .int .i64 0, .int .i64 0, .int .i64 0, .string ByteArray.empty, .float .f64 0]).cells n ++ Builtin.zeroCells (Value.agg #[.int .i64 0, .int .i64 0, .int .i64 0, .int .i64 0, .string ByteArray.empty, .float .f64 0]).cells (grownCap w n 0 57 - n)) 57)).ownsRow w.heap.size 57 6 (.slice (some ⟨w.heap.size, 0, none⟩) 0 (grownCap w n 0 57)) 0 [] :=
   World.ownsRow_made (base := w.heap.size) (e := 57) (size := 6) w.drew _ _ (Nat.le_refl _) hG63 (by rw [Array.size_append, zero_sizeM, zero_sizeM]; omega)
  obtain ⟨G, hG⟩ : ∃ G, G = grownCap w n 0 57 := ⟨_, rfl⟩
  rw [← hG] at hrz hGn hown hG63
  unfold maxLen at hG63
  have h1 : ¬ ((n : Int) < 0) := by omega
  have h4 : (n : Int) > 0 := by omega
  have HOWN := Lib.hid hown
  clear hG hown
  go_enter Tryz.func227, Tryz.ntmps227
  go_wp2_with (at_builtin; refine Lib.wpList_append_run _ rfl _ _ _ _ rfl _ _ rfl rfl _ _ (hrz _) ?_)
  go_ret
  exact ⟨_, _, rfl, HOWN.out, ((Below.refl _ _).drew.alloc (Nat.le_refl _) _)⟩
theorem made6 (B : Nat) (W : World) (h : B ≤ W.heap.size) : (W.alloc (.cells #[] 57)).ownsRow B 57 6 (.slice (some ⟨W.heap.size, 0, none⟩) 0 0) 0 [] :=
 World.ownsRow_made (base := B) (e := 57) (size := 6) W #[] 0 h (by unfold maxLen; omega) rfl
/-- a new row of the call's own that holds l -/
def FreshM (l : List Mv) (w : World) (e : Ending) (w' : World) : Prop :=
 ∃ A cap, e = .returned (.slice A l.length cap) ∧ w'.ownsRow w.heap.size 57 6 (.slice A l.length cap) l.length (mvs l) ∧ Below w.heap.size w w'
/-- slices of rows as cells -/
def lvm (L : List (Option Addr × Nat × List Mv)) : List Value := L.map fun x => .slice x.1 x.2.2.length x.2.1
theorem lvm_at {L : List (Option Addr × Nat × List Mv)} {k : Nat} {x : Option Addr × Nat × List Mv} (h : L[k]? = some x) : (lvm L)[k]? = some (.slice x.1 x.2.2.length x.2.1) := by simp [lvm, h]
def flatM (L : List (Option Addr × Nat × List Mv)) : List Mv := L.flatMap fun x => x.2.2
theorem flatM_take {L : List (Option Addr × Nat × List Mv)} {k : Nat} {x : Option Addr × Nat × List Mv} (h : L[k]? = some x) : flatM (L.take (k + 1)) = flatM (L.take k) ++ x.2.2 := by
 unfold flatM
 rw [List.take_add_one, h, List.flatMap_append]
 simp
theorem flatM_pre (L : List (Option Addr × Nat × List Mv)) (k : Nat) : (flatM (L.take k)).length ≤ (flatM L).length := by
 have h : flatM L = flatM (L.take k) ++ flatM (L.drop k) := by unfold flatM; rw [← List.flatMap_append, List.take_append_drop]
 rw [h, List.length_append]
 omega
/-- append of rows that came in, or of none -/
theorem append_optM (w : World) {ops : Array Oper} {rest : List Oper} {o : Oper} {a : Act} {Q : Exit → Act → World → Prop}
  (hg : o.guard = none) (s x : Operand) (hop : o.op = Op.call { callee := Callee.builtin Builtin.append, args := #[s, x], argTypes := #[52, 52] })
  (base : Nat) (v : Value) (k : Nat) (us : List Mv) (hs : a.eval s = v) (hown : w.ownsRow base 57 6 v k (mvs us)) (A : Option Addr) (c : Nat) (vs : List Mv) (hx : a.eval x = .slice A vs.length c) (hn : A = none → c = 0) (hvl : vs.length ≤ c)
  (B : Nat) (hc : At w B A (mvs vs)) (hlen : k + vs.length ≤ 200000) (b3 : base ≤ w.heap.size)
  (hK : ∀ v' w', w'.ownsRow base 57 6 v' (k + vs.length) (mvs (us ++ vs)) → w.grownBy w' v.ownBlock → wpList Tryz.prog ops Q rest (a.put o.dst v') w') :
  wpList Tryz.prog ops Q (o :: rest) a w := by
 obtain ⟨i0, hi, hz0, hz1, hz2⟩ := info_parts Tryz.info57
 rcases A with _ | ⟨b, off, spot⟩
 ·obtain rfl : c = 0 := hn rfl
  obtain rfl : vs = [] := List.eq_nil_of_length_eq_zero (by omega)
  exact wpList_append_own_none hg s x _ hop base _ i0 6 Tryz.underlying52 hi v k (mvs us) hs hown hx (hK v w (by simpa using hown) (World.grownBy.refl w _))
 ·by_cases hv : vs = []
  ·subst hv
   refine wpList_append_own w hg s x _ hop base _ i0 _ 6 56 Tryz.underlying52 hi hz0 hz1 hz2 rfl (by decide) v k (mvs us) hs hown ⟨b, off, spot⟩ 0 c [] hx rfl (fun j u hu => by simp at hu) (fun u hu => by simp at hu) (by unfold maxLen; simp at hlen; omega) (by simp at hlen; omega) b3 ?_
   intro v' w' h1 h2 _
   exact hK v' w' (by simpa using h1) h2
  ·obtain ⟨y, ys, rfl⟩ : ∃ y ys, vs = y :: ys := by cases vs with | nil => exact absurd rfl hv | cons y ys => exact ⟨y, ys, rfl⟩
   obtain ⟨b', off', e, _, _⟩ := hc 0 _ rfl
   cases e
   refine wpList_append_own w hg s x _ hop base _ i0 _ 6 56 Tryz.underlying52 hi hz0 hz1 hz2 rfl (by decide) v k (mvs us) hs hown ⟨b, off, none⟩ (y :: ys).length c (mvs (y :: ys)) hx (mvs_len _) (at_news hc) (mvs_one _) (by unfold maxLen; omega) (by omega) b3 ?_
   intro v' w' h1 h2 _
   exact hK v' w' (by rw [mvs_append]; exact h1) h2
set_option maxHeartbeats 4000000 in
theorem mconcat_c (L : List (Option Addr × Nat × List Mv)) (G o cap : Nat) (hL : L.length ≤ 1000) (hF : (flatM L).length ≤ 200000) (w : World) (hc : At w w.heap.size (some ⟨G, o, none⟩) (lvm L)) (hcs : ∀ x ∈ L, At w w.heap.size x.1 (mvs x.2.2) ∧ (x.1 = none → x.2.1 = 0) ∧ x.2.2.length ≤ x.2.1) :
  Calls Tryz.prog 204 #[.slice (some ⟨G, o, none⟩) L.length cap] w (FreshM (flatM L) w) := by
 obtain ⟨i0, hi, hz0, hz1, hz2⟩ := info_parts Tryz.info57
 obtain ⟨N, hN⟩ : ∃ N, N = flatM L := ⟨_, rfl⟩
 rw [← hN] at hF ⊢
 have HN := Lib.hid hN
 have HC := Lib.hid hc
 have HCS := Lib.hid hcs
 have HPRE := Lib.hid (flatM_pre L)
 clear hN hc hcs
 go_enter Tryz.func204, Tryz.ntmps204
 go_wp2_with fail
 go_loopw [3, 11] (fun s i wr => ∃ k : Nat, i = .int .i64 (k : Int) ∧ k ≤ L.length ∧ s = .int .i64 ((flatM (L.take k)).length : Int) ∧ wr = w) (fun _ i _ => L.length - (intOf i).toNat)
 case atStart => exact ⟨0, rfl, Nat.zero_le _, rfl, rfl⟩
 case round =>
  obtain ⟨k, rfl, hk, rfl, hwr⟩ := hrel
  have hwr2 := hwr.symm
  subst hwr2
  by_cases hlt : k < L.length
  ·obtain ⟨x, hx⟩ := some_at hlt
   obtain ⟨A1, c1, l1⟩ := x
   obtain ⟨b0, o0, e0, hb0, c0⟩ := HC.out k _ (lvm_at hx)
   cases e0
   have hft := flatM_take hx
   have hp := HPRE.out (k + 1)
   rw [hft, ← HN.out, List.length_append] at hp
   simp only at hp c0
   have HFT := Lib.hid hft
   clear hx hft
   go_wp2_with fail
   go_roundw
   case rel => exact ⟨k + 1, by go_num, by omega, by rw [HFT.out, List.length_append]; go_num, by first | rfl | trivial⟩
   case measure => simp only [intOf]; omega
  ·obtain rfl : k = L.length := by omega
   rw [List.take_length, ← HN.out]
   go_wp2_with fail
   refine (mgrow_c N.length (by omega) _).mono ?_
   rintro e w1 ⟨A0, k0, rfl, hown0, hb0⟩
   go_wp2_with fail
   go_loopw [6, 27] (fun s i w2 => ∃ (k : Nat) (A : Option Addr) (cp : Nat), i = .int .i64 (k : Int) ∧ k ≤ L.length ∧ s = .slice A (flatM (L.take k)).length cp ∧ w2.ownsRow w.heap.size 57 6 (.slice A (flatM (L.take k)).length cp) (flatM (L.take k)).length (mvs (flatM (L.take k))) ∧ Below w.heap.size w w2) (fun _ i _ => L.length - (intOf i).toNat)
   case atStart => exact ⟨0, A0, k0, rfl, Nat.zero_le _, rfl, hown0, hb0⟩
   case round =>
    clear hown0 hb0
    obtain ⟨k, A, cp, rfl, hk, rfl, hown, hb⟩ := hrel
    by_cases hlt : k < L.length
    ·obtain ⟨x, hx⟩ := some_at hlt
     obtain ⟨h1, h2, h3⟩ := HCS.out x (mem_at hx)
     obtain ⟨A1, c1, l1⟩ := x
     obtain ⟨b0, o0, e0, hb0, c0⟩ := (HC.out.below hb) k _ (lvm_at hx)
     cases e0
     have hft := flatM_take hx
     have hp := HPRE.out (k + 1)
     rw [hft, ← HN.out, List.length_append] at hp
     simp only at hp c0 h1 h2 h3
     have HFT := Lib.hid hft
     have H1 := Lib.hid h1
     have H2 := Lib.hid h2
     clear hx hft h1 h2
     go_wp2_with (at_builtin; refine append_optM _ rfl _ _ rfl w.heap.size _ _ _ rfl hown A1 c1 l1 rfl H2.out h3 w.heap.size (H1.out.below hb) (by omega) hb.size ?_)
     intro v' w3 hown' hgrow
     have hb3 := below_own hb hb.size hown hgrow
     obtain ⟨A', cap', rfl, -, -, -⟩ := own_at hown'
     have H3 := Lib.hid hown'
     clear hown hown' hgrow hb
     go_wp2_with fail
     go_roundw
     case rel =>
      refine ⟨k + 1, A', cap', by go_num, by omega, ?_, ?_, hb3⟩
      ·rw [HFT.out, List.length_append]
      ·rw [HFT.out, List.length_append]; exact H3.out
     case measure => simp only [intOf]; omega
    ·obtain rfl : k = L.length := by omega
     have HO := Lib.hid hown
     clear hown
     go_wp2_with fail
     go_ret
     have h := HO.out
     rw [List.take_length, ← HN.out] at h ⊢
     exact ⟨A, cp, rfl, h, hb⟩
/-- slices.Concat of parts that are written out -/
theorem mconcat_k {vals : List Value} {G cap n : Nat} {N : List Mv} (L : List (Option Addr × Nat × List Mv)) (hn : n = L.length) (hv : vals = lvm L) (hN : flatM L = N) (hL : L.length ≤ 1000) (hF : N.length ≤ 200000) {w : World} (hc : At w w.heap.size (some ⟨G, 0, none⟩) vals) (hcs : ∀ x ∈ L, At w w.heap.size x.1 (mvs x.2.2) ∧ (x.1 = none → x.2.1 = 0) ∧ x.2.2.length ≤ x.2.1) :
  Calls Tryz.prog 204 #[.slice (some ⟨G, 0, none⟩) n cap] w (FreshM N w) := by
 subst hn hv hN
 exact mconcat_c L G 0 cap hL hF w hc hcs
theorem at_takeM {w : World} {B b o : Nat} {l : List Mv} (h : At w B (some ⟨b, o, none⟩) (mvs l)) (j : Nat) : At w B (some ⟨b, o, none⟩) (mvs (l.take j)) := by rw [mvs_take]; exact h.take _
theorem at_dropM {w : World} {B b o : Nat} {l : List Mv} (h : At w B (some ⟨b, o, none⟩) (mvs l)) (j : Nat) : At w B (some ⟨b, o + j * 6, none⟩) (mvs (l.drop j)) := by rw [mvs_drop]; exact h.drop _
/-- rows that are told: they lie somewhere below the heap's end -/
def ToldM (l : List Mv) (w : World) (e : Ending) (w' : World) : Prop :=
 ∃ A cap, e = .returned (.slice A l.length cap) ∧ At w' w'.heap.size A (mvs l) ∧ (A = none → cap = 0) ∧ l.length ≤ cap ∧ Below w.heap.size w w'
theorem own_toldM {w w' : World} {B : Nat} {l : List Mv} {v : Value} (h : w'.ownsRow B 57 6 v l.length (mvs l)) (hb : Below w.heap.size w w') : ToldM l w (.returned v) w' := by
 obtain ⟨A, cap, rfl, ha, hf, hc⟩ := own_at h
 refine ⟨A, cap, rfl, ha, fun hA => ?_, hc, hb⟩
 subst hA
 rcases h.2 with ⟨hz, _⟩ | ⟨g, c2, cur, hv, _⟩
 ·exact (Value.slice.inj hz).2.2
 ·cases hv
theorem made0M (B : Nat) (W : World) (h : B ≤ W.heap.size) : (W.alloc (.cells #[] 57)).ownsRow B 57 6 (.slice (some ⟨W.heap.size, 0, none⟩) 0 0) 0 (mvs []) :=
 World.ownsRow_made (base := B) (e := 57) (size := 6) W #[] 0 h (by unfold maxLen; omega) rfl
end Go.Proofs.YthhckdjagnlgpaaGreat
end
section
namespace Go.Proofs.YthhckdjagnlgpaaGreat
open Go.RowKit Go.IntWalk
open Wd Fl
set_option maxRecDepth 100000
attribute [local go_sem] Oper.semAt_some
theorem time_under : Tryz.prog.underlying 51 = some (.struct (Tryz.prog.fieldsOf 51)) := by kernel_rfl
theorem time_stood : Tryz.prog.stoodInHeld 51 = false := by kernel_rfl
theorem time_guard : Tryz.prog.eqGuardType Tryz.prog.depth 51 = false := by kernel_rfl
theorem eql_times (a b c d : Int) (w : World) : (binOp .eql 51 (.agg #[.int .i64 a, .int .i64 b]) (.agg #[.int .i64 c, .int .i64 d])).run Tryz.prog w = .ok (.bool (decide (c = a) && decide (d = b))) w := by
 rw [run_eql_struct, show (10000 : Nat) = 9999 + 1 from rfl, run_equalIn_agg w 9999 _ _ _ time_under time_stood]
 simp only [Program.fieldsOf, Tryz.underlying51]
 simp [Op.eqFields, go_sem, run_equalIn_int _ 9998 _ _ _ _ _ Tryz.underlying3]
 by_cases h1 : a = c <;> by_cases h2 : b = d <;> simp [h1, h2, eq_comm]
attribute [-go_sem] run_eql_struct
theorem mrow_c (m : Mv) (w : World) :
  Calls Tryz.prog 201 #[mv m] w fun e w' => e = .returned (rv (mw m)) ∧ Below w.heap.size w w' := by
 obtain ⟨c, r, k, p, n, f⟩ := m
 show Calls Tryz.prog 201 #[.agg #[.int .i64 c, .int .i64 r, .int .i64 p, .int .i64 k, .string (ba n), .float .f64 f]] w fun e w' => e = .returned (.agg #[.int .i64 k, .int .i64 p, .string (ba n), .float .f64 f]) ∧ _
 go_enter Tryz.func201, Tryz.ntmps201
 go_wp2
 refine bodyPost_ret (v := .agg #[.int .i64 k, .int .i64 p, .string (ba n), .float .f64 f]) (by simp [results, Tryz.f201, go_sem]) rfl ?_
 exact ⟨rfl, by go_grown⟩
theorem rmrow_c (m : Mv) (w : World) :
  Calls Tryz.prog 119 #[mv m] w fun e w' => e = .returned (rv (mw m)) ∧ Below w.heap.size w w' := by
 obtain ⟨c, r, k, p, n, f⟩ := m
 show Calls Tryz.prog 119 #[.agg #[.int .i64 c, .int .i64 r, .int .i64 p, .int .i64 k, .string (ba n), .float .f64 f]] w fun e w' => e = .returned (.agg #[.int .i64 k, .int .i64 p, .string (ba n), .float .f64 f]) ∧ _
 go_enter Tryz.func119, Tryz.ntmps119
 go_wp2
 refine bodyPost_ret (v := .agg #[.int .i64 k, .int .i64 p, .string (ba n), .float .f64 f]) (by simp [results, Tryz.f119, go_sem]) rfl ?_
 exact ⟨rfl, by go_grown⟩
def isT (c r : Int) (m : Mv) : Bool := decide (mc m = c) && decide (mr m = r)
theorem mis_c (c r : Int) (m : Mv) (w : World) :
  Calls Tryz.prog 203 #[.agg #[.int .i64 c, .int .i64 r], mv m] w fun e w' => e = .returned (.bool (isT c r m)) ∧ Below w.heap.size w w' := by
 obtain ⟨c2, r2, k, p, n, f⟩ := m
 show Calls Tryz.prog 203 #[.agg #[.int .i64 c, .int .i64 r], .agg #[.int .i64 c2, .int .i64 r2, .int .i64 p, .int .i64 k, .string (ba n), .float .f64 f]] w fun e w' => e = .returned (.bool (decide (c2 = c) && decide (r2 = r))) ∧ _
 have hq := fun w => eql_times c r c2 r2 w
 obtain ⟨q, hqq⟩ : ∃ q, (decide (c2 = c) && decide (r2 = r)) = q := ⟨_, rfl⟩
 rw [hqq] at hq ⊢
 clear hqq
 have hg := time_guard
 go_enter Tryz.func203, Tryz.ntmps203
 go_wp2
 go_ret
 exact ⟨rfl, by go_grown⟩
theorem mbefore_c (c r : Int) (m : Mv) (w : World) :
  Calls Tryz.prog 153 #[.agg #[.int .i64 c, .int .i64 r], mv m] w fun e w' => e = .returned (.bool (befM c r m)) ∧ Below w.heap.size w w' := by
 obtain ⟨c2, r2, k, p, n, f⟩ := m
 show Calls Tryz.prog 153 #[.agg #[.int .i64 c, .int .i64 r], .agg #[.int .i64 c2, .int .i64 r2, .int .i64 p, .int .i64 k, .string (ba n), .float .f64 f]] w fun e w' => e = .returned (.bool (befT c r c2 r2)) ∧ _
 have hb := ((Below.refl w.heap.size w).alloc (Nat.le_refl _) (.cells #[.int .i64 c, .int .i64 r] 150)).alloc (by simp) (.cells #[.int .i64 c2, .int .i64 r2, .int .i64 p, .int .i64 k, .string (ba n), .float .f64 f] 57)
 go_enter Tryz.func153, Tryz.ntmps153
 go_wp2_with fail
 refine (bef_c c r c2 r2 _).mono ?_
 rintro e w1 ⟨rfl, hb1⟩
 go_wp2_with fail
 go_ret
 exact ⟨rfl, hb.trans (hb1.mono hb.size)⟩
/-- a way of standing that was handed on, asked of a move -/
theorem mfirstF_c (g : Nat) (p : Mv → Bool) (c r : Int) (S T : Nat) (eg : ∀ args w, (callFunc g args).run Tryz.prog w = .ok (.enter g args) w)
  (hp : ∀ (m : Mv) (w : World), Calls Tryz.prog g #[.agg #[.int .i64 c, .int .i64 r], mv m] w fun e w' => e = .returned (.bool (p m)) ∧ Below w.heap.size w w') (m : Mv) (w : World)
  (h0 : w.cell? ⟨S, 0, none⟩ = some (.func (.func g) #[] #[])) (h1 : w.cell? ⟨T, 0, none⟩ = some (.int .i64 c)) (h2 : w.cell? ⟨T, 1, none⟩ = some (.int .i64 r)) :
  Calls Tryz.prog 226 #[mv m, .pointer (some ⟨S, 0, none⟩), .pointer (some ⟨T, 0, none⟩)] w fun e w' => e = .returned (.bool (p m)) ∧ Below w.heap.size w w' := by
 have HP := Lib.hid hp
 clear hp
 have hb := (Below.refl w.heap.size w).alloc (Nat.le_refl _) (.cells (mcs m).toArray 57)
 have k0 := keep_cell hb h0
 have k1 := keep_cell hb h1
 have k2 := keep_cell hb h2
 unfold mcs at hb k0 k1 k2
 show Calls Tryz.prog 226 #[.agg #[.int .i64 (mc m), .int .i64 (mr m), .int .i64 (pa (mw m)), .int .i64 (ch (mw m)), .string (ba (nm (mw m))), .float .f64 (rk (mw m))], .pointer (some ⟨S, 0, none⟩), .pointer (some ⟨T, 0, none⟩)] w _
 have hcall := fun W => HP.out m W
 unfold mv at hcall
 have HCALL := Lib.hid hcall
 clear hcall
 go_enter Tryz.func226, Tryz.ntmps226
 go_wp2_with (go_at_fn g; refine (HCALL.out _).mono ?_; rintro e w1 ⟨rfl, hb1⟩)
 go_ret
 exact ⟨rfl, hb.trans (hb1.mono hb.size)⟩
theorem mfirst_c (g : Nat) (p : Mv → Bool) (c r : Int) (eg : ∀ args w, (callFunc g args).run Tryz.prog w = .ok (.enter g args) w)
  (hp : ∀ (m : Mv) (w : World), Calls Tryz.prog g #[.agg #[.int .i64 c, .int .i64 r], mv m] w fun e w' => e = .returned (.bool (p m)) ∧ Below w.heap.size w w')
  (A : Option Addr) (cap : Nat) (l : List Mv) (hl : l.length ≤ maxLen) (w : World) (hc : At w w.heap.size A (mvs l)) :
  Calls Tryz.prog 202 #[.slice A l.length cap, .agg #[.int .i64 c, .int .i64 r], .func (.func g) #[] #[]] w fun e w' => e = .returned (.int .i64 (idxM p l)) ∧ Below w.heap.size w w' := by
 have hb := ((Below.refl w.heap.size w).alloc (Nat.le_refl _) (.cells #[.int .i64 c, .int .i64 r] 51)).alloc (by simp) (.cells #[.func (.func g) #[] #[]] 190)
 have hcw := hc.keep hb
 have hmf : ∀ (fn : Fn) (first cap : Array Value) (w : World), (Instr.makeFunc fn first cap).run Tryz.prog w = .ok (.func fn first cap) w := fun _ _ _ _ => rfl
 have hpred : PredM 226 #[.pointer (some ⟨w.heap.size + 1, 0, none⟩), .pointer (some ⟨w.heap.size, 0, none⟩)] p ((w.alloc (.cells #[.int .i64 c, .int .i64 r] 51)).alloc (.cells #[.func (.func g) #[] #[]] 190)) l := by
  intro W m hW _
  have t0 : ((w.alloc (.cells #[.int .i64 c, .int .i64 r] 51)).alloc (.cells #[.func (.func g) #[] #[]] 190)).cell? ⟨w.heap.size + 1, 0, none⟩ = some (.func (.func g) #[] #[]) := by
   rw [World.cell?_alloc_at _ _ _ _ (by simp)]; rfl
  have t1 : ∀ i v, #[Value.int .i64 c, Value.int .i64 r][i]? = some v → ((w.alloc (.cells #[.int .i64 c, .int .i64 r] 51)).alloc (.cells #[.func (.func g) #[] #[]] 190)).cell? ⟨w.heap.size, i, none⟩ = some v := fun i v hv => by
   rw [World.cell?_alloc_past _ _ _ (by simp), World.cell?_alloc_at _ _ _ _ rfl]; exact hv
  exact mfirstF_c g p c r _ _ eg hp m W (keep_cell hW t0) (keep_cell hW (t1 0 _ rfl)) (keep_cell hW (t1 1 _ rfl))
 have HPRED := Lib.hid hpred
 have HC := Lib.hid hcw
 have HL := Lib.hid hl
 clear hpred hcw hc hl hp
 go_enter Tryz.func202, Tryz.ntmps202
 go_wp2_with fail
 refine (mindexFunc_c A cap l _ _ p HL.out (enters_of Tryz.func226 (by kernel_rfl) rfl) _ HC.out HPRED.out).mono ?_
 rintro e w1 ⟨rfl, hb1⟩
 go_wp2_with fail
 go_ret
 exact ⟨rfl, hb.trans (hb1.mono hb.size)⟩
theorem mfirst_is (c r x : Int) (A : Option Addr) (cap : Nat) (l : List Mv) (hx : idxM (isT c r) l = x) (hl : l.length ≤ maxLen) (w : World) (hc : At w w.heap.size A (mvs l)) :
  Calls Tryz.prog 202 #[.slice A l.length cap, .agg #[.int .i64 c, .int .i64 r], .func (.func 203) #[] #[]] w fun e w' => e = .returned (.int .i64 x) ∧ Below w.heap.size w w' := by
 subst hx
 exact mfirst_c _ _ c r (enters_of Tryz.func203 (by kernel_rfl) rfl) (fun m w => mis_c c r m w) A cap l hl w hc
theorem mfirst_bef (c r x : Int) (A : Option Addr) (cap : Nat) (l : List Mv) (hx : idxM (befM c r) l = x) (hl : l.length ≤ maxLen) (w : World) (hc : At w w.heap.size A (mvs l)) :
  Calls Tryz.prog 202 #[.slice A l.length cap, .agg #[.int .i64 c, .int .i64 r], .func (.func 153) #[] #[]] w fun e w' => e = .returned (.int .i64 x) ∧ Below w.heap.size w w' := by
 subst hx
 exact mfirst_c _ _ c r (enters_of Tryz.func153 (by kernel_rfl) rfl) (fun m w => mbefore_c c r m w) A cap l hl w hc
theorem box6 {w : World} {G : Nat} {m : Mv} (h : Is w G 57 [.int .i64 (mc m), .int .i64 (mr m), .int .i64 (pa (mw m)), .int .i64 (ch (mw m)), .string (ba (nm (mw m))), .float .f64 (rk (mw m))]) :
  w.cell? ⟨G, 0, none⟩ = some (.int .i64 (mc m)) ∧ w.cell? ⟨G, 1, none⟩ = some (.int .i64 (mr m)) ∧ w.cell? ⟨G, 2, none⟩ = some (.int .i64 (pa (mw m))) ∧ w.cell? ⟨G, 3, none⟩ = some (.int .i64 (ch (mw m))) ∧ w.cell? ⟨G, 4, none⟩ = some (.string (ba (nm (mw m)))) ∧ w.cell? ⟨G, 5, none⟩ = some (.float .f64 (rk (mw m))) :=
 ⟨is_cell h 0, is_cell h 1, is_cell h 2, is_cell h 3, is_cell h 4, is_cell h 5⟩
end Go.Proofs.YthhckdjagnlgpaaGreat
end
section
namespace Go.Proofs.YthhckdjagnlgpaaGreat
open Go.RowKit Go.IntWalk
set_option maxRecDepth 100000
attribute [local go_sem] Oper.semAt_some
attribute [-go_sem] run_eql_struct
attribute [local go_sem] time_guard eql_times
theorem kbelow_k {A1 A2 : Option Addr} {c1 c2 : Nat} {a b : List Mk} {q : Bool} (h : belowK a b = q) (ha : a.length ≤ 100000) (hb : b.length ≤ 100000) {w : World} (k1 : At w w.heap.size A1 (kvs a)) (k2 : At w w.heap.size A2 (kvs b)) :
  Calls Tryz.prog 60 #[.slice A1 a.length c1, .slice A2 b.length c2] w fun e w' => e = .returned (.bool q) ∧ Below w.heap.size w w' := by
 subst h; exact kbelow_c A1 A2 c1 c2 a b (by unfold maxLen; omega) (by unfold maxLen; omega) w k1 k2
theorem kmay_k {A : Option Addr} {cap : Nat} {l : List Mk} {q : Bool} (h : mayK l = q) (hl : l.length ≤ 100000) {w : World} (hc : At w w.heap.size A (kvs l)) :
  Calls Tryz.prog 106 #[.slice A l.length cap] w fun e w' => e = .returned (.bool q) ∧ Below w.heap.size w w' := by
 subst h; exact kmay_c A cap l (by unfold maxLen; omega) w hc
theorem same17_k {A1 A2 : Option Addr} {c1 c2 : Nat} {xs ys : List Mk} {q : Bool} (h : decide (xs = ys) = q) (hx : xs.length ≤ 100000) (hy : ys.length ≤ 100000) {w : World} (h1 : At w w.heap.size A1 (kvs xs)) (h2 : At w w.heap.size A2 (kvs ys)) :
  Calls Tryz.prog 61 #[.slice A1 xs.length c1, .slice A2 ys.length c2] w fun e w' => e = .returned (.bool q) ∧ Below w.heap.size w w' := by
 subst h; exact same17_c A1 A2 c1 c2 xs ys (by unfold maxLen; omega) (by unfold maxLen; omega) w h1 h2
end Go.Proofs.YthhckdjagnlgpaaGreat
end
