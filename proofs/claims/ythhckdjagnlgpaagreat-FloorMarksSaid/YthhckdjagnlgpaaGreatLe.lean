/-
  The walk of FloorMarks.
  The program's marks know all moves that came, and nothing else raises them: for all replicas, moves and times, without condition (beyond the statement's bounds it asks nothing but the document's examples).
-/
import Derived.Test.YthhckdjagnlgpaaGreatWx
import Derived.Test.YthhckdjagnlgpaaGreatVy
import Derived.ProofKit
import Derived.OpenShut
import Derived.ShutString
import Derived.ChangeOld
section
namespace Go.Proofs.YthhckdjagnlgpaaGreat
open Go.RowKit Go.IntWalk
open Gr
set_option maxRecDepth 100000
attribute [local go_sem] Oper.semAt_some
/-- FloorMarks under way: k moves came, tk of them were taken -/
structure TkSt (wm : World) (p : Pl) (r : Rp) (k : Nat) (pq : Pl) (a : Rp) (tk : List Mv) (v : Value) (W : World) : Prop where
 ik : Is W wm.heap.size 55 [.slice pq.A1 a.B.length pq.c1, .int .i64 a.fc, .int .i64 a.fr, .slice pq.A2 a.L.length pq.c2, .slice pq.A3 a.V.length pq.c3]
 eb : pq.A1 = p.A1 ∧ a.B = r.B
 al : At W W.heap.size pq.A2 (mvs a.L)
 av : At W W.heap.size pq.A3 (kvs a.V)
 pl : RpPl pq a
 sz : Sz a (120 + k)
 took : Took r a tk
 one : ∀ m ∈ tk, oneM m = true
 ml : Moves_ tk
 len : tk.length ≤ k
 offK : kvs a.V = [] ∨ ∀ ad, pq.A3 = some ad → ad.block ≠ wm.heap.size
 offL : mvs a.L = [] ∨ ∀ ad, pq.A2 = some ad → v.ownBlock ≠ some ad.block
 offV : kvs a.V = [] ∨ ∀ ad, pq.A3 = some ad → v.ownBlock ≠ some ad.block
 own : W.ownsRow (wm.heap.size + 1) 57 6 v tk.length (mvs tk)
 bel : Below wm.heap.size wm W
theorem tk_step {r a a2 : Rp} {tk : List Mv} {m : Mv} {b : Bool} {x : Int} (h : Took r a tk) (hl : a.L.length < 2000) (e : addF a m = (a2, b, x)) : (x = 0 → Took r a2 (tk ++ [m]) ∧ oneM m = true) ∧ (¬ x = 0 → Took r a2 tk) := by
 rw [addF_may h.may] at e
 refine ⟨fun hx => ⟨?_, ?_⟩, fun hx => ?_⟩
 ·have := took_yes h (m := m) (by rw [e]; exact hx) hl
  rw [e] at this; exact this
 ·rcases add_cases a m with ⟨_, f⟩ | ⟨_, _, f⟩ | ⟨e1, _, _, f⟩ | ⟨e1, _, _, f⟩
  ·rw [e] at f; cases f; exact absurd hx (by decide)
  ·rw [e] at f; cases f; exact absurd hx (by decide)
  ·exact e1
  ·exact e1
 ·have := took_no h (m := m) (by rw [e]; exact hx)
  rw [e] at this; exact this
theorem kOf_v {A : Option Addr} {cap : Nat} {l : List Mv} {O : List Mk} (h : ofK l = O) (hl : l.length ≤ 40000) {w : World} (hc : At w w.heap.size A (mvs l)) :
  Calls Tryz.prog 64 #[.slice A l.length cap] w (FreshK O w) := by
 subst h; exact kof_c A cap l hl w hc
theorem same17_s {A1 A2 : Option Addr} {c1 c2 : Nat} {xs ys : List Mk} (e : xs = ys) (hx : xs.length ≤ 100000) {w : World} (h1 : At w w.heap.size A1 (kvs xs)) (h2 : At w w.heap.size A2 (kvs ys)) :
  Calls Tryz.prog 61 #[.slice A1 xs.length c1, .slice A2 ys.length c2] w fun e w' => e = .returned (.bool true) ∧ Below w.heap.size w w' := by
 subst e; exact same17_k (decide_eq_true rfl) hx hx h1 h2
namespace floorMarks
set_option maxHeartbeats 16000000 in
theorem walk (p : Pl) (r : Rp) (pl : RpPl p r) (hlen : r.B.length ≤ maxLen ∧ r.L.length ≤ maxLen ∧ r.V.length ≤ maxLen) (rb : Rows_ r.B) (rl : Moves_ r.L) (A2 : Option Addr) (c2 : Nat) (l : List Mv) (hl : l.length ≤ maxLen) (lm : Moves_ l) (c q : Int) (w : World) (ha : RpAt p r w) (hc : At w w.heap.size A2 (mvs l)) :
  Calls Tryz.prog 16 #[.agg #[.slice p.A1 r.B.length p.c1, .int .i64 r.fc, .int .i64 r.fr, .slice p.A2 r.L.length p.c2, .slice p.A3 r.V.length p.c3], .slice A2 l.length c2, .agg #[.int .i64 c, .int .i64 q]] w fun e w' => e = .returned (.bool true) ∧ Below w.heap.size w w' := by
 have S0 := Lib.hid (((Bed.start w).addP (p := p) (r := r) ha).addM (A := A2) (l := l) hc)
 obtain ⟨b0, hw⟩ : ∃ b0, b0 = w.alloc (.cells #[.slice p.A1 r.B.length p.c1, .int .i64 r.fc, .int .i64 r.fr, .slice p.A2 r.L.length p.c2, .slice p.A3 r.V.length p.c3] 55) := ⟨_, rfl⟩
 have hb : Below w.heap.size w b0 := by rw [hw]; exact (Below.refl _ _).alloc (Nat.le_refl _) _
 have hz0 : w.heap.size = w.heap.size := by rfl
 have S1 := Lib.hid ((S0.out.step hb).addB (g := w.heap.size) (t := 55) (vs := [.slice p.A1 r.B.length p.c1, .int .i64 r.fc, .int .i64 r.fr, .slice p.A2 r.L.length p.c2, .slice p.A3 r.V.length p.c3]) (by rw [hw, ← hz0]; exact is_new w 55 _))
 have HWb0 := Lib.hid hw
 clear hw hb
 obtain ⟨b1, hw⟩ : ∃ b1, b1 = b0.alloc (.cells #[.int .i64 c, .int .i64 q] 51) := ⟨_, rfl⟩
 have hb : Below b0.heap.size b0 b1 := by rw [hw]; exact (Below.refl _ _).alloc (Nat.le_refl _) _
 have hz1 : b0.heap.size = w.heap.size + 1 := by rw [HWb0.out, World.size_alloc, hz0]
 have S2 := Lib.hid ((S1.out.step hb).addB (g := w.heap.size + 1) (t := 51) (vs := [.int .i64 c, .int .i64 q]) (by rw [hw, ← hz1]; exact is_new b0 51 _))
 have HWb1 := Lib.hid hw
 clear hw hb
 clear hz0 hz1
 have PLr := Lib.hid pl
 have HLEN := Lib.hid hlen
 have HRB := Lib.hid rb
 have HRL := Lib.hid rl
 have HLM := Lib.hid lm
 have HL := Lib.hid hl
 clear pl hlen rb rl lm ha hc
 obtain ⟨f, hf⟩ : ∃ b, fewF r = b := ⟨_, rfl⟩
 have Hf := Lib.hid hf
 clear hf
 have hx := (S2.out.box (.tail _ (.head _)))
 rw [HWb1.out, HWb0.out] at hx
 obtain ⟨⟨q0, q1, q2, q3, q4⟩, -⟩ := cells5 hx
 clear hx
 obtain ⟨g, hg⟩ : ∃ b, fewM l 20 = b := ⟨_, rfl⟩
 have Hg := Lib.hid hg
 clear hg
 go_enter Tryz.func16, Tryz.ntmps16
 go_wp2_with fail
 rw [← HWb0.out, ← HWb1.out]
 refine (rffew_v Hf.out HLEN.out (S2.out.rep (.tail _ (.tail _ (.tail _ (.head _)))))).mono ?_
 rintro e w3 ⟨rfl, hb⟩
 have S3 := Lib.hid (S2.out.step hb)
 clear q0 q1 q2 q3 q4
 clear hb
 cases f with
 | false =>
  go_wp2_with fail
  refine (live18_c _).mono ?_
  rintro e w4 ⟨rfl, hb⟩
  have S4 := Lib.hid (S3.out.step hb)
  clear hb
  go_wp2_with fail
  go_ret
  exact ⟨rfl, S4.out.bel⟩
 | true =>
 have hx := (S3.out.box (.tail _ (.head _)))
 obtain ⟨⟨y1_0, y1_1, y1_2, y1_3, y1_4⟩, -⟩ := cells5 hx
 clear hx
 go_wp2_with fail
 refine (fewM_v (n := 20) Hg.out HL.out (by decide) (S3.out.moves (.tail _ (.tail _ (.head _))))).mono ?_
 rintro e w4 ⟨rfl, hw⟩
 have hb : Below w3.heap.size w3 w4 := hw ▸ Below.refl _ _
 clear hw
 have S4 := Lib.hid (S3.out.step hb)
 clear hb
 clear y1_0 y1_1 y1_2 y1_3 y1_4
 cases g with
 | false =>
  go_wp2_with fail
  refine (live18_c _).mono ?_
  rintro e w5 ⟨rfl, hb⟩
  have S5 := Lib.hid (S4.out.step hb)
  clear hb
  go_wp2_with fail
  go_ret
  exact ⟨rfl, S5.out.bel⟩
 | true =>
 have hl20 := (fewM_in Hg.out).1
 have HSZ := Lib.hid (sz_few Hf.out HRB.out HRL.out)
 obtain ⟨h, hh⟩ : ∃ b, mayF r = b := ⟨_, rfl⟩
 have Hh := Lib.hid hh
 clear hh
 have hx := (S4.out.box (.tail _ (.head _)))
 obtain ⟨⟨y2_0, y2_1, y2_2, y2_3, y2_4⟩, -⟩ := cells5 hx
 clear hx
 go_wp2_with fail
 refine (rfmay_v Hh.out (HSZ.out.ok (by omega)) (S4.out.rep (.tail _ (.tail _ (.tail _ (.head _)))))).mono ?_
 rintro e w5 ⟨rfl, hb⟩
 have S5 := Lib.hid (S4.out.step hb)
 clear y2_0 y2_1 y2_2 y2_3 y2_4
 clear hb
 cases h with
 | false =>
  go_wp2_with fail
  refine (live18_c _).mono ?_
  rintro e w6 ⟨rfl, hb⟩
  have S6 := Lib.hid (S5.out.step hb)
  clear hb
  go_wp2_with fail
  go_ret
  exact ⟨rfl, S6.out.bel⟩
 | true =>
 have HMR := Lib.hid (mayR_iff.1 Hh.out)
 have hx := (S5.out.box (.tail _ (.head _)))
 obtain ⟨⟨y3_0, y3_1, y3_2, y3_3, y3_4⟩, -⟩ := cells5 hx
 clear hx
 obtain ⟨wk, hwk⟩ : ∃ wk, wk = w5.alloc (.cells #[.slice p.A1 r.B.length p.c1, .int .i64 r.fc, .int .i64 r.fr, .slice p.A2 r.L.length p.c2, .slice p.A3 r.V.length p.c3] 55) := ⟨_, rfl⟩
 have hbk : Below w5.heap.size w5 wk := by rw [hwk]; exact (Below.refl _ _).alloc (Nat.le_refl _) _
 have HST := Lib.hid (show TkSt w5 p r 0 p r [] (.slice none 0 0) wk from ⟨by rw [hwk]; exact is_new w5 55 _, ⟨rfl, rfl⟩, ((S5.out.rep (.tail _ (.tail _ (.tail _ (.head _))))).keep hbk).l, ((S5.out.rep (.tail _ (.tail _ (.tail _ (.head _))))).keep hbk).v, PLr.out, HSZ.out.more (by omega), took_start HMR.out, (fun m hm => by cases hm), (fun m hm => by cases hm), Nat.le_refl _, marks_off (N := w5.heap.size + 1) (S5.out.rep (.tail _ (.tail _ (.tail _ (.head _))))).v (.inl ⟨rfl, rfl⟩) (by omega) (by omega), .inr (fun ad _ => by simp [Value.ownBlock]), .inr (fun ad _ => by simp [Value.ownBlock]), World.ownsRow_nil _ _ _ _, hbk⟩)
 have HWK := Lib.hid hwk
 clear hwk hbk
 go_wp2_with fail
 rw [← HWK.out]
 clear y3_0 y3_1 y3_2 y3_3 y3_4
 go_loopg [7, 9] l.length (fun g v i wr => ∃ (k : Nat) (pq : Pl) (a : Rp) (tk : List Mv), i = .int .i64 (k : Int) ∧ k + g = l.length ∧ TkSt w5 p r k pq a tk v wr)
 case atStart => exact ⟨0, p, r, [], rfl, by omega, HST.out⟩
 case round =>
  clear HST HWK
  obtain ⟨k, pq, a, tk, rfl, hk, hst⟩ := hrel
  obtain ⟨Av, cv, rfl, htkat, -, htkc⟩ := own_at hst.own
  have HR := Lib.hid hst
  have hszl := hst.sz.ll
  have hszv := hst.sz.v
  have hlen := hst.len
  have SR := Lib.hid (S5.out.step hst.bel)
  have HTA := Lib.hid htkat
  clear hst htkat
  by_cases hlt : k < l.length
  ·obtain ⟨m, hm⟩ := some_at hlt
   obtain ⟨b0, o0, e0, hb0, x0, x1, x2, x3, x4, x5⟩ := move_cells (SR.out.moves (.tail _ (.tail _ (.head _)))) hm
   subst e0
   have hk0 : (0 : Int) ≤ (k : Int) := by omega
   have hkl : (k : Int) < (l.length : Int) := by omega
   obtain ⟨o, ho⟩ : ∃ o, addF a m = o := ⟨_, rfl⟩
   obtain ⟨a2, b, x⟩ := o
   have HO := Lib.hid ho
   have HMM := Lib.hid (show MvOk m from HLM.out m (mem_at hm))
   have HSA := Lib.hid (show Sz a2 (120 + (k + 1)) by have := sz_add HR.out.sz HMM.out; rw [ho] at this; exact this.more (by omega))
   have HTS := Lib.hid (tk_step HR.out.took (by omega) ho)
   obtain ⟨⟨q0, q1, q2, q3, q4⟩, -⟩ := cells5 HR.out.ik
   have hKl := is_lt HR.out.ik
   have HAT := Lib.hid (show RpAt pq a wr from ⟨by rw [HR.out.eb.1, HR.out.eb.2]; exact (RpAt.b (SR.out.rep (.tail _ (.tail _ (.tail _ (.head _)))))), HR.out.al, HR.out.av⟩)
   have HX := Lib.hid hm
   clear ho hm
   go_upto_region 8 with fail
   go_cut [10, 11, 12] (fun s10 s11 s12 wx => ∃ (J : Nat) (p2 : Pl), s10 = .pointer (some ⟨J, 0, none⟩) ∧ s11 = .bool b ∧ s12 = .int .i64 x ∧ Put5 wr pq a p2 a2 J wx ∧ wr.heap.size ≤ J)
   case first =>
    go_region_with (go_at_call 44; refine (fAdd_w HO.out (HR.out.sz.ok (by omega)) HR.out.pl HMM.out (HAT.out.keep (by first | exact (Below.refl _ _).drew | exact ((Below.refl _ _).alloc (Nat.le_refl _) _).drew))).mono ?_; rintro e w5 ⟨p2, rfl, ha5, pl5, h15, h35, hb5, h25⟩; have H25 := Lib.hid h25; clear h25; have H15 := Lib.hid h15; clear h15; first | (have hz5 : Is w5 wr.heap.size 55 [.slice none 0 0, .int .i64 0, .int .i64 0, .slice none 0 0, .slice none 0 0] := is_below (w := (wr.alloc (.cells #[.slice none 0 0, .int .i64 0, .int .i64 0, .slice none 0 0, .slice none 0 0] 55)).drew) (is_new wr 55 [.slice none 0 0, .int .i64 0, .int .i64 0, .slice none 0 0, .slice none 0 0]) hb5 (Nat.lt_of_lt_of_eq (Nat.lt_succ_self _) (World.size_alloc _ _).symm); obtain ⟨⟨z0, z1, z2, z3, z4⟩, f0, f1, f2, f3, f4⟩ := cells5 hz5) | skip)
    all_goals (go_wp2_with fail; go_meet; first | exact ⟨_, p2, rfl, rfl, rfl, put5_late (Below.refl _ _).drew ha5 pl5 H15.out h35 hb5 H25.out, hb5.size⟩ | exact ⟨_, p2, rfl, rfl, rfl, put5_early (wq := (wr.alloc (.cells #[.slice none 0 0, .int .i64 0, .int .i64 0, .slice none 0 0, .slice none 0 0] 55)).drew) HAT.out ha5 pl5 H15.out (Nat.le_of_eq (World.size_alloc _ _).symm) h35 (((Below.refl _ _).alloc (Nat.le_refl _) _).drew) (is_new wr 55 [.slice none 0 0, .int .i64 0, .int .i64 0, .slice none 0 0, .slice none 0 0]) hb5 H25.out, Nat.le_refl _⟩)
   case rest =>
    obtain ⟨J, p2, rfl, rfl, rfl, hld, hJ⟩ := hcut
    have HLD := Lib.hid hld
    have hown := own_below HR.out.own hld.bel
    have hsw := hld.bel.size
    have HIK := Lib.hid (is_below HR.out.ik hld.bel (is_lt HR.out.ik))
    have HBW := Lib.hid (HR.out.bel.trans (hld.bel.mono HR.out.bel.size))
    have HOL : Hid (mvs a2.L = [] ∨ ∀ ad, p2.A2 = some ad → (Value.slice Av tk.length cv).ownBlock ≠ some ad.block) := Lib.hid (by
     rcases hld.l with ⟨e1, e2⟩ | h
     ·rw [e1, e2]; exact HR.out.offL
     ·exact .inr fun ad had => fun e => by have := h ad had; have := (HR.out.own.lt _ e).2; omega)
    have HOV : Hid (kvs a2.V = [] ∨ ∀ ad, p2.A3 = some ad → (Value.slice Av tk.length cv).ownBlock ≠ some ad.block) := Lib.hid (by
     rcases hld.v with ⟨e1, e2⟩ | h
     ·rw [e1, e2]; exact HR.out.offV
     ·exact .inr fun ad had => fun e => by have := h ad had; have := (HR.out.own.lt _ e).2; omega)
    have HOK : Hid (kvs a2.V = [] ∨ ∀ ad, p2.A3 = some ad → ad.block ≠ w5.heap.size) := Lib.hid (by
     rcases hld.v with ⟨e1, e2⟩ | h
     ·rw [e1, e2]; exact HR.out.offK
     ·exact .inr fun ad had => by have := h ad had; omega)
    have HJO : Hid ((Value.slice Av tk.length cv).ownBlock ≠ some J) := Lib.hid (fun e => by have := (HR.out.own.lt _ e).2; omega)
    have HKO : Hid ((Value.slice Av tk.length cv).ownBlock ≠ some w5.heap.size) := Lib.hid (fun e => by have := (HR.out.own.lt _ e).1; omega)
    have HEB : Hid (p2.A1 = p.A1 ∧ a2.B = r.B) := Lib.hid ⟨hld.b.1.trans HR.out.eb.1, hld.b.2.trans HR.out.eb.2⟩
    have HOWN := Lib.hid hown
    have HJ := Lib.hid hJ
    clear hld hown q0 q1 q2 q3 q4 x0 x1 x2 x3 x4 x5 hJ
    by_cases hx : x = 0
    ·subst hx
     have HT0 := Lib.hid (HTS.out.1 rfl)
     obtain ⟨b1, o1, e1, -, x0, x1, x2, x3, x4, x5⟩ := move_cells (Bed.moves (Bed.step S5.out HBW.out) (.tail _ (.tail _ (.head _)))) HX.out
     cases e1
     have hnl : (tk ++ [m]).length = tk.length + 1 := by rw [List.length_append]; rfl
     have hml : Moves_ (tk ++ [m]) := fun y hy => by
      rcases List.mem_append.1 hy with h | h
      ·exact HR.out.ml y h
      ·rw [List.mem_singleton.1 h]; exact HMM.out
     have hone : ∀ y ∈ tk ++ [m], oneM y = true := fun y hy => by
      rcases List.mem_append.1 hy with h | h
      ·exact HR.out.one y h
      ·rw [List.mem_singleton.1 h]; exact HT0.out.2
     have HML := Lib.hid hml
     have HONE := Lib.hid hone
     clear hml hone
     go_wp2_with (at_builtin; refine append_dichM _ rfl _ _ rfl (w5.heap.size + 1) _ _ _ rfl (HOWN.out.alloc (.cells #[.int .i64 (mc m), .int .i64 (mr m), .int .i64 (pa (mw m)), .int .i64 (ch (mw m)), .string (ba (nm (mw m))), .float .f64 (rk (mw m))] 57)) ⟨wc.heap.size, 0, none⟩ 1 m rfl (fun j u hu => by rw [add_head]; exact (is_cell (is_new wc 57 [.int .i64 (mc m), .int .i64 (mr m), .int .i64 (pa (mw m)), .int .i64 (ch (mw m)), .string (ba (nm (mw m))), .float .f64 (rk (mw m))]) j).trans hu) (by omega) (by rw [World.size_alloc]; omega) ?_)
     intro v2 w2 hown2 hgrow hdich
     have hbA : Below wc.heap.size wc (wc.alloc (.cells #[.int .i64 (mc m), .int .i64 (mr m), .int .i64 (pa (mw m)), .int .i64 (ch (mw m)), .string (ba (nm (mw m))), .float .f64 (rk (mw m))] 57)) := (Below.refl _ _).alloc (Nat.le_refl _) _
     have hIJ2 : Is w2 J 55 [.slice p2.A1 a2.B.length p2.c1, .int .i64 a2.fc, .int .i64 a2.fr, .slice p2.A2 a2.L.length p2.c2, .slice p2.A3 a2.V.length p2.c3] := is_grownF (is_below HLD.out.ij hbA (is_lt HLD.out.ij)) hgrow HJO.out
     have hIK2 : Is w2 w5.heap.size 55 [.slice pq.A1 a.B.length pq.c1, .int .i64 a.fc, .int .i64 a.fr, .slice pq.A2 a.L.length pq.c2, .slice pq.A3 a.V.length pq.c3] := is_grownF (is_below HIK.out hbA (is_lt HIK.out)) hgrow HKO.out
     have hAL2 : At w2 w2.heap.size p2.A2 (mvs a2.L) := at_grown (HLD.out.at_.l.keep hbA) hgrow HOL.out
     have hAV2 : At w2 w2.heap.size p2.A3 (kvs a2.V) := at_grown (HLD.out.at_.v.keep hbA) hgrow HOV.out
     have hB2 : Below w5.heap.size w5 w2 := below_grownF (HBW.out.alloc HBW.out.size (.cells #[.int .i64 (mc m), .int .i64 (mr m), .int .i64 (pa (mw m)), .int .i64 (ch (mw m)), .string (ba (nm (mw m))), .float .f64 (rk (mw m))] 57)) (by rw [World.size_alloc]; have := HBW.out.size; omega) hgrow (fun k e => by have := (HOWN.out.lt k e).1; omega)
     have hOL2 : mvs a2.L = [] ∨ ∀ ad, p2.A2 = some ad → v2.ownBlock ≠ some ad.block := by
      rcases hdich with e | e
      ·rw [e]; exact HOL.out
      ·rw [e]; have hz := at_notnew (HLD.out.at_.l.keep hbA); rw [World.size_alloc] at hz; exact hz
     have hOV2 : kvs a2.V = [] ∨ ∀ ad, p2.A3 = some ad → v2.ownBlock ≠ some ad.block := by
      rcases hdich with e | e
      ·rw [e]; exact HOV.out
      ·rw [e]; have hz := at_notnew (HLD.out.at_.v.keep hbA); rw [World.size_alloc] at hz; exact hz
     obtain ⟨Ax, cx, rfl, -, -, -⟩ := own_at hown2
     have HIJ2 := Lib.hid hIJ2
     have HIK2 := Lib.hid hIK2
     have HAL2 := Lib.hid hAL2
     have HAV2 := Lib.hid hAV2
     have HB2 := Lib.hid hB2
     have HOL2 := Lib.hid hOL2
     have HOV2 := Lib.hid hOV2
     have HO2 := Lib.hid hown2
     clear hown2 hgrow hdich hbA hIJ2 hIK2 hAL2 hAV2 hB2 hOL2 hOV2 x0 x1 x2 x3 x4 x5
     obtain ⟨⟨q0, q1, q2, q3, q4⟩, -⟩ := cells5 HIJ2.out
     obtain ⟨⟨z0, z1, z2, z3, z4⟩, f0, f1, f2, f3, f4⟩ := cells5 HIK2.out
     go_wp2_with fail
     clear q0 q1 q2 q3 q4 z0 z1 z2 z3 z4 f0 f1 f2 f3 f4
     obtain ⟨w7, hw7⟩ : ∃ w7, w7 = set5 w2 w5.heap.size (.slice p2.A1 a2.B.length p2.c1) (.int .i64 a2.fc) (.int .i64 a2.fr) (.slice p2.A2 a2.L.length p2.c2) (.slice p2.A3 a2.V.length p2.c3) := ⟨_, rfl⟩
     have hik7 : Is w7 w5.heap.size 55 [.slice p2.A1 a2.B.length p2.c1, .int .i64 a2.fc, .int .i64 a2.fr, .slice p2.A2 a2.L.length p2.c2, .slice p2.A3 a2.V.length p2.c3] := by rw [hw7]; exact set5_is HIK2.out
     have hk7 : ∀ j, j ≠ w5.heap.size → w7.heap[j]? = w2.heap[j]? := fun j hj => by rw [hw7, set5_off j hj]
     have hs7 : w7.heap.size = w2.heap.size := by rw [hw7, set5_size]
     have hb7 : Below w5.heap.size w5 w7 := by rw [hw7]; exact set5_below HB2.out (Nat.le_refl _)
     have hbo : Below w5.heap.size w2 w7 := by rw [hw7]; exact set5_below (Below.refl _ _) (Nat.le_refl _)
     unfold set5 at hw7
     rw [← hw7]
     have HNEW := Lib.hid (show TkSt w5 p r (k + 1) p2 a2 (tk ++ [m]) (.slice Ax (tk.length + 1) cx) w7 from ⟨hik7, HEB.out, at_offG HAL2.out (moves_off HIK2.out rfl HAL2.out) hk7 hs7, at_offG HAV2.out HOK.out hk7 hs7, HLD.out.pl, HSA.out, HT0.out.1, HONE.out, HML.out, by omega, HOK.out, HOL2.out, HOV2.out, by rw [hnl]; exact own_offF HO2.out (Nat.lt_succ_self _) hbo hk7, hb7⟩)
     clear hik7 hk7 hs7 hb7 hbo
     go_roundg (gk - 1)
     case rel => exact ⟨k + 1, p2, a2, tk ++ [m], by go_num, by omega, HNEW.out⟩
     case measure => omega
    ·have hx1 : (x == 0) = false := by simpa using hx
     have hx2 : (x != 0) = true := by simpa using hx
     have hx3 : decide (x = 0) = false := decide_eq_false hx
     obtain ⟨⟨q0, q1, q2, q3, q4⟩, -⟩ := cells5 HLD.out.ij
     obtain ⟨⟨z0, z1, z2, z3, z4⟩, f0, f1, f2, f3, f4⟩ := cells5 HIK.out
     go_wp2_with fail
     clear q0 q1 q2 q3 q4 z0 z1 z2 z3 z4 f0 f1 f2 f3 f4
     obtain ⟨w7, hw7⟩ : ∃ w7, w7 = set5 wc w5.heap.size (.slice p2.A1 a2.B.length p2.c1) (.int .i64 a2.fc) (.int .i64 a2.fr) (.slice p2.A2 a2.L.length p2.c2) (.slice p2.A3 a2.V.length p2.c3) := ⟨_, rfl⟩
     have hik7 : Is w7 w5.heap.size 55 [.slice p2.A1 a2.B.length p2.c1, .int .i64 a2.fc, .int .i64 a2.fr, .slice p2.A2 a2.L.length p2.c2, .slice p2.A3 a2.V.length p2.c3] := by rw [hw7]; exact set5_is HIK.out
     have hk7 : ∀ j, j ≠ w5.heap.size → w7.heap[j]? = wc.heap[j]? := fun j hj => by rw [hw7, set5_off j hj]
     have hs7 : w7.heap.size = wc.heap.size := by rw [hw7, set5_size]
     have hb7 : Below w5.heap.size w5 w7 := by rw [hw7]; exact set5_below HBW.out (Nat.le_refl _)
     have hbo : Below w5.heap.size wc w7 := by rw [hw7]; exact set5_below (Below.refl _ _) (Nat.le_refl _)
     unfold set5 at hw7
     rw [← hw7]
     have HNEW := Lib.hid (show TkSt w5 p r (k + 1) p2 a2 tk (.slice Av tk.length cv) w7 from ⟨hik7, HEB.out, at_offG HLD.out.at_.l (moves_off HIK.out rfl HLD.out.at_.l) hk7 hs7, at_offG HLD.out.at_.v HOK.out hk7 hs7, HLD.out.pl, HSA.out, HTS.out.2 hx, HR.out.one, HR.out.ml, by omega, HOK.out, HOL.out, HOV.out, own_offF HOWN.out (Nat.lt_succ_self _) hbo hk7, hb7⟩)
     clear hik7 hk7 hs7 hb7 hbo
     go_roundg (gk - 1)
     case rel => exact ⟨k + 1, p2, a2, tk, by go_num, by omega, HNEW.out⟩
     case measure => omega
  ·have hkl : ¬ (k : Int) < (l.length : Int) := by omega
   have hat : RpAt pq a wr := ⟨by rw [HR.out.eb.1, HR.out.eb.2]; exact (RpAt.b (SR.out.rep (.tail _ (.tail _ (.tail _ (.head _)))))), HR.out.al, HR.out.av⟩
   have S31 := Lib.hid (((SR.out.addP (p := pq) (r := a) hat).addB (g := w5.heap.size) (t := 55) (vs := [.slice pq.A1 a.B.length pq.c1, .int .i64 a.fc, .int .i64 a.fr, .slice pq.A2 a.L.length pq.c2, .slice pq.A3 a.V.length pq.c3]) HR.out.ik).addM (A := Av) (l := tk) HTA.out)
   obtain ⟨o, ho⟩ : ∃ o, pruneF a c q = o := ⟨_, rfl⟩
   obtain ⟨s, y⟩ := o
   have HB := Lib.hid ho
   have HSB := Lib.hid (show Sz s 141 by have := sz_prune (HR.out.sz.more (show 120 + k ≤ 141 by omega)) c q; rw [ho] at this; exact this)
   have HSA := Lib.hid (HR.out.sz.more (show 120 + k ≤ 141 by omega))
   have hsv : s.V = a.V := by have := prune_marks a c q; rw [ho] at this; exact this
   obtain ⟨O, hO⟩ : ∃ O, ofK tk = O := ⟨_, rfl⟩
   obtain ⟨N, hN⟩ : ∃ N, joinK r.V O = N := ⟨_, rfl⟩
   have hwant : a.V = N := by rw [← hN, ← hO]; exact took_marks HMR.out HR.out.took HR.out.one
   have hav := HSA.out.v
   have hol : O.length ≤ 40 := by rw [← hO]; exact Nat.le_trans (ofK_len tk) (by omega)
   have HO := Lib.hid hO
   have HN := Lib.hid hN
   have HW1 := Lib.hid hwant
   have HW2 := Lib.hid (hsv.trans hwant)
   have PLA := Lib.hid HR.out.pl
   have hrv : r.V.length ≤ 120 := HSZ.out.v
   have hnv : N.length ≤ 141 := by rw [← hwant]; omega
   have hsvl : s.V.length ≤ 141 := HSB.out.v
   clear hat ho hsv hO hN hwant
   have hx := (S31.out.box (.tail _ (.head _)))
   obtain ⟨⟨y4_0, y4_1, y4_2, y4_3, y4_4⟩, -⟩ := cells5 hx
   clear hx
   have hx := (S31.out.box (.tail _ (.tail _ (.tail _ (.head _)))))
   obtain ⟨y5_0, y5_1⟩ := box2 hx
   clear hx
   go_wp2_with fail
   refine (fPrune_v (r2 := s) HB.out (HSA.out.ok (by omega)) PLA.out (S31.out.rep (.tail _ (.tail _ (.head _))))).mono ?_
   rintro e w32 ⟨p3, rfl, hg, hb⟩
   have S32 := Lib.hid ((S31.out.step hb).addP (p := p3) (r := s) hg.at_)
   clear y4_0 y4_1 y4_2 y4_3 y4_4 y5_0 y5_1
   clear hb hg
   obtain ⟨w33, hw⟩ : ∃ w33, w33 = w32.alloc (.cells #[.slice p3.A1 s.B.length p3.c1, .int .i64 s.fc, .int .i64 s.fr, .slice p3.A2 s.L.length p3.c2, .slice p3.A3 s.V.length p3.c3] 55) := ⟨_, rfl⟩
   have hb : Below w32.heap.size w32 w33 := by rw [hw]; exact (Below.refl _ _).alloc (Nat.le_refl _) _
   have S33 := Lib.hid ((S32.out.step hb).addB (g := w32.heap.size) (t := 55) (vs := [.slice p3.A1 s.B.length p3.c1, .int .i64 s.fc, .int .i64 s.fr, .slice p3.A2 s.L.length p3.c2, .slice p3.A3 s.V.length p3.c3]) (by rw [hw]; exact is_new w32 55 _))
   have HW33 := Lib.hid hw
   clear hw hb
   have hx := (S33.out.box (.tail _ (.tail _ (.tail _ (.tail _ (.tail _ (.tail _ (.head _))))))))
   rw [HW33.out] at hx
   obtain ⟨⟨y6_0, y6_1, y6_2, y6_3, y6_4⟩, -⟩ := cells5 hx
   clear hx
   have HT9 := Lib.hid (S33.out.moves (.tail _ (.tail _ (.head _))))
   have HV9 := Lib.hid (RpAt.v (S33.out.rep (.tail _ (.tail _ (.tail _ (.tail _ (.tail _ (.tail _ (.tail _ (.tail _ (.head _)))))))))))
   have HB9 := Lib.hid (S33.out.box (.tail _ (.tail _ (.tail _ (.tail _ (.tail _ (.tail _ (.head _))))))))
   go_upto_region 13 with fail
   rw [← HW33.out]
   go_cut [15] (fun s15 wx => ∃ (A9 : Option Addr) (c9 : Nat), s15 = .slice A9 N.length c9 ∧ At wx wx.heap.size A9 (kvs N) ∧ Below w33.heap.size w33 wx)
   case first =>
    have hr9 := HB9.out
    obtain ⟨⟨h0, h1, h2, h3, h4⟩, -⟩ := cells5 hr9
    clear hr9
    go_region_with (first | (go_at_call 64; refine (kOf_v (w := w33.drew) HO.out (by omega) HT9.out).mono ?_; rintro e wq ⟨A8, c8, rfl, ho8, hb8⟩; have ha8 := own_atK ho8; have hj8 := At.keep (w := w33.drew) HV9.out hb8; obtain ⟨⟨k0, k1, k2, k3, k4⟩, -⟩ := cells5 (is_below (w := w33.drew) HB9.out hb8 (is_lt HB9.out))) | (go_at_call 63; refine (kjoin_k HN.out (by omega) PLr.out.n3 hj8 ha8).mono ?_; rintro e wy ⟨A9, c9, rfl, ho9, hb9⟩))
    all_goals (go_wp2_with fail; go_meet; exact ⟨A9, c9, rfl, own_atK ho9, ((Below.refl w33.heap.size w33).drew.trans hb8).trans (hb9.mono hb8.size)⟩)
   case rest =>
    obtain ⟨A9, c9, rfl, h9, hb⟩ := hcut
    have S34 := Lib.hid ((S33.out.step hb).addK (A := A9) (l := N) h9)
    clear h9 hb
    have hx := (S34.out.box (.tail _ (.tail _ (.tail _ (.tail _ (.head _))))))
    obtain ⟨⟨y7_0, y7_1, y7_2, y7_3, y7_4⟩, -⟩ := cells5 hx
    clear hx
    go_wp2_with fail
    refine (same17_s HW1.out (by omega) (RpAt.v (S34.out.rep (.tail _ (.tail _ (.tail _ (.tail _ (.tail _ (.head _)))))))) (S34.out.marks (.head _))).mono ?_
    rintro e w35 ⟨rfl, hb⟩
    have S35 := Lib.hid (S34.out.step hb)
    clear y7_0 y7_1 y7_2 y7_3 y7_4
    clear hb
    have hx := (S35.out.box (.tail _ (.head _)))
    obtain ⟨⟨y8_0, y8_1, y8_2, y8_3, y8_4⟩, -⟩ := cells5 hx
    clear hx
    go_wp2_with fail
    refine (same17_s HW2.out (by omega) (RpAt.v (S35.out.rep (.tail _ (.tail _ (.head _))))) (S35.out.marks (.head _))).mono ?_
    rintro e w36 ⟨rfl, hb⟩
    have S36 := Lib.hid (S35.out.step hb)
    clear y8_0 y8_1 y8_2 y8_3 y8_4
    clear hb
    go_wp2_with fail
    refine (live18_c _).mono ?_
    rintro e w37 ⟨rfl, hb⟩
    have S37 := Lib.hid (S36.out.step hb)
    clear hb
    go_wp2_with fail
    go_ret
    exact ⟨rfl, S37.out.bel⟩
end floorMarks
end Go.Proofs.YthhckdjagnlgpaaGreat
end

section
namespace Go.Proofs.YthhckdjagnlgpaaGreat.floorMarks
open Go.ChangeShapes Go.WideShapes Go.ChangeAt Go.RowKit
theorem own : ownKnob Tryz.prog.godebug = none := by kernel_rfl
theorem laidOut : laidOutB Tryz.prog = true := by kernel_rfl
set_option maxRecDepth 100000 in
theorem lifted (os : Os) (started : os.Started) (H : Type) (enc : TypeId × Value → H) :
  ReturnsInHanded {} Tryz.checked os 16 .any (Rows.floorMarksSpec.pre6 enc Tryz.prog Tryz.f16 Rows.floorMarksRow.domain false) (Rows.floorMarksSpec.post enc Tryz.prog Tryz.f16 false true false false) := by
 refine returnsInHanded_of_change (C := Tryz.checked) own started (by kernel_rfl) Tryz.func16
  (ChangeSpec.witness6 (enc := enc) (C := Tryz.checked) false ⟨#[], #[.agg #[.slice none 0 0, .int .i64 0, .int .i64 0, .slice none 0 0, .slice none 0 0], .slice none 0 0, .agg #[.int .i64 0, .int .i64 0]], []⟩ 8 (by kernel_rfl) (by kernel_rfl) (by kernel_rfl) (by kernel_rfl)) ?_
 intro W base args ds gs before hval0 hW hcnd _
 have hval : ∀ (j : Nat) t v, Tryz.f16.params[j]? = some t → args[j]? = some v → Value.okWide Tryz.prog W .any base t v := hval0
 have hW' := hW
 obtain ⟨p, q, hA0, hV, rfl, hfz, hnd⟩ := hW
 have hA : DataW.TrodAll enc Tryz.prog W 0 (fun _ => true) true Tryz.f16.params.toList args.toList ds p := hA0
 rw [Tryz.params16] at hA hval
 obtain ⟨v0, vs0, d0, ds0, p0, q0, hargs, rfl, rfl, h0, r0⟩ := trodAll_cons hA
 obtain ⟨v1, vs1, d1, ds1, p1, q1, rfl, rfl, rfl, h1, r1⟩ := trodAll_cons r0
 obtain ⟨v2, vs2, d2, ds2, p2, q2, rfl, rfl, rfl, h2, r2⟩ := trodAll_cons r1
 obtain ⟨rfl, rfl, rfl⟩ := trodAll_nil r2
 obtain rfl : args = #[v0, v1, v2] := by cases args; simp_all
 obtain ⟨rfl, rfl⟩ := trodVars_none hV
 have lt0 : ∀ x ∈ p0, x.block < W.heap.size := by obtain ⟨m, hm⟩ := h0; exact DataW.trod_lt m _ _ _ hm
 have lt1 : ∀ x ∈ p1, x.block < W.heap.size := by obtain ⟨m, hm⟩ := h1; exact DataW.trod_lt m _ _ _ hm
 have lt2 : ∀ x ∈ p2, x.block < W.heap.size := by obtain ⟨m, hm⟩ := h2; exact DataW.trod_lt m _ _ _ hm
 obtain ⟨P0, R0, rfl, l0, c0, z0, w0, x0⟩ := replica_in (hval 0 55 v0 rfl rfl) h0
 obtain ⟨A1, cap1, xs1, rfl, n1, k1, z1, c1, w1⟩ := moves_in (hval 1 52 v1 rfl rfl) h1
 obtain ⟨a2, b2, rfl⟩ := time_in (hval 2 51 v2 rfl rfl) h2
 clear hA0 hval0
 refine (walk P0 R0 l0 z0 w0 x0 A1 cap1 xs1 z1 w1 a2 b2 W c0 c1).mono fun e W' ⟨he, bel⟩ => ?_
 subst he
 exact ⟨_, rfl, _, _, _, [], _, [], hW', trodAll_mk1 (shut_bool Tryz.underlying4 _), (trodAll_cons_mk (Below.trod laidOut (by kernel_rfl) (of_decide_eq_true (by kernel_rfl)) h0 bel lt0) (trodAll_cons_mk (Below.trod laidOut (by kernel_rfl) (of_decide_eq_true (by kernel_rfl)) h1 bel lt1) (trodAll_cons_mk (Below.trod laidOut (by kernel_rfl) (of_decide_eq_true (by kernel_rfl)) h2 bel lt2) trodAll_mk0))), rfl, bel.frame _, fun h => by cases h⟩
theorem over : Rows.floorMarksRow.holds Tryz.pinned (OpenSpec.ofChange Rows.floorMarksSpec) :=
 OpenClaim.holds_of_wide 16 Tryz.f16 rfl rfl rfl rfl rfl rfl rfl ⟨rfl, rfl, rfl, rfl, rfl⟩ rfl rfl rfl rfl rfl (by kernel_rfl) Tryz.func16 (by kernel_rfl)
  (of_decide_eq_true (by kernel_rfl)) (by unfold Func.isWrapper; first | (rw [if_pos (by decide +kernel)]; kernel_rfl) | (rw [if_neg (by decide +kernel)]; exact ⟨rfl, rfl⟩))
  (fun os started H enc _ => lifted os started H enc)
theorem proved : Rows.FloorMarksSaid := over
#print axioms proved
end Go.Proofs.YthhckdjagnlgpaaGreat.floorMarks
end
