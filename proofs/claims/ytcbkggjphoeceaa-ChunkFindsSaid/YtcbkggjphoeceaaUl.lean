/-
  What the document gives for answers (live of the layer chunk).
-/
import Derived.Test.YtcbkggjphoeceaaUk
import Derived.BigQuiet
namespace Go.Proofs.Ytcbkggjphoeceaa
open Go.RowKit Go.IntWalk
open Pk Cr Ck
set_option maxRecDepth 100000
attribute [local go_sem] Oper.semAt_some

theorem live11.cells0 {w : World} {B b : Nat} (h : At w B (some ⟨b, 0, none⟩) (cvs live11.L)) : w.cell? ⟨b, 0, none⟩ = some (.int .i64 1) ∧ w.cell? ⟨b, 1, none⟩ = some (.string ⟨#[97, 98]⟩) := by
  obtain ⟨b', o, e, _, h0, h1⟩ := chunk_cells h (k := 0) (x := (1, [97, 98])) rfl
  cases e
  exact ⟨h0, h1⟩
theorem live11.cells1 {w : World} {B b : Nat} (h : At w B (some ⟨b, 0, none⟩) (cvs live11.L)) : w.cell? ⟨b, 2, none⟩ = some (.int .i64 3) ∧ w.cell? ⟨b, 3, none⟩ = some (.string ⟨#[]⟩) := by
  obtain ⟨b', o, e, _, h0, h1⟩ := chunk_cells h (k := 1) (x := (3, [])) rfl
  cases e
  exact ⟨h0, h1⟩
/-- a region that only reads but for calls that keep C -/
theorem quiet_held {P : Program} {id : Nat} {Q : Exit → Act → World → Prop} {a : Act} {w : World} {l : List Oper} (C : World → Prop) (hm : P.follows .mixedOrders = true) (hB : Region.lexB .any l.toArray = true) (hC : C w.drew)
    (h : wpQuiet P l.toArray C (fun a' => ∀ w', C w' → Q .normal a' w') l a) : (Code.region id l.toArray true).wp P Q a w :=
  wp_region_quiet (C := C) hm hB hC (by simpa using h)
theorem three_keep {A1 A2 : Option Addr} {xs ys : List Value} {w w1 w2 : World} (h : At w1 w1.heap.size A1 xs ∧ At w1 w1.heap.size A2 ys ∧ Below w.heap.size w w1) (hb : Below w1.heap.size w1 w2) : At w2 w2.heap.size A1 xs ∧ At w2 w2.heap.size A2 ys ∧ Below w.heap.size w w2 :=
  ⟨h.1.keep hb, h.2.1.keep hb, h.2.2.trans (hb.mono h.2.2.size)⟩
set_option maxHeartbeats 8000000 in
theorem live11_c (w : World) :
    Calls Try.prog 9 #[] w fun e w' => e = .returned (.bool true) ∧ Below w.heap.size w w' := by
  obtain ⟨S, hS⟩ : ∃ S, ba live11.F = S := ⟨_, rfl⟩
  obtain ⟨O1, hO1⟩ : ∃ S, ba live11.O1 = S := ⟨_, rfl⟩
  obtain ⟨O2, hO2⟩ : ∃ S, ba live11.O2 = S := ⟨_, rfl⟩
  obtain ⟨S18, hS18⟩ : ∃ S, ba (live11.F.take 18) = S := ⟨_, rfl⟩
  obtain ⟨S1, hS1⟩ : ∃ S, ba ([66, 78, 83, 73, 2] ++ live11.O1) = S := ⟨_, rfl⟩
  have hsz : S.size = 19 := by rw [← hS, ba_size]; rfl
  have hx18 : S.extract 0 18 = S18 := by rw [← hS, ← hS18]; exact extract_take _ _
  have hO1s : O1.size = 8 := by rw [← hO1, ba_size]; rfl
  have hO14 : O1.extract 0 4 = ⟨#[1, 2, 97, 98]⟩ := by rw [← hO1, extract_take]; rfl
  have ha1 : ∀ w : World, (Op.stringOp .add ⟨#[66, 78, 83, 73, 2]⟩ O1).run Try.prog w = .ok (.string S1) w := fun w => by rw [← hO1, ← hS1]; exact add_ba [66, 78, 83, 73, 2] live11.O1 (by decide) w
  have ha2 : ∀ w : World, (Op.stringOp .add S1 O2).run Try.prog w = .ok (.string S) w := fun w => by rw [← hO2, ← hS1, ← hS]; exact add_ba _ live11.O2 (by decide) w
  have hN1 : ba (one (1, [97, 98])) = O1 := by rw [live11.o1, hO1]
  have hN2 : ba (one (3, [])) = O2 := by rw [live11.o2, hO2]
  have hJ : ba (joinT 2 live11.L) = S := by rw [live11.jt, hS]
  have H1 := Lib.hid hN1
  have H2 := Lib.hid hN2
  have HJ := Lib.hid hJ
  have HS := Lib.hid hS
  have HS18 := Lib.hid hS18
  clear hN1 hN2 hJ hS hS18 hO1 hO2 hS1
  go_enter Try.func9, Try.ntmps9
  go_wp2_with fail
  have hl0 : At _ _ (some ⟨w.heap.size, 0, none⟩) (cvs live11.L) := at_new w 32 (cvs live11.L)
  have hb0 : Below w.heap.size w (w.alloc (.cells (cvs live11.L).toArray 32)) := (Below.refl _ _).alloc (Nat.le_refl _) _
  refine (join_k live11.L S 0 rfl HJ.out live11.je (by rw [live11.fll]; decide) (by decide) hl0).mono ?_
  rintro e w1 ⟨rfl, hm⟩
  have hb1 := hb0.trans (hm.mono hb0.size)
  have L1 := hl0.keep hm
  clear hl0 hb0 hm
  go_wp2_with fail
  refine (split_k live11.F live11.L 2 0 HS.out.symm live11.sp live11.sv (by decide) _).mono ?_
  rintro e w2 ⟨AM, cM, rfl, hM, hm⟩
  have hb2 := hb1.trans (hm.mono hb1.size)
  have L2 := L1.keep hm
  have M2 := hM
  clear hb1 L1 hm hM
  go_wp2_with fail
  refine (split_k [66, 78, 83, 88, 2] [] 0 7 rfl live11.sx live11.sxv (by decide) _).mono ?_
  rintro e w3 ⟨AX, cX, rfl, -, hm⟩
  have hb3 := hb2.trans (hm.mono hb2.size)
  have L3 := L2.keep hm
  have M3 := M2.keep hm
  clear hb2 L2 M2 hm
  go_wp2_with fail
  refine (split_k [66, 78, 83, 73] [] 0 2 rfl live11.sc live11.scv (by decide) _).mono ?_
  rintro e w4 ⟨AY, cY, rfl, -, hm⟩
  have hb4 := hb3.trans (hm.mono hb3.size)
  have L4 := L3.keep hm
  have M4 := M3.keep hm
  clear hb3 L3 M3 hm
  go_wp2_with fail
  rw [show (max (0 : Int) 18).toNat = 18 from rfl, hx18]
  refine (split_k (live11.F.take 18) [] 0 2 HS18.out.symm live11.st live11.stv (by decide) _).mono ?_
  rintro e w5 ⟨AZ, cZ, rfl, -, hm⟩
  have hb5 := hb4.trans (hm.mono hb4.size)
  have L5 := L4.keep hm
  have M5 := M4.keep hm
  clear hb4 L4 M4 hm
  go_wp2_with fail
  have hn := at_new w5 32 (cvs [(3, []), (3, [])])
  have hm := (Below.refl w5.heap.size w5).alloc (Nat.le_refl _) (.cells (cvs [(3, []), (3, [])]).toArray 32)
  have hb6 := hb5.trans (hm.mono hb5.size)
  have L6 := L5.keep hm
  have M6 := M5.keep hm
  clear hb5 L5 M5 hm
  refine (join_k [(3, []), (3, [])] ⟨#[]⟩ 12 rfl (by rw [live11.jbt]; rfl) live11.jb live11.jbl (by decide) hn).mono ?_
  rintro e w7 ⟨rfl, hm⟩
  have hb7 := hb6.trans (hm.mono hb6.size)
  have L7 := L6.keep hm
  have M7 := M6.keep hm
  clear hb6 L6 M6 hm hn
  go_wp2_with fail
  refine (join_k [] ⟨#[]⟩ 1 rfl (by rw [live11.jat]; rfl) live11.ja (by decide) (by decide) (At.nil _ _ _)).mono ?_
  rintro e w8 ⟨rfl, hm⟩
  have hb8 := hb7.trans (hm.mono hb7.size)
  have L8 := L7.keep hm
  have M8 := M7.keep hm
  clear hb7 L7 M7 hm
  go_wp2_with fail
  refine (find_k live11.L 1 ⟨#[97, 98]⟩ true rfl (by rw [live11.f1]; rfl) (by rw [live11.f1]; rfl) (by decide) L8).mono ?_
  rintro e w9 ⟨rfl, hm⟩
  have hb9 := hb8.trans (hm.mono hb8.size)
  have L9 := L8.keep hm
  have M9 := M8.keep hm
  clear hb8 L8 M8 hm
  go_wp2_with fail
  refine (find_k live11.L 2 ⟨#[]⟩ false rfl (by rw [live11.f2]; rfl) (by rw [live11.f2]; rfl) (by decide) L9).mono ?_
  rintro e w10 ⟨rfl, hm⟩
  have hb10 := hb9.trans (hm.mono hb9.size)
  have L10 := L9.keep hm
  have M10 := M9.keep hm
  clear hb9 L9 M9 hm
  go_wp2_with fail
  refine (version_kk [66, 78, 83, 73, 7, 114, 101, 115, 116] 0 7 rfl (by decide) (by decide) (by decide) _).mono ?_
  rintro e wz ⟨rfl, rfl⟩
  go_wp2_with fail
  dsimp only [List.append]
  refine quiet_held (fun w' => At w' w'.heap.size (some ⟨w.heap.size, 0, none⟩) (cvs live11.L) ∧ At w' w'.heap.size AM (cvs live11.L) ∧ Below w.heap.size w w') (by kernel_rfl) (by kernel_rfl) ⟨L10, M10, hb10.drew⟩ ?_
  repeat (first
    | go_big_quiet_skip
    | (go_big_quiet_want; go_big_quiet_op; go_big_quiet_on)
    | (go_big_quiet_want; apply Exists.intro; refine ⟨fun wq hq => ?_, ?_⟩; (focus (obtain ⟨d0, d1⟩ := live11.cells0 hq.1; obtain ⟨d2, d3⟩ := live11.cells1 hq.1; unfold Oper.quietAt; go_simp; all_goals (first | rfl | (refine (one_kk [97, 98] O1 rfl H1.out (by decide) _).mono ?_; rintro e w5 ⟨rfl, hbn⟩; exact ⟨rfl, three_keep hq hbn⟩) | (refine (one_kk [] O2 rfl H2.out (by decide) _).mono ?_; rintro e w5 ⟨rfl, hbn⟩; exact ⟨rfl, three_keep hq hbn⟩) | (refine (same11_k live11.L live11.L true rfl rfl (by decide) (by decide) (by decide) hq.2.1 hq.1).mono ?_; rintro e w5 ⟨rfl, hbn⟩; exact ⟨rfl, three_keep hq hbn⟩)))); simp only [Act.put, List.setIfInBounds_toArray, List.set_cons_zero, List.set_cons_succ]; go_big_quiet_on))
  refine wpQuiet_nil ?_
  intro wq hq
  have hbq := hq.2.2
  clear hq
  go_wp2_with fail
  go_ret
  exact ⟨rfl, hbq⟩
end Go.Proofs.Ytcbkggjphoeceaa
