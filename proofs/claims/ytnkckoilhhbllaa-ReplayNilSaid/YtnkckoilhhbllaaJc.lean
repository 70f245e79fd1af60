/-
  Add: a move taken among a Tree's.
-/
import Derived.Test.YtnkckoilhhbllaaJb
import Derived.Test.YtnkckoilhhbllaaUf
import Derived.Deep.RegionHeld3
namespace Go.Proofs.Ytnkckoilhhbllaa
open Go.RowKit Go.IntWalk
set_option maxRecDepth 100000
attribute [local go_sem] Oper.semAt_some

theorem hold6 {G : Nat} {m : Mv} {w1 W W' : World} (h : W.cell? ⟨G, 0, none⟩ = some (.int .i64 (mc m)) ∧ W.cell? ⟨G, 1, none⟩ = some (.int .i64 (mr m)) ∧ W.cell? ⟨G, 2, none⟩ = some (.int .i64 (pa (mw m))) ∧ W.cell? ⟨G, 3, none⟩ = some (.int .i64 (ch (mw m))) ∧ W.cell? ⟨G, 4, none⟩ = some (.string (ba (nm (mw m)))) ∧ W.cell? ⟨G, 5, none⟩ = some (.float .f64 (rk (mw m))) ∧ Below w1.heap.size w1 W) (hb : Below W.heap.size W W') : W'.cell? ⟨G, 0, none⟩ = some (.int .i64 (mc m)) ∧ W'.cell? ⟨G, 1, none⟩ = some (.int .i64 (mr m)) ∧ W'.cell? ⟨G, 2, none⟩ = some (.int .i64 (pa (mw m))) ∧ W'.cell? ⟨G, 3, none⟩ = some (.int .i64 (ch (mw m))) ∧ W'.cell? ⟨G, 4, none⟩ = some (.string (ba (nm (mw m)))) ∧ W'.cell? ⟨G, 5, none⟩ = some (.float .f64 (rk (mw m))) ∧ Below w1.heap.size w1 W' := by
  obtain ⟨p0, p1, p2, p3, p4, p5, hB⟩ := h
  exact ⟨keep_cell hb p0, keep_cell hb p1, keep_cell hb p2, keep_cell hb p3, keep_cell hb p4, keep_cell hb p5, hB.trans (hb.mono hB.size)⟩
theorem hold6d {G : Nat} {m : Mv} {w1 W : World} (h : W.cell? ⟨G, 0, none⟩ = some (.int .i64 (mc m)) ∧ W.cell? ⟨G, 1, none⟩ = some (.int .i64 (mr m)) ∧ W.cell? ⟨G, 2, none⟩ = some (.int .i64 (pa (mw m))) ∧ W.cell? ⟨G, 3, none⟩ = some (.int .i64 (ch (mw m))) ∧ W.cell? ⟨G, 4, none⟩ = some (.string (ba (nm (mw m)))) ∧ W.cell? ⟨G, 5, none⟩ = some (.float .f64 (rk (mw m))) ∧ Below w1.heap.size w1 W) : W.drew.cell? ⟨G, 0, none⟩ = some (.int .i64 (mc m)) ∧ W.drew.cell? ⟨G, 1, none⟩ = some (.int .i64 (mr m)) ∧ W.drew.cell? ⟨G, 2, none⟩ = some (.int .i64 (pa (mw m))) ∧ W.drew.cell? ⟨G, 3, none⟩ = some (.int .i64 (ch (mw m))) ∧ W.drew.cell? ⟨G, 4, none⟩ = some (.string (ba (nm (mw m)))) ∧ W.drew.cell? ⟨G, 5, none⟩ = some (.float .f64 (rk (mw m))) ∧ Below w1.heap.size w1 W.drew := by
  obtain ⟨p0, p1, p2, p3, p4, p5, hB⟩ := h
  exact ⟨p0, p1, p2, p3, p4, p5, hB.drew⟩
theorem hold6b {G : Nat} {m : Mv} {w1 W : World} (h : W.cell? ⟨G, 0, none⟩ = some (.int .i64 (mc m)) ∧ W.cell? ⟨G, 1, none⟩ = some (.int .i64 (mr m)) ∧ W.cell? ⟨G, 2, none⟩ = some (.int .i64 (pa (mw m))) ∧ W.cell? ⟨G, 3, none⟩ = some (.int .i64 (ch (mw m))) ∧ W.cell? ⟨G, 4, none⟩ = some (.string (ba (nm (mw m)))) ∧ W.cell? ⟨G, 5, none⟩ = some (.float .f64 (rk (mw m))) ∧ Below w1.heap.size w1 W) : Below w1.heap.size w1 W := h.2.2.2.2.2.2
theorem hold6s {G : Nat} {m : Mv} {w1 : World} (p0 : w1.cell? ⟨G, 0, none⟩ = some (.int .i64 (mc m))) (p1 : w1.cell? ⟨G, 1, none⟩ = some (.int .i64 (mr m))) (p2 : w1.cell? ⟨G, 2, none⟩ = some (.int .i64 (pa (mw m)))) (p3 : w1.cell? ⟨G, 3, none⟩ = some (.int .i64 (ch (mw m)))) (p4 : w1.cell? ⟨G, 4, none⟩ = some (.string (ba (nm (mw m))))) (p5 : w1.cell? ⟨G, 5, none⟩ = some (.float .f64 (rk (mw m)))) : w1.drew.cell? ⟨G, 0, none⟩ = some (.int .i64 (mc m)) ∧ w1.drew.cell? ⟨G, 1, none⟩ = some (.int .i64 (mr m)) ∧ w1.drew.cell? ⟨G, 2, none⟩ = some (.int .i64 (pa (mw m))) ∧ w1.drew.cell? ⟨G, 3, none⟩ = some (.int .i64 (ch (mw m))) ∧ w1.drew.cell? ⟨G, 4, none⟩ = some (.string (ba (nm (mw m)))) ∧ w1.drew.cell? ⟨G, 5, none⟩ = some (.float .f64 (rk (mw m))) ∧ Below w1.heap.size w1 w1.drew := ⟨p0, p1, p2, p3, p4, p5, (Below.refl _ _).drew⟩

/-- what a move that is taken tells -/
def addV (o : List Mv × Nat × Bool) : Value := if o.2.2 then .tuple #[.int .i64 ((o.1.length : Int) - 1 - (o.2.1 : Int)), .bool true] else .tuple #[.int .i64 0, .bool false]
theorem ins_parts (l : List Mv) (m : Mv) : ((insM l m).2.2 = false ∧ (insM l m).1 = l) ∨ ((insM l m).2.2 = true ∧ (insM l m).2.1 ≤ l.length ∧ (insM l m).1.length = l.length + 1 ∧ (insM l m).1.take (insM l m).2.1 = l.take (insM l m).2.1) := by
  rcases insM_is l m with ⟨k, x, h1, hk, h2, hkl⟩ | ⟨h1, ⟨k, x, h1b, hk, h2, hkl⟩ | ⟨h1b, h2⟩⟩
  · rw [h2]; exact .inl ⟨rfl, rfl⟩
  · rw [h2]
    refine .inr ⟨rfl, by show k ≤ _; omega, ?_, ?_⟩
    · show (l.take k ++ m :: l.drop k).length = _
      rw [List.length_append, List.length_cons, List.length_take, List.length_drop]
      omega
    · show (l.take k ++ m :: l.drop k).take k = l.take k
      rw [List.take_append_of_le_length (by rw [List.length_take]; omega), List.take_take, Nat.min_self]
  · rw [h2]
    refine .inr ⟨rfl, Nat.le_refl _, by simp, ?_⟩
    show (l ++ [m]).take l.length = l.take l.length
    rw [List.take_append_of_le_length (Nat.le_refl _)]

theorem tadd_nil (m : Mv) (w : World) : Calls Try.prog 55 #[.pointer none, .agg #[.int .i64 (mc m), .int .i64 (mr m), .int .i64 (pa (mw m)), .int .i64 (ch (mw m)), .string (ba (nm (mw m))), .float .f64 (rk (mw m))]] w fun e w' => e = .returned (.tuple #[.int .i64 0, .bool false]) ∧ Below w.heap.size w w' := by
  have hb := (Below.refl w.heap.size w).alloc (Nat.le_refl _) (.cells #[.int .i64 (mc m), .int .i64 (mr m), .int .i64 (pa (mw m)), .int .i64 (ch (mw m)), .string (ba (nm (mw m))), .float .f64 (rk (mw m))] 27)
  have HB := Lib.hid hb
  clear hb
  go_enter Try.func55, Try.ntmps55
  go_wp2_with fail
  refine bodyPost_ret (v := .tuple #[.int .i64 0, .bool false]) (by simp [results, Try.f55, go_sem]) rfl ?_
  exact ⟨rfl, HB.out⟩
set_option maxHeartbeats 8000000 in
theorem tadd_c {g : Nat} (B : List Rw) (ms : List Mv) (m : Mv) (hB : B.length ≤ 10000) (hml : ms.length ≤ 9000) (w : World) (ht : TreeAt w g B (allP B ms) (stepsP B ms)) :
    Calls Try.prog 55 #[.pointer (some ⟨g, 0, none⟩), .agg #[.int .i64 (mc m), .int .i64 (mr m), .int .i64 (pa (mw m)), .int .i64 (ch (mw m)), .string (ba (nm (mw m))), .float .f64 (rk (mw m))]] w fun e w' =>
      e = .returned (addV (insM ms m)) ∧ TreeAt w' g B (allP B (insM ms m).1) (stepsP B (insM ms m).1) ∧ But g w w' := by
  obtain ⟨w0, hw0⟩ : ∃ w0, w0 = w.alloc (.cells #[.int .i64 (mc m), .int .i64 (mr m), .int .i64 (pa (mw m)), .int .i64 (ch (mw m)), .string (ba (nm (mw m))), .float .f64 (rk (mw m))] 27) := ⟨_, rfl⟩
  have hb0 : Below w.heap.size w w0 := by rw [hw0]; exact (Below.refl w.heap.size w).alloc (Nat.le_refl _) _
  have hI : Is w0 w.heap.size 27 [.int .i64 (mc m), .int .i64 (mr m), .int .i64 (pa (mw m)), .int .i64 (ch (mw m)), .string (ba (nm (mw m))), .float .f64 (rk (mw m))] := by rw [hw0]; exact is_new w 27 _
  obtain ⟨G, hG⟩ : ∃ G, G = w.heap.size := ⟨_, rfl⟩
  rw [← hG] at hI
  obtain ⟨p0, p1, p2, p3, p4, p5⟩ := box6 (m := m) hI
  have HT := Lib.hid (ht.keep hb0)
  have HB0 := Lib.hid (but_below g hb0)
  have HG := Lib.hid hG
  have HW := Lib.hid hw0
  have hmv : (stepsP B ms).map sm = ms := stepsP_moves B ms
  have hsl := stepsP_len B ms
  have HMV := Lib.hid hmv
  have HSL := Lib.hid hsl
  have hip := ins_parts ms m
  obtain ⟨o, ho⟩ : ∃ o, insM ms m = o := ⟨_, rfl⟩
  rw [ho] at hip ⊢
  have HO := Lib.hid ho
  have HIP := Lib.hid hip
  clear ht hb0 hI hG hw0 hmv hsl ho hip
  go_enter Try.func55, Try.ntmps55
  go_wp2_with fail
  rw [← HW.out, ← HG.out]
  go_region_held3 (fun w' => w'.cell? ⟨G, 0, none⟩ = some (.int .i64 (mc m)) ∧ w'.cell? ⟨G, 1, none⟩ = some (.int .i64 (mr m)) ∧ w'.cell? ⟨G, 2, none⟩ = some (.int .i64 (pa (mw m))) ∧ w'.cell? ⟨G, 3, none⟩ = some (.int .i64 (ch (mw m))) ∧ w'.cell? ⟨G, 4, none⟩ = some (.string (ba (nm (mw m)))) ∧ w'.cell? ⟨G, 5, none⟩ = some (.float .f64 (rk (mw m))) ∧ Below w0.heap.size w0 w')
    (first
      | (exact hold6 (by assumption) hbn)
      | (exact hold6d (by assumption))
      | (exact hold6s p0 p1 p2 p3 p4 p5)
      | go_keep)
    (first
      | (go_at_call 59; refine (tlog_c (by rw [HSL.out]; omega) _ (HT.out.keep (hold6b (by assumption)))).mono ?_; rw [HMV.out]; rintro e wa ⟨E1, f1, rfl, hown, hbn⟩)
      | (go_at_call 94; refine (minsert_c E1 f1 ms m (by omega) (own_none hown) (by obtain ⟨_, _, e, _, _, h⟩ := own_at hown; cases e; exact h) _ (by obtain ⟨_, _, e, h, _, _⟩ := own_at hown; cases e; exact h)).mono ?_; rw [HO.out]; rintro e wb ⟨E2, f2, rfl, t2, n2, k2, hbn⟩))
  have hbz : Below w0.heap.size w0 wb := hold6b (by assumption)
  have HTb := Lib.hid (HT.out.keep hbz)
  have HBb := Lib.hid (HB0.out.trans (but_below g hbz))
  have T2 := Lib.hid t2
  clear hbz t2
  obtain ⟨ol, ok, ob⟩ := o
  have hip := HIP.out
  dsimp only at hip T2 n2 k2 ⊢
  rcases hip with ⟨rfl, rfl⟩ | ⟨rfl, h2, h3, h4⟩
  · clear HIP HO hown hbn n2 k2 p0 p1 p2 p3 p4 p5 HMV HSL hB hml HT HB0
    go_wp2_with fail
    refine bodyPost_ret (v := .tuple #[.int .i64 0, .bool false]) (by simp [results, Try.f55, go_sem]) rfl ?_
    exact ⟨rfl, HTb.out, HBb.out⟩
  · have H4 := Lib.hid h4
    have HWR := Lib.hid (show wrap64 (wrap64 ((ol.length : Int) - 1) - (ok : Int)) = (ol.length : Int) - 1 - (ok : Int) by unfold wrap64; omega)
    have HRD := Lib.hid (redo_c E2 f2 ok B ms ol hB (by omega) (by omega) h2 (by omega) H4.out _ HTb.out T2.out)
    clear HIP HO h4 hown hbn n2 k2 p0 p1 p2 p3 p4 p5 HMV HSL hB hml HT HB0 h2 h3
    go_wp2_with fail
    refine HRD.out.mono ?_
    rintro e wc ⟨rfl, htc, hbc⟩
    have HTc := Lib.hid htc
    have HBc := Lib.hid (HBb.out.trans hbc)
    clear htc hbc
    go_wp2_with fail
    rw [HWR.out]
    refine bodyPost_ret (v := .tuple #[.int .i64 ((ol.length : Int) - 1 - (ok : Int)), .bool true]) (by simp [results, Try.f55, go_sem]) rfl ?_
    exact ⟨rfl, HTc.out, HBc.out⟩
end Go.Proofs.Ytnkckoilhhbllaa
