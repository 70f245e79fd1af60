/-
  Add: a move taken among a Tree's.
  Some answers that chapter 16 gives.
-/
import Derived.Test.YtfeopchghpihoaaJa
import Derived.Test.YtfeopchghpihoaaUf
import Derived.Deep.RegionHeld3
section
namespace Go.Proofs.Ytfeopchghpihoaa
open Go.RowKit Go.IntWalk
set_option maxRecDepth 100000
attribute [local go_sem] Oper.semAt_some

theorem hold6 {G : Nat} {m : Mv} {w1 W W' : World} (h : W.cell? ⟨G, 0, none⟩ = some (.int .i64 (mc m)) ∧ W.cell? ⟨G, 1, none⟩ = some (.int .i64 (mr m)) ∧ W.cell? ⟨G, 2, none⟩ = some (.int .i64 (pa (mw m))) ∧ W.cell? ⟨G, 3, none⟩ = some (.int .i64 (ch (mw m))) ∧ W.cell? ⟨G, 4, none⟩ = some (.string (ba (nm (mw m)))) ∧ W.cell? ⟨G, 5, none⟩ = some (.float .f64 (rk (mw m))) ∧ Below w1.heap.size w1 W) (hb : Below W.heap.size W W') : W'.cell? ⟨G, 0, none⟩ = some (.int .i64 (mc m)) ∧ W'.cell? ⟨G, 1, none⟩ = some (.int .i64 (mr m)) ∧ W'.cell? ⟨G, 2, none⟩ = some (.int .i64 (pa (mw m))) ∧ W'.cell? ⟨G, 3, none⟩ = some (.int .i64 (ch (mw m))) ∧ W'.cell? ⟨G, 4, none⟩ = some (.string (ba (nm (mw m)))) ∧ W'.cell? ⟨G, 5, none⟩ = some (.float .f64 (rk (mw m))) ∧ Below w1.heap.size w1 W' := by
  obtain ⟨p0, p1, p2, p3, p4, p5, hB⟩ := h
  exact ⟨keep_cell hb p0, keep_cell hb p1, keep_cell hb p2, keep_cell hb p3, keep_cell hb p4, keep_cell hb p5, hB.trans (hb.mono hB.size)⟩
theorem hold6d {G : Nat} {m : Mv} {w1 W : World} (h : W.cell? ⟨G, 0, none⟩ = some (.int .i64 (mc m)) ∧ W.cell? ⟨G, 1, none⟩ = some (.int .i64 (mr m)) ∧ W.cell? ⟨G, 2, none⟩ = some (.int .i64 (pa (mw m))) ∧ W.cell? ⟨G, 3, none⟩ = some (.int .i64 (ch (mw m))) ∧ W.cell? ⟨G, 4, none⟩ = some (.string (ba (nm (mw m)))) ∧ W.cell? ⟨G, 5, none⟩ = some (.float .f64 (rk (mw m))) ∧ Below w1.heap.size w1 W) : W.drew.cell? ⟨G, 0, none⟩ = some (.int .i64 (mc m)) ∧ W.drew.cell? ⟨G, 1, none⟩ = some (.int .i64 (mr m)) ∧ W.drew.cell? ⟨G, 2, none⟩ = some (.int .i64 (pa (mw m))) ∧ W.drew.cell? ⟨G, 3, none⟩ = some (.int .i64 (ch (mw m))) ∧ W.drew.cell? ⟨G, 4, none⟩ = some (.string (ba (nm (mw m)))) ∧ W.drew.cell? ⟨G, 5, none⟩ = some (.float .f64 (rk (mw m))) ∧ Below w1.heap.size w1 W.drew := by
  obtain ⟨p0, p1, p2, p3, p4, p5, hB⟩ := h
  exact ⟨p0, p1, p2, p3, p4, p5, hB.drew⟩
theorem hold6b {G : Nat} {m : Mv} {w1 W : World} (h : W.cell? ⟨G, 0, none⟩ = some (.int .i64 (mc m)) ∧ W.cell? ⟨G, 1, none⟩ = some (.int .i64 (mr m)) ∧ W.cell? ⟨G, 2, none⟩ = some (.int .i64 (pa (mw m))) ∧ W.cell? ⟨G, 3, none⟩ = some (.int .i64 (ch (mw m))) ∧ W.cell? ⟨G, 4, none⟩ = some (.string (ba (nm (mw m)))) ∧ W.cell? ⟨G, 5, none⟩ = some (.float .f64 (rk (mw m))) ∧ Below w1.heap.size w1 W) : Below w1.heap.size w1 W := h.2.2.2.2.2.2
theorem hold6s {G : Nat} {m : Mv} {w1 : World} (p0 : w1.cell? ⟨G, 0, none⟩ = some (.int .i64 (mc m))) (p1 : w1.cell? ⟨G, 1, none⟩ = some (.int .i64 (mr m))) (p2 : w1.cell? ⟨G, 2, none⟩ = some (.int .i64 (pa (mw m)))) (p3 : w1.cell? ⟨G, 3, none⟩ = some (.int .i64 (ch (mw m)))) (p4 : w1.cell? ⟨G, 4, none⟩ = some (.string (ba (nm (mw m))))) (p5 : w1.cell? ⟨G, 5, none⟩ = some (.float .f64 (rk (mw m)))) : w1.drew.cell? ⟨G, 0, none⟩ = some (.int .i64 (mc m)) ∧ w1.drew.cell? ⟨G, 1, none⟩ = some (.int .i64 (mr m)) ∧ w1.drew.cell? ⟨G, 2, none⟩ = some (.int .i64 (pa (mw m))) ∧ w1.drew.cell? ⟨G, 3, none⟩ = some (.int .i64 (ch (mw m))) ∧ w1.drew.cell? ⟨G, 4, none⟩ = some (.string (ba (nm (mw m)))) ∧ w1.drew.cell? ⟨G, 5, none⟩ = some (.float .f64 (rk (mw m))) ∧ Below w1.heap.size w1 w1.drew := ⟨p0, p1, p2, p3, p4, p5, (Below.refl _ _).drew⟩

/-- what a move that is taken tells -/
def addV (o : List Mv × Nat × Bool) : Value := if o.2.2 then .tuple #[.int .i64 ((o.1.length : Int) - 1 - (o.2.1 : Int)), .bool true] else .tuple #[.int .i64 0, .bool false]
theorem ins_parts (l : List Mv) (m : Mv) : ((insM l m).2.2 = false ∧ (insM l m).1 = l) ∨ ((insM l m).2.2 = true ∧ (insM l m).2.1 ≤ l.length ∧ (insM l m).1.length = l.length + 1 ∧ (insM l m).1.take (insM l m).2.1 = l.take (insM l m).2.1) := by
  rcases insM_is l m with ⟨k, x, h1, hk, h2, hkl⟩ | ⟨h1, ⟨k, x, h1b, hk, h2, hkl⟩ | ⟨h1b, h2⟩⟩
  · rw [h2]; exact .inl ⟨rfl, rfl⟩
  · rw [h2]
    refine .inr ⟨rfl, by show k ≤ _; omega, ?_, ?_⟩
    · show (l.take k ++ m :: l.drop k).length = _
      rw [List.length_append, List.length_cons, List.length_take, List.length_drop]
      omega
    · show (l.take k ++ m :: l.drop k).take k = l.take k
      rw [List.take_append_of_le_length (by rw [List.length_take]; omega), List.take_take, Nat.min_self]
  · rw [h2]
    refine .inr ⟨rfl, Nat.le_refl _, by simp, ?_⟩
    show (l ++ [m]).take l.length = l.take l.length
    rw [List.take_append_of_le_length (Nat.le_refl _)]

theorem tadd_nil (m : Mv) (w : World) : Calls Try.prog 12 #[.pointer none, .agg #[.int .i64 (mc m), .int .i64 (mr m), .int .i64 (pa (mw m)), .int .i64 (ch (mw m)), .string (ba (nm (mw m))), .float .f64 (rk (mw m))]] w fun e w' => e = .returned (.tuple #[.int .i64 0, .bool false]) ∧ Below w.heap.size w w' := by
  have hb := (Below.refl w.heap.size w).alloc (Nat.le_refl _) (.cells #[.int .i64 (mc m), .int .i64 (mr m), .int .i64 (pa (mw m)), .int .i64 (ch (mw m)), .string (ba (nm (mw m))), .float .f64 (rk (mw m))] 38)
  have HB := Lib.hid hb
  clear hb
  go_enter Try.func12, Try.ntmps12
  go_wp2_with fail
  refine bodyPost_ret (v := .tuple #[.int .i64 0, .bool false]) (by simp [results, Try.f12, go_sem]) rfl ?_
  exact ⟨rfl, HB.out⟩
set_option maxHeartbeats 8000000 in
theorem tadd_c {g : Nat} (B : List Rw) (ms : List Mv) (m : Mv) (hB : B.length ≤ 10000) (hml : ms.length ≤ 9000) (w : World) (ht : TreeAt w g B (allP B ms) (stepsP B ms)) :
    Calls Try.prog 12 #[.pointer (some ⟨g, 0, none⟩), .agg #[.int .i64 (mc m), .int .i64 (mr m), .int .i64 (pa (mw m)), .int .i64 (ch (mw m)), .string (ba (nm (mw m))), .float .f64 (rk (mw m))]] w fun e w' =>
      e = .returned (addV (insM ms m)) ∧ TreeAt w' g B (allP B (insM ms m).1) (stepsP B (insM ms m).1) ∧ But g w w' := by
  obtain ⟨w0, hw0⟩ : ∃ w0, w0 = w.alloc (.cells #[.int .i64 (mc m), .int .i64 (mr m), .int .i64 (pa (mw m)), .int .i64 (ch (mw m)), .string (ba (nm (mw m))), .float .f64 (rk (mw m))] 38) := ⟨_, rfl⟩
  have hb0 : Below w.heap.size w w0 := by rw [hw0]; exact (Below.refl w.heap.size w).alloc (Nat.le_refl _) _
  have hI : Is w0 w.heap.size 38 [.int .i64 (mc m), .int .i64 (mr m), .int .i64 (pa (mw m)), .int .i64 (ch (mw m)), .string (ba (nm (mw m))), .float .f64 (rk (mw m))] := by rw [hw0]; exact is_new w 38 _
  obtain ⟨G, hG⟩ : ∃ G, G = w.heap.size := ⟨_, rfl⟩
  rw [← hG] at hI
  obtain ⟨p0, p1, p2, p3, p4, p5⟩ := box6 (m := m) hI
  have HT := Lib.hid (ht.keep hb0)
  have HB0 := Lib.hid (but_below g hb0)
  have HG := Lib.hid hG
  have HW := Lib.hid hw0
  have hmv : (stepsP B ms).map sm = ms := stepsP_moves B ms
  have hsl := stepsP_len B ms
  have HMV := Lib.hid hmv
  have HSL := Lib.hid hsl
  have hip := ins_parts ms m
  obtain ⟨o, ho⟩ : ∃ o, insM ms m = o := ⟨_, rfl⟩
  rw [ho] at hip ⊢
  have HO := Lib.hid ho
  have HIP := Lib.hid hip
  clear ht hb0 hI hG hw0 hmv hsl ho hip
  go_enter Try.func12, Try.ntmps12
  go_wp2_with fail
  rw [← HW.out, ← HG.out]
  go_region_held3 (fun w' => w'.cell? ⟨G, 0, none⟩ = some (.int .i64 (mc m)) ∧ w'.cell? ⟨G, 1, none⟩ = some (.int .i64 (mr m)) ∧ w'.cell? ⟨G, 2, none⟩ = some (.int .i64 (pa (mw m))) ∧ w'.cell? ⟨G, 3, none⟩ = some (.int .i64 (ch (mw m))) ∧ w'.cell? ⟨G, 4, none⟩ = some (.string (ba (nm (mw m)))) ∧ w'.cell? ⟨G, 5, none⟩ = some (.float .f64 (rk (mw m))) ∧ Below w0.heap.size w0 w')
    (first
      | (exact hold6 (by assumption) hbn)
      | (exact hold6d (by assumption))
      | (exact hold6s p0 p1 p2 p3 p4 p5)
      | go_keep)
    (first
      | (go_at_call 18; refine (tlog_c (by rw [HSL.out]; omega) _ (HT.out.keep (hold6b (by assumption)))).mono ?_; rw [HMV.out]; rintro e wa ⟨E1, f1, rfl, hown, hbn⟩)
      | (go_at_call 35; refine (minsert_c E1 f1 ms m (by omega) (own_none hown) (by obtain ⟨_, _, e, _, _, h⟩ := own_at hown; cases e; exact h) _ (by obtain ⟨_, _, e, h, _, _⟩ := own_at hown; cases e; exact h)).mono ?_; rw [HO.out]; rintro e wb ⟨E2, f2, rfl, t2, n2, k2, hbn⟩))
  have hbz : Below w0.heap.size w0 wb := hold6b (by assumption)
  have HTb := Lib.hid (HT.out.keep hbz)
  have HBb := Lib.hid (HB0.out.trans (but_below g hbz))
  have T2 := Lib.hid t2
  clear hbz t2
  obtain ⟨ol, ok, ob⟩ := o
  have hip := HIP.out
  dsimp only at hip T2 n2 k2 ⊢
  rcases hip with ⟨rfl, rfl⟩ | ⟨rfl, h2, h3, h4⟩
  · clear HIP HO hown hbn n2 k2 p0 p1 p2 p3 p4 p5 HMV HSL hB hml HT HB0
    go_wp2_with fail
    refine bodyPost_ret (v := .tuple #[.int .i64 0, .bool false]) (by simp [results, Try.f12, go_sem]) rfl ?_
    exact ⟨rfl, HTb.out, HBb.out⟩
  · have H4 := Lib.hid h4
    have HWR := Lib.hid (show wrap64 (wrap64 ((ol.length : Int) - 1) - (ok : Int)) = (ol.length : Int) - 1 - (ok : Int) by unfold wrap64; omega)
    have HRD := Lib.hid (redo_c E2 f2 ok B ms ol hB (by omega) (by omega) h2 (by omega) H4.out _ HTb.out T2.out)
    clear HIP HO h4 hown hbn n2 k2 p0 p1 p2 p3 p4 p5 HMV HSL hB hml HT HB0 h2 h3
    go_wp2_with fail
    refine HRD.out.mono ?_
    rintro e wc ⟨rfl, htc, hbc⟩
    have HTc := Lib.hid htc
    have HBc := Lib.hid (HBb.out.trans hbc)
    clear htc hbc
    go_wp2_with fail
    rw [HWR.out]
    refine bodyPost_ret (v := .tuple #[.int .i64 ((ol.length : Int) - 1 - (ok : Int)), .bool true]) (by simp [results, Try.f12, go_sem]) rfl ?_
    exact ⟨rfl, HTc.out, HBc.out⟩
end Go.Proofs.Ytfeopchghpihoaa
end

section
namespace Go.Proofs.Ytfeopchghpihoaa
open Go.RowKit Go.IntWalk
set_option maxRecDepth 100000
attribute [local go_sem] Oper.semAt_some

theorem of16_c (c k p : Int) (w : World) :
    Calls Try.prog 33 #[.int .i64 c, .int .i64 k, .int .i64 p] w fun e w' => e = .returned (.agg #[.int .i64 c, .int .i64 1, .int .i64 p, .int .i64 k, .string ⟨#[]⟩, .float .f64 0]) ∧ Below w.heap.size w w' := by
  have hb : Below w.heap.size w (w.alloc (.cells #[.int .i64 c, .int .i64 1, .int .i64 p, .int .i64 k, .string ⟨#[]⟩, .float .f64 0] 38)) := (Below.refl _ _).alloc (Nat.le_refl _) _
  obtain ⟨w0, hw0⟩ : ∃ w0, w0 = w.alloc (.cells #[.int .i64 c, .int .i64 1, .int .i64 p, .int .i64 k, .string ⟨#[]⟩, .float .f64 0] 38) := ⟨_, rfl⟩
  have hI : Is w0 w.heap.size 38 [.int .i64 c, .int .i64 1, .int .i64 p, .int .i64 k, .string ⟨#[]⟩, .float .f64 0] := by rw [hw0]; exact is_new w 38 _
  rw [← hw0] at hb
  have HB := Lib.hid hb
  have HI := Lib.hid hI
  have HW := Lib.hid hw0
  clear hb hI hw0
  go_enter Try.func33, Try.ntmps33
  go_wp2_with fail
  rw [← HW.out]
  obtain ⟨g0, g1, g2, g3, g4, g5⟩ : w0.cell? ⟨w.heap.size, 0, none⟩ = some (.int .i64 c) ∧ w0.cell? ⟨w.heap.size, 1, none⟩ = some (.int .i64 1) ∧ w0.cell? ⟨w.heap.size, 2, none⟩ = some (.int .i64 p) ∧ w0.cell? ⟨w.heap.size, 3, none⟩ = some (.int .i64 k) ∧ w0.cell? ⟨w.heap.size, 4, none⟩ = some (.string ⟨#[]⟩) ∧ w0.cell? ⟨w.heap.size, 5, none⟩ = some (.float .f64 0) := ⟨is_cell HI.out 0, is_cell HI.out 1, is_cell HI.out 2, is_cell HI.out 3, is_cell HI.out 4, is_cell HI.out 5⟩
  refine bodyPost_ret (v := .agg #[.int .i64 c, .int .i64 1, .int .i64 p, .int .i64 k, .string ⟨#[]⟩, .float .f64 0]) (by simp [results, Try.f33, go_sem, g0, g1, g2, g3, g4, g5]) rfl ?_
  exact ⟨rfl, HB.out⟩

def m16a : Mv := (3, 1, 1, 2, [], 0)
def m16b : Mv := (1, 1, 2, 0, [], 0)
def m16c : Mv := (2, 1, 2, 1, [], 0)
def m16d : Mv := (2, 1, 9, 0, [], 0)
theorem i16a : insM [] m16a = ([m16a], 0, true) := rfl
theorem i16b : insM [m16a] m16b = ([m16b, m16a], 0, true) := rfl
theorem i16c : insM [m16b, m16a] m16c = ([m16b, m16c, m16a], 1, true) := rfl
theorem i16d : insM [m16b, m16c, m16a] m16d = ([m16b, m16c, m16a], 1, false) := rfl
theorem r16 : allP [] [m16b, m16c, m16a] = [(2, 1, [], 0)] := rfl
theorem s16 : stepsP [] [m16b, m16c, m16a] = [(m16b, true, false, zr), (m16c, true, true, (2, 0, [], 0)), (m16a, false, false, zr)] := rfl
/-- one more move -/
theorem add16 {g : Nat} {ms ms2 : List Mv} {c k p : Int} {n : Nat} {b : Bool} {v : Value} (h : insM ms (c, 1, k, p, [], 0) = (ms2, n, b)) (hv : addV (ms2, n, b) = v) (hl : ms.length ≤ 9000) (w : World) (ht : TreeAt w g [] (allP [] ms) (stepsP [] ms)) :
    Calls Try.prog 12 #[.pointer (some ⟨g, 0, none⟩), .agg #[.int .i64 c, .int .i64 1, .int .i64 p, .int .i64 k, .string ⟨#[]⟩, .float .f64 0]] w fun e w' => e = .returned v ∧ TreeAt w' g [] (allP [] ms2) (stepsP [] ms2) ∧ But g w w' := by
  have := tadd_c [] ms (c, 1, k, p, [], 0) (by simp) hl w ht
  rw [h, hv] at this
  exact this

set_option maxHeartbeats 4000000 in
theorem live16_c (w : World) :
    Calls Try.prog 10 #[] w fun e w' => e = .returned (.bool true) ∧ Below w.heap.size w w' := by
  go_enter Try.func10, Try.ntmps10
  go_wp2_with fail
  refine (tnew_c none 0 [] (by simp) (fun _ => rfl) w (At.nil _ _ _)).mono ?_
  rintro e w1 ⟨g, rfl, hg, ht, hb⟩
  have HB1 := Lib.hid hb
  have T1 := Lib.hid (show TreeAt w1 g [] (allP [] []) (stepsP [] []) from ht)
  have HGG := Lib.hid hg
  clear hb ht hg
  go_wp2_with fail
  refine (of16_c 3 1 2 _).mono ?_
  rintro e w2 ⟨rfl, hb⟩
  have T2 := Lib.hid (T1.out.keep hb)
  have HB2 := Lib.hid (HB1.out.trans (hb.mono HB1.out.size))
  clear hb
  go_wp2_with fail
  refine (add16 i16a (show addV _ = .tuple #[.int .i64 0, .bool true] from rfl) (by decide) _ T2.out).mono ?_
  rintro e w3 ⟨rfl, ht, hb⟩
  have T3 := Lib.hid ht
  have HB3 := Lib.hid (HB2.out.trans (hb.below HB2.out.size HGG.out))
  clear hb ht
  go_wp2_with fail
  refine (of16_c 1 2 0 _).mono ?_
  rintro e w4 ⟨rfl, hb⟩
  have T4 := Lib.hid (T3.out.keep hb)
  have HB4 := Lib.hid (HB3.out.trans (hb.mono HB3.out.size))
  clear hb
  go_wp2_with fail
  refine (add16 i16b (show addV _ = .tuple #[.int .i64 1, .bool true] from rfl) (by decide) _ T4.out).mono ?_
  rintro e w5 ⟨rfl, ht, hb⟩
  have T5 := Lib.hid ht
  have HB5 := Lib.hid (HB4.out.trans (hb.below HB4.out.size HGG.out))
  clear hb ht
  go_wp2_with fail
  refine (of16_c 2 2 1 _).mono ?_
  rintro e w6 ⟨rfl, hb⟩
  have T6 := Lib.hid (T5.out.keep hb)
  have HB6 := Lib.hid (HB5.out.trans (hb.mono HB5.out.size))
  clear hb
  go_wp2_with fail
  refine (add16 i16c (show addV _ = .tuple #[.int .i64 1, .bool true] from rfl) (by decide) _ T6.out).mono ?_
  rintro e w7 ⟨rfl, ht, hb⟩
  have T7 := Lib.hid ht
  have HB7 := Lib.hid (HB6.out.trans (hb.below HB6.out.size HGG.out))
  clear hb ht
  go_wp2_with fail
  refine (of16_c 2 9 0 _).mono ?_
  rintro e w8 ⟨rfl, hb⟩
  have T8 := Lib.hid (T7.out.keep hb)
  have HB8 := Lib.hid (HB7.out.trans (hb.mono HB7.out.size))
  clear hb
  go_wp2_with fail
  refine (add16 i16d (show addV _ = .tuple #[.int .i64 0, .bool false] from rfl) (by decide) _ T8.out).mono ?_
  rintro e w9 ⟨rfl, ht, hb⟩
  have T9 := Lib.hid ht
  have HB9 := Lib.hid (HB8.out.trans (hb.below HB8.out.size HGG.out))
  clear hb ht
  have ht := T9.out
  rw [r16, s16] at ht
  have TT := Lib.hid ht
  clear ht
  go_wp2_with fail
  refine (trows_c (by decide) _ TT.out).mono ?_
  rintro e w10 ⟨A1, c1, rfl, hown, hb⟩
  have TT2 := Lib.hid (TT.out.keep hb)
  have HB10 := Lib.hid (HB9.out.trans (hb.mono HB9.out.size))
  have hat : At w10 w10.heap.size A1 (tvs [(2, 1, [], 0)]) := by obtain ⟨_, _, e, h, _, _⟩ := own_at hown; cases e; exact h
  have HA1 := Lib.hid hat
  clear hb hown hat
  go_wp2_with fail
  refine (tsteps_c (by decide) _ TT2.out).mono ?_
  rintro e w11 ⟨A2, c2, rfl, hown, hb⟩
  have TT3 := Lib.hid (TT2.out.keep hb)
  have HB11 := Lib.hid (HB10.out.trans (hb.mono HB10.out.size))
  have hat : At w11 w11.heap.size A2 (pvs [(m16b, true, false, zr), (m16c, true, true, (2, 0, [], 0)), (m16a, false, false, zr)]) := by obtain ⟨_, _, e, h, _, _⟩ := own_at hown; cases e; exact h
  obtain ⟨B1, o1, rfl, -, a0z, a1z, -, -⟩ := row_cells (k := 0) (HA1.out.keep hb) rfl
  obtain ⟨B2, o2, rfl, -, -, -, -, -, -, -, -, q7z, -, -, -, -⟩ := step_cells (k := 1) hat rfl
  obtain ⟨x1, y1, e1, -, -, -, -, -, -, -, p6z, -, -, -, -, -⟩ := step_cells (k := 2) hat rfl
  cases e1
  have a0 : w11.cell? ⟨B1, o1, none⟩ = some (.int .i64 2) := by have := a0z; rw [Nat.zero_mul, Nat.add_zero] at this; exact this
  have a1 : w11.cell? ⟨B1, o1 + 1, none⟩ = some (.int .i64 1) := by have := a1z; rw [Nat.zero_mul, Nat.add_zero] at this; exact this
  have q7 : w11.cell? ⟨B2, o2 + 12 + 7, none⟩ = some (.bool true) := q7z
  have p6 : w11.cell? ⟨B2, o2 + 2 * 12 + 6, none⟩ = some (.bool false) := p6z
  clear hb hown hat a0z a1z q7z p6z
  go_wp2_with fail
  refine (tlog_c (by decide) _ TT3.out).mono ?_
  rintro e w12 ⟨A3, c3, rfl, hown, hb⟩
  have TT4 := Lib.hid (TT3.out.keep hb)
  have HB12 := Lib.hid (HB11.out.trans (hb.mono HB11.out.size))
  clear hb hown
  go_wp2_with fail
  refine (tbase_c (by decide) _ TT4.out).mono ?_
  rintro e w13 ⟨A4, c4, rfl, hown, hb⟩
  have HB13 := Lib.hid (HB12.out.trans (hb.mono HB12.out.size))
  clear hb hown
  go_wp2_with fail
  go_ret
  exact ⟨rfl, HB13.out⟩
end Go.Proofs.Ytfeopchghpihoaa
end
