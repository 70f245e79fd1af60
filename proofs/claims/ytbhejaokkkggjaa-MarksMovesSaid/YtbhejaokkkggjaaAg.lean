/-
  Raise, Join, Of: the program's.
-/
import Derived.Test.YtbhejaokkkggjaaAf
import Derived.Deep.RegionHeld3
namespace Go.Proofs.Ytbhejaokkkggjaa
open Go.RowKit Go.IntWalk
set_option maxRecDepth 100000
attribute [local go_sem] Oper.semAt_some

theorem hold2K {p q : Addr} {u v : Value} {w1 W W' : World} (h : W.cell? p = some u ∧ W.cell? q = some v ∧ Below w1.heap.size w1 W) (hb : Below W.heap.size W W') : W'.cell? p = some u ∧ W'.cell? q = some v ∧ Below w1.heap.size w1 W' :=
  ⟨keep_cell hb h.1, keep_cell hb h.2.1, h.2.2.trans (hb.mono h.2.2.size)⟩
theorem hold2dK {p q : Addr} {u v : Value} {w1 W : World} (h : W.cell? p = some u ∧ W.cell? q = some v ∧ Below w1.heap.size w1 W) : W.drew.cell? p = some u ∧ W.drew.cell? q = some v ∧ Below w1.heap.size w1 W.drew := ⟨h.1, h.2.1, h.2.2.drew⟩
theorem hold2sK {p q : Addr} {u v : Value} {w1 : World} (h0 : w1.cell? p = some u) (h1 : w1.cell? q = some v) : w1.drew.cell? p = some u ∧ w1.drew.cell? q = some v ∧ Below w1.heap.size w1 w1.drew := ⟨h0, h1, (Below.refl _ _).drew⟩
theorem hold2bK {p q : Addr} {u v : Value} {w1 W : World} (h : W.cell? p = some u ∧ W.cell? q = some v ∧ Below w1.heap.size w1 W) : Below w1.heap.size w1 W := h.2.2
theorem hold2NK {N : Nat} {p q : Addr} {u v : Value} {w1 W W' : World} (h : W.cell? p = some u ∧ W.cell? q = some v ∧ Below w1.heap.size w1 W) (hb : Below N W W') (hN : w1.heap.size ≤ N) (hp : p.block < w1.heap.size) (hq : q.block < w1.heap.size) : W'.cell? p = some u ∧ W'.cell? q = some v ∧ Below w1.heap.size w1 W' :=
  ⟨(hb.cell (Nat.lt_of_lt_of_le hp hN)).trans h.1, (hb.cell (Nat.lt_of_lt_of_le hq hN)).trans h.2.1, h.2.2.trans (hb.mono hN)⟩
/-- what only turns memory above B, and B not below what was there -/
theorem own_lowK {w : World} {B B2 : Nat} {e : TypeId} {size : Nat} {v : Value} {n : Nat} {xs : List Value} (h : w.ownsRow B e size v n xs) (hB : B2 ≤ B) : w.ownsRow B2 e size v n xs := by
  refine ⟨h.1, ?_⟩
  rcases h.2 with h | ⟨g, cap, cur, hv, hg, r⟩
  · exact .inl h
  · exact .inr ⟨g, cap, cur, hv, Nat.le_trans hB hg, r⟩
/-- marks that are told -/
def ToldK (N : List Mk) (w : World) (e : Ending) (w' : World) : Prop := ∃ A c, e = .returned (.slice A N.length c) ∧ At w' w'.heap.size A (kvs N) ∧ (A = none → c = 0) ∧ N.length ≤ c ∧ Below w.heap.size w w'
theorem FreshK.told {N : List Mk} {w w' : World} {e : Ending} (h : FreshK N w e w') : ToldK N w e w' := by
  obtain ⟨A, c, rfl, ho, hb⟩ := h
  obtain ⟨A', c', hv, ha, _, hc⟩ := own_at ho
  cases hv
  exact ⟨A, c, rfl, ha, own_noneK ho, hc, hb⟩

set_option maxHeartbeats 4000000 in
theorem kRaise_c (A : Option Addr) (cap : Nat) (l : List Mk) (c r : Int) (hl : l.length ≤ 50000) (hA : A = none → cap = 0) (w : World) (hc : At w w.heap.size A (kvs l)) :
    Calls Try.prog 45 #[.slice A l.length cap, .agg #[.int .i64 c, .int .i64 r]] w (FreshK (raiseK l c r) w) := by
  obtain ⟨w0, hw0⟩ : ∃ w0, w0 = w.alloc (.cells #[.int .i64 c, .int .i64 r] 35) := ⟨_, rfl⟩
  have hb0 : Below w.heap.size w w0 := by rw [hw0]; exact (Below.refl _ _).alloc (Nat.le_refl _) _
  have hI0 : Is w0 w.heap.size 35 [.int .i64 c, .int .i64 r] := by rw [hw0]; exact is_new w 35 _
  obtain ⟨G, hG⟩ : ∃ G, G = w.heap.size := ⟨_, rfl⟩
  rw [← hG] at hI0
  obtain ⟨t0, t1⟩ := box2K hI0
  have hGl : G < w0.heap.size := is_lt hI0
  have HC := Lib.hid (hc.keep hb0)
  have HG := Lib.hid hG
  have HW := Lib.hid hw0
  have HB0 := Lib.hid hb0
  have HA := Lib.hid hA
  clear hw0 hb0 hI0 hG hc hA
  go_enter Try.func45, Try.ntmps45
  go_wp2_with fail
  rw [← HW.out, ← HG.out]
  go_region_held3 (fun w' => w'.cell? ⟨G, 0, none⟩ = some (.int .i64 c) ∧ w'.cell? ⟨G, 1, none⟩ = some (.int .i64 r) ∧ Below w0.heap.size w0 w')
    (first
      | (exact hold2K (by assumption) hbn)
      | (exact hold2NK (by assumption) hbr (Nat.le_refl _) hGl hGl)
      | (exact hold2dK (by assumption))
      | (exact hold2sK t0 t1)
      | go_keep)
    (first
      | (go_at_call 76; refine (kclone_c A cap l (by omega) HA.out _ (HC.out.keep (hold2bK (by assumption)))).mono ?_; rintro e wa ⟨E1, f1, rfl, hown, hbn⟩)
      | (go_at_call 75; refine (kraise_c _ E1 f1 l c r hl _ hbn.size hown).mono ?_; rintro e wb ⟨E2, f2, rfl, hown2, hbr⟩))
  have HO := Lib.hid (own_lowK hown2 HB0.out.size)
  have HBZ := Lib.hid (HB0.out.trans ((hold2bK (by assumption) : Below w0.heap.size w0 wb).mono HB0.out.size))
  clear t0 t1 hown hown2 hbn hbr
  go_wp2_with fail
  go_ret
  exact ⟨E2, f2, rfl, HO.out, HBZ.out⟩
theorem kRaise_k {A : Option Addr} {cap : Nat} {l N : List Mk} {c r : Int} (h : raiseK l c r = N) (hl : l.length ≤ 50000) (hA : A = none → cap = 0) {w : World} (hc : At w w.heap.size A (kvs l)) :
    Calls Try.prog 45 #[.slice A l.length cap, .agg #[.int .i64 c, .int .i64 r]] w (FreshK N w) := by
  subst h; exact kRaise_c A cap l c r hl hA w hc

set_option maxHeartbeats 4000000 in
theorem kjoin_c (A1 A2 : Option Addr) (c1 c2 : Nat) (a b : List Mk) (hl : a.length + b.length ≤ 40000) (hA : A1 = none → c1 = 0) (w : World) (h1 : At w w.heap.size A1 (kvs a)) (h2 : At w w.heap.size A2 (kvs b)) :
    Calls Try.prog 47 #[.slice A1 a.length c1, .slice A2 b.length c2] w (FreshK (joinK a b) w) := by
  have H2 := Lib.hid h2
  have HCL := Lib.hid (kclone_c A1 c1 a (by omega) hA w h1)
  clear h1 h2 hA
  go_enter Try.func47, Try.ntmps47
  go_wp2_with fail
  refine HCL.out.mono ?_
  rintro e w1 ⟨A3, c3, rfl, hown, hb1⟩
  have HO := Lib.hid hown
  have HB := Lib.hid hb1
  clear hown hb1
  go_wp2_with fail
  go_loopw [5, 12] (fun v i wr => ∃ (k : Nat) (A : Option Addr) (cp : Nat), i = .int .i64 (k : Int) ∧ k ≤ b.length ∧ v = .slice A (joinK a (b.take k)).length cp ∧ wr.ownsRow w.heap.size 70 2 (.slice A (joinK a (b.take k)).length cp) (joinK a (b.take k)).length (kvs (joinK a (b.take k))) ∧ Below w.heap.size w wr) (fun _ i _ => b.length - (intOf i).toNat)
  case atStart => exact ⟨0, A3, c3, rfl, Nat.zero_le _, rfl, HO.out, HB.out⟩
  case round =>
    obtain ⟨k, A, cp, rfl, hk, rfl, hown, hbw⟩ := hrel
    have HOW := Lib.hid hown
    have HBW := Lib.hid hbw
    clear hown hbw
    by_cases hlt : k < b.length
    · obtain ⟨m, hm⟩ := some_at hlt
      obtain ⟨b0, o0, rfl, -, x0, x1⟩ := mark_cells (H2.out.keep HBW.out) hm
      have hk0 : (0 : Int) ≤ (k : Int) := by omega
      have hkl : (k : Int) < (b.length : Int) := by omega
      have HST := Lib.hid (joinK_take (a := a) hm)
      have hjl := joinK_len a (b.take k)
      rw [List.length_take] at hjl
      obtain ⟨W, hW⟩ : ∃ W, W = wr.alloc (.cells #[.int .i64 (kr m), .int .i64 (kc m)] 70) := ⟨_, rfl⟩
      have hbx : Below wr.heap.size wr W := by rw [hW]; exact (Below.refl _ _).alloc (Nat.le_refl _) _
      have hox := below_ownK HOW.out hbx
      have HR := Lib.hid (kraise_c w.heap.size A cp (joinK a (b.take k)) (kc m) (kr m) (by omega) W (Nat.le_trans HBW.out.size hbx.size) hox)
      have HBX := Lib.hid (HBW.out.trans (hbx.mono HBW.out.size))
      have HWW := Lib.hid hW
      rw [← HST.out] at HR
      clear hm hbx hox hW
      go_wp2_with fail
      rw [← HWW.out]
      refine HR.out.mono ?_
      rintro e w3 ⟨A5, c5, rfl, ho5, hb5⟩
      have HO5 := Lib.hid ho5
      have HB5 := Lib.hid (HBX.out.trans hb5)
      clear ho5 hb5 x0 x1
      go_wp2_with fail
      go_roundw
      case rel => exact ⟨k + 1, A5, c5, by go_num, by omega, rfl, HO5.out, HB5.out⟩
      case measure => simp only [intOf]; omega
    · obtain rfl : k = b.length := by omega
      have ho := HOW.out
      rw [List.take_length] at ho ⊢
      have HOZ := Lib.hid ho
      clear ho HOW
      go_wp2_with fail
      go_ret
      exact ⟨A, cp, rfl, HOZ.out, HBW.out⟩

set_option maxHeartbeats 4000000 in
theorem kof_c (A2 : Option Addr) (c2 : Nat) (b : List Mv) (hl : b.length ≤ 40000) (w : World) (h2 : At w w.heap.size A2 (mvs b)) :
    Calls Try.prog 51 #[.slice A2 b.length c2] w (FreshK (ofK b) w) := by
  have H2 := Lib.hid h2
  clear h2
  go_enter Try.func51, Try.ntmps51
  go_wp2_with fail
  go_loopw [3, 8] (fun v i wr => ∃ (k : Nat) (A : Option Addr) (cp : Nat), i = .int .i64 (k : Int) ∧ k ≤ b.length ∧ v = .slice A (ofK (b.take k)).length cp ∧ wr.ownsRow w.heap.size 70 2 (.slice A (ofK (b.take k)).length cp) (ofK (b.take k)).length (kvs (ofK (b.take k))) ∧ Below w.heap.size w wr) (fun _ i _ => b.length - (intOf i).toNat)
  case atStart => exact ⟨0, none, 0, rfl, Nat.zero_le _, rfl, World.ownsRow_nil _ _ _ _, Below.refl _ _⟩
  case round =>
    obtain ⟨k, A, cp, rfl, hk, rfl, hown, hbw⟩ := hrel
    have HOW := Lib.hid hown
    have HBW := Lib.hid hbw
    clear hown hbw
    by_cases hlt : k < b.length
    · obtain ⟨m, hm⟩ := some_at hlt
      obtain ⟨b0, o0, rfl, -, x0, x1, x2, x3, x4, x5⟩ := move_cells (H2.out.keep HBW.out) hm
      have hk0 : (0 : Int) ≤ (k : Int) := by omega
      have hkl : (k : Int) < (b.length : Int) := by omega
      have HST := Lib.hid (ofK_take hm)
      have hjl := ofK_len (b.take k)
      rw [List.length_take] at hjl
      obtain ⟨W, hW⟩ : ∃ W, W = wr.alloc (.cells #[.int .i64 (mc m), .int .i64 (mr m), .int .i64 (pa (mw m)), .int .i64 (ch (mw m)), .string (ba (nm (mw m))), .float .f64 (rk (mw m))] 38) := ⟨_, rfl⟩
      have hbx : Below wr.heap.size wr W := by rw [hW]; exact (Below.refl _ _).alloc (Nat.le_refl _) _
      have hox := below_ownK HOW.out hbx
      have HR := Lib.hid (kraise_c w.heap.size A cp (ofK (b.take k)) (mc m) (mr m) (by omega) W (Nat.le_trans HBW.out.size hbx.size) hox)
      have HBX := Lib.hid (HBW.out.trans (hbx.mono HBW.out.size))
      have HWW := Lib.hid hW
      rw [← HST.out] at HR
      clear hm hbx hox hW
      go_wp2_with fail
      rw [← HWW.out]
      refine HR.out.mono ?_
      rintro e w3 ⟨A5, c5, rfl, ho5, hb5⟩
      have HO5 := Lib.hid ho5
      have HB5 := Lib.hid (HBX.out.trans hb5)
      clear ho5 hb5 x0 x1 x2 x3 x4 x5
      go_wp2_with fail
      go_roundw
      case rel => exact ⟨k + 1, A5, c5, by go_num, by omega, rfl, HO5.out, HB5.out⟩
      case measure => simp only [intOf]; omega
    · obtain rfl : k = b.length := by omega
      have ho := HOW.out
      rw [List.take_length] at ho ⊢
      have HOZ := Lib.hid ho
      clear ho HOW
      go_wp2_with fail
      go_ret
      exact ⟨A, cp, rfl, HOZ.out, HBW.out⟩
end Go.Proofs.Ytbhejaokkkggjaa
