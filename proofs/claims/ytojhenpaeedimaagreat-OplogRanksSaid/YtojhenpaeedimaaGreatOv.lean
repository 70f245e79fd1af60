/-
 caught, of moves; Decode of columns: the program's.
 Cut, the document's.
 PutRanks, the document's: two rows beside one another.
 TakeRanks, the document's.
-/
import Derived.Test.YtojhenpaeedimaaGreatOr
import Derived.Test.YtojhenpaeedimaaGreatOq
import Derived.Test.YtojhenpaeedimaaGreatBl
import Derived.Test.YtojhenpaeedimaaGreatOc
import Derived.Test.YtojhenpaeedimaaGreatPi
import Derived.Test.YtojhenpaeedimaaGreatHe
import Derived.Test.YtojhenpaeedimaaGreatOj
import Derived.Test.YtojhenpaeedimaaGreatHh
section
namespace Go.Proofs.YtojhenpaeedimaaGreat
open Go.RowKit Go.IntWalk
open Pk Rf Fl Wd Ol Dl Ru Fg Dt Rl
set_option maxRecDepth 100000
theorem catchM_panic (p : Addr) (x e0 : Int) (older : List PanicEntry) (w : World) (hp : w.cell? p = some (.int .i64 e0)) (hf : w.frozen? p = false) :
  CallsD Tryz.prog 119 #[.pointer (some p)] (.panicking ({ v := .iface 27 (.int .i64 x), recovered := false } :: older)) w fun e u' w' =>
   e = .returned (.tuple #[]) ∧ u' = .panicking ({ v := .iface 27 (.int .i64 x), recovered := true } :: older) ∧ w' = w.setCell p (.int .i64 x) := by
 have hta := assert_errno x
 refine callsD_of_wpS Tryz.func119 rfl fun c₀ cs hu => ?_
 rw [show (#[Value.pointer (some p)] ++ Array.replicate (Tryz.f119.ntmps - #[Value.pointer (some p)].size) undef) = #[Value.pointer (some p), undef, undef, undef, undef, undef, undef, undef, undef, undef] from rfl]
 apply wpS_seq
 apply wpS_region
 simp [wpOpsS, go_sem, recoverD, hu, hta, Exit.thenS]
 apply wpS_seq
 apply wpS_region
 simp [wpOpsS, go_sem, Exit.thenS]
 refine wpS_cond (t := true) rfl ?_
 simp only [if_true]
 apply wpS_region
 simp [wpOpsS, go_sem, hp, hf, bodyPostS, results, Tryz.results119]
theorem catchM_idle (p : Addr) (w : World) :
  CallsD Tryz.prog 119 #[.pointer (some p)] .returning w fun e u' w' => e = .returned (.tuple #[]) ∧ u' = .returning ∧ w' = w := by
 have hta := assert_nil
 refine callsD_of_wpS Tryz.func119 rfl fun c₀ cs hu => ?_
 rw [show (#[Value.pointer (some p)] ++ Array.replicate (Tryz.f119.ntmps - #[Value.pointer (some p)].size) undef) = #[Value.pointer (some p), undef, undef, undef, undef, undef, undef, undef, undef, undef] from rfl]
 apply wpS_seq
 apply wpS_region
 simp [wpOpsS, go_sem, recoverD, hu, hta, Exit.thenS]
 apply wpS_seq
 apply wpS_region
 simp [wpOpsS, go_sem, Exit.thenS]
 refine wpS_cond (t := false) rfl ?_
 simp only [Bool.false_eq_true, if_false]
 refine wpS_of_wp (wp_skip ?_)
 cases c₀
 simp_all [bodyPostS, results, Tryz.results119]
/-- how moves are told, with an error -/
def DmEnd (r : List Mv × Int) (w : World) (e : Ending) (w' : World) : Prop :=
 Below w.heap.size w w' ∧ ∃ (A : Option Addr) (cap : Nat) (l : List Mv), e = .returned (.tuple #[.slice A l.length cap, .int .i64 r.2]) ∧ SimL l r.1 ∧ At w' w'.heap.size A (mvs l)
theorem at_other {w : World} {g : Nat} {A : Option Addr} {xs : List Value} {v : Value} (hA : ∀ a, A = some a → a.block ≠ g) (h : At w w.heap.size A xs) : At (w.setCell ⟨g, 0, none⟩ v) (w.setCell ⟨g, 0, none⟩ v).heap.size A xs := fun i u hu => by
 obtain ⟨b, o, e, hlt, hcell⟩ := h i u hu
 have hne : b ≠ g := hA ⟨b, o, none⟩ e
 have hc := (World.cell?_setCell_other (w := w) ⟨g, 0, none⟩ ⟨b, o + i, none⟩ v (by intro e2; injection e2 with e2 _ _; exact hne e2.symm)).trans hcell
 exact ⟨b, o, e, World.block_lt_of_cell? _ _ hc, hc⟩
theorem at_farM {w : World} {g : Nat} {A : Option Addr} {l : List Mv} {u v : Value} {t : TypeId} (hi : Is w g t [u]) (h : At w w.heap.size A (mvs l)) : At (w.setCell ⟨g, 0, none⟩ v) (w.setCell ⟨g, 0, none⟩ v).heap.size A (mvs l) := by
 cases l with
 | nil => exact fun i x hx => (by simp [mvs] at hx)
 | cons m l =>
  refine at_other (fun a ha hb => ?_) h
  obtain ⟨b, o, e, -, hcell⟩ := h 1 (.int .i64 (mr m)) rfl
  rw [e] at ha
  injection ha with ha
  subst ha
  simp only at hb
  subst hb
  rw [is_cell hi] at hcell
  simp at hcell
theorem caughtM_y (g : Nat) (lb : Array Value) (us : List Mv) (eg : ∀ args w, (callFunc g args).run Tryz.prog w = .ok (.enter g args) w) (w : World) (hc : ∀ W, Below w.heap.size w W → Calls Tryz.prog g lb W (TmEnd (us, 0) W)) :
  Calls Tryz.prog 68 #[.func (.func g) #[] lb] w (DmEnd (us, 0) w) := by
 have hmf := make_func
 obtain ⟨W1, hW1⟩ : ∃ W1, W1 = w.alloc (.cells #[.int .i64 0] 27) := ⟨_, rfl⟩
 have b1 : Below w.heap.size w W1 := by rw [hW1]; exact (Below.refl _ _).alloc (Nat.le_refl _) _
 have hcall := hc W1 b1
 have hi : Is W1 w.heap.size 27 [.int .i64 0] := by rw [hW1]; exact is_new w 27 [.int .i64 0]
 rw [hW1] at hcall
 clear hc
 go_enter_defers Tryz.func68, Tryz.ntmps68
 go_wp2_with (go_at_fn g; refine hcall.mono ?_; rintro e w2 ⟨hb2, he⟩; simp only [ne_eq, not_true_eq_false, if_false] at he; obtain ⟨A, cap, ys, rfl, h1, h2, h3⟩ := he; rw [← hW1] at hb2; have hi2 := is_below hi hb2 (is_lt hi); have c0 := is_cell hi2 0; have c1 := is_free hi2 0)
 refine leaves_cons (f := 119) (args := #[.pointer (some ⟨w.heap.size, 0, none⟩)]) (by simp) (by simp [go_sem]) ?_
 refine (catchM_idle _ _).mono ?_
 rintro e u' w'' ⟨rfl, rfl, rfl⟩
 have hi3 := is_set hi2 0 (.int .i64 0)
 have hres : (w2.setCell ⟨w.heap.size, 0, none⟩ (.int .i64 0)).cell? ⟨w.heap.size, 0, none⟩ = some (.int .i64 0) := is_cell hi3 0
 refine ⟨.tuple #[.slice A ys.length cap, .int .i64 0], by simp [results, Tryz.results68, go_sem, hres], ?_⟩
 refine ⟨(b1.trans (hb2.mono b1.size)).setCell (p := ⟨w.heap.size, 0, none⟩) (Nat.le_refl _) _, A, cap, ys, rfl, h1, at_farM hi2 h2⟩
theorem caughtM_n (g : Nat) (lb : Array Value) (r : List Mv × Int) (hr : r.2 ≠ 0) (hr1 : r.1 = []) (eg : ∀ args w, (callFunc g args).run Tryz.prog w = .ok (.enter g args) w) (w : World) (hc : ∀ W, Below w.heap.size w W → Calls Tryz.prog g lb W (TmEnd r W)) :
  Calls Tryz.prog 68 #[.func (.func g) #[] lb] w (DmEnd r w) := by
 have hmf := make_func
 obtain ⟨x, hx⟩ : ∃ x, r.2 = x := ⟨_, rfl⟩
 obtain ⟨W1, hW1⟩ : ∃ W1, W1 = w.alloc (.cells #[.int .i64 0] 27) := ⟨_, rfl⟩
 have b1 : Below w.heap.size w W1 := by rw [hW1]; exact (Below.refl _ _).alloc (Nat.le_refl _) _
 have hcall := (hc W1 b1).mono (R' := fun e w' => e = Pn x ∧ Below W1.heap.size W1 w') (fun e w' h => by
  obtain ⟨h1, h2⟩ := h
  rw [if_pos hr, hx] at h2
  exact ⟨h2, h1⟩)
 have hi : Is W1 w.heap.size 27 [.int .i64 0] := by rw [hW1]; exact is_new w 27 [.int .i64 0]
 rw [hW1] at hcall
 clear hc
 go_enter_defers Tryz.func68, Tryz.ntmps68
 go_wp2_with (go_at_fn g; refine hcall.mono ?_; rintro e w2 ⟨rfl, hb2⟩; rw [← hW1] at hb2; have hi2 := is_below hi hb2 (is_lt hi); have c0 := is_cell hi2 0; have c1 := is_free hi2 0)
 refine leaves_cons (f := 119) (args := #[.pointer (some ⟨w.heap.size, 0, none⟩)]) (by simp) (by simp [go_sem]) ?_
 refine (catchM_panic _ x 0 [] _ c0 c1).mono ?_
 rintro e u' w'' ⟨rfl, rfl, rfl⟩
 have hi3 := is_set hi2 0 (.int .i64 x)
 have hres : (w2.setCell ⟨w.heap.size, 0, none⟩ (.int .i64 x)).cell? ⟨w.heap.size, 0, none⟩ = some (.int .i64 x) := is_cell hi3 0
 refine ⟨.tuple #[.slice none 0 0, .int .i64 x], by simp [results, Tryz.results68, go_sem, hres], ?_⟩
 refine ⟨(b1.trans (hb2.mono b1.size)).setCell (p := ⟨w.heap.size, 0, none⟩) (Nat.le_refl _) _, none, 0, [], by rw [hx]; rfl, by rw [hr1]; trivial, At.nil _ _ _⟩
set_option maxHeartbeats 4000000 in
theorem pdecO_c (A0 : Option Addr) (cap0 : Nat) (l : List Ck.Chk) (hl : l.length ≤ 100000) (hs : ∀ c ∈ l, c.2.length ≤ 90000) (w : World) (hc0 : At w w.heap.size A0 (Ck.cvs l)) :
  Calls Tryz.prog 21 #[.slice A0 l.length cap0] w (DmEnd (decO l) w) := by
 obtain ⟨N, hN⟩ : ∃ N, l.length = N := ⟨_, rfl⟩
 obtain ⟨W1, hW1⟩ : ∃ W1, W1 = w.alloc (.cells #[.slice A0 N cap0] 26) := ⟨_, rfl⟩
 have b1 : Below w.heap.size w W1 := by rw [hW1]; exact (Below.refl _ _).alloc (Nat.le_refl _) _
 have i0 : Is W1 w.heap.size 26 [.slice A0 N cap0] := by rw [hW1]; exact is_new w 26 [.slice A0 N cap0]
 have hclo : ∀ W, Below W1.heap.size W1 W → Calls Tryz.prog 69 #[.pointer (some ⟨w.heap.size, 0, none⟩)] W (TmEnd (decO l) W) := by
  intro W hb
  have c0 : W.cell? ⟨w.heap.size, 0, none⟩ = some (.slice A0 N cap0) := is_cell (is_below i0 hb (is_lt i0)) 0
  have ht := takeMoves_c A0 cap0 l hl hs W ((hc0.keep b1).keep hb)
  rw [hN] at ht
  have HT := Lib.hid ht
  clear ht
  by_cases hx : (decO l).2 = 0
  ·have HT2 := Lib.hid (HT.out.mono (R' := fun e w' => Below W.heap.size W w' ∧ ∃ (A : Option Addr) (cap : Nat) (l' : List Mv), e = .returned (.slice A l'.length cap) ∧ SimL l' (decO l).1 ∧ At w' w'.heap.size A (mvs l') ∧ l'.length ≤ cap) (fun e w' h => by
    obtain ⟨h1, h2⟩ := h
    rw [if_neg (by simpa using hx)] at h2
    exact ⟨h1, h2⟩))
   clear HT
   go_enter Tryz.func69, Tryz.ntmps69
   go_wp2_with fail
   refine HT2.out.mono ?_
   rintro e w2 ⟨hb2, A, cap, ys, rfl, h1, h2, h3⟩
   go_wp2_with fail
   go_ret
   refine ⟨hb2, ?_⟩
   rw [if_neg (by simpa using hx)]
   exact ⟨A, cap, ys, rfl, h1, h2, h3⟩
  ·have HT2 := Lib.hid (HT.out.mono (R' := fun e w' => e = Pn (decO l).2 ∧ Below W.heap.size W w') (fun e w' h => by
    obtain ⟨h1, h2⟩ := h
    rw [if_pos hx] at h2
    exact ⟨h2, h1⟩))
   clear HT
   go_enter Tryz.func69, Tryz.ntmps69
   go_wp2_with fail
   refine HT2.out.mono ?_
   rintro e w2 ⟨rfl, hb2⟩
   go_wp2_with fail
   exact ⟨rfl, tmEnd_no rfl hx hb2⟩
 have eg : ∀ args w, (callFunc 69 args).run Tryz.prog w = .ok (.enter 69 args) w := fun _ _ => rfl
 have hca : Calls Tryz.prog 68 #[.func (.func 69) #[] #[.pointer (some ⟨w.heap.size, 0, none⟩)]] W1 (DmEnd (decO l) W1) := by
  by_cases hx : (decO l).2 = 0
  ·obtain ⟨us, hu⟩ : ∃ us, decO l = (us, 0) := ⟨(decO l).1, Prod.ext rfl hx⟩
   rw [hu] at hclo ⊢
   exact caughtM_y _ _ us eg W1 hclo
  ·exact caughtM_n _ _ _ hx (decO_none hx) eg W1 hclo
 have HCA := Lib.hid hca
 have HB1 := Lib.hid b1
 have HW := Lib.hid hW1
 have hmf := make_func
 rw [hN]
 clear hclo hca b1 i0 hW1 hN
 go_enter Tryz.func21, Tryz.ntmps21
 go_wp2_with fail
 rw [← HW.out]
 refine HCA.out.mono ?_
 rintro e w2 ⟨hb2, A, cap, ys, rfl, h1, h2⟩
 go_wp2_with fail
 go_ret2
 exact ⟨HB1.out.trans (hb2.mono HB1.out.size), A, cap, ys, rfl, h1, h2⟩
end Go.Proofs.YtojhenpaeedimaaGreat
end
section
namespace Go.Proofs.YtojhenpaeedimaaGreat
open Go.RowKit Go.IntWalk
open Pk Rf Fl Wd Ol Dl Ru
set_option maxRecDepth 100000
attribute [local go_sem] Oper.semAt_some
set_option maxHeartbeats 4000000 in
theorem rcut_v {s a b : List UInt8} {x : Int} (hs : s.length ≤ 1000000000) (h : cutP s = (a, b, x)) (w : World) :
  Calls Tryz.prog 14 #[.string (ba s)] w fun e w' => e = .returned (.tuple #[.string (ba a), .string (ba b), .int .i64 x]) ∧ Below w.heap.size w w' := by
 obtain ⟨s1, hs1⟩ : ∃ s1, numS ⟨s, 0⟩ = s1 := ⟨_, rfl⟩
 obtain ⟨n, hn⟩ : ∃ n, numV ⟨s, 0⟩ = n := ⟨_, rfl⟩
 have hnl := numV_lt ⟨s, 0⟩
 have hll := numS_le ⟨s, 0⟩
 have hbs := ba_size s
 unfold cutP at h
 rw [hs1] at h hll
 rw [hn] at h hnl
 simp only at hll
 obtain ⟨W1, hW1⟩ : ∃ W1, W1 = w.alloc (.cells #[.string (ba s), .int .i64 0, .int .i64 0] 81) := ⟨_, rfl⟩
 have hr1 : Ref W1 w.heap.size s ⟨s, 0⟩ := by rw [hW1]; exact ref_mk (Nat.zero_le _) rfl (is_new w 81 [.string (ba s), .int .i64 0, .int .i64 0])
 have b1 : Below w.heap.size w W1 := by rw [hW1]; exact (Below.refl _ _).alloc (Nat.le_refl _) _
 have HW := Lib.hid hW1
 have HB1 := Lib.hid b1
 have HR1 := Lib.hid hr1
 have HH := Lib.hid h
 have H1 := Lib.hid hs1
 have HN := Lib.hid hn
 obtain ⟨g, hg⟩ : ∃ g, w.heap.size = g := ⟨_, rfl⟩
 have HG := Lib.hid hg
 clear h hs1 hn hr1 b1 hW1 hg
 go_enter Tryz.func14, Tryz.ntmps14
 go_wp2_with fail
 rw [← HW.out]
 have hr1 := HR1.out
 rw [HG.out] at hr1
 rw [HG.out]
 refine (rnum_m g s ⟨s, 0⟩ (by omega) _ hr1).mono ?_
 rintro e w2 ⟨rfl, hr2, hk2⟩
 rw [H1.out] at hr2
 rw [HN.out]
 have HB2 := Lib.hid (below_only HB1.out hk2 HB1.out.size (Nat.le_of_eq HG.out))
 obtain ⟨k1, hk1, hd1, hra⟩ := hr2
 have y2 := ref_e hra
 have HR2 : Hid (Ref w2 g s s1) := Lib.hid ⟨k1, hk1, hd1, hra⟩
 have HD1 := Lib.hid hd1
 clear hk2 hr1 HR1 hd1
 rcases Decidable.em (s1.e ≠ 0) with he | he
 ·have hh := HH.out
  rw [if_pos he] at hh
  injection hh with ha hh
  injection hh with hb hx
  subst ha hb hx
  have hq1 : (s1.e != 0) = true := by simpa using he
  have hq2 : (s1.e == 0) = false := by simpa using he
  clear HH hra
  go_wp2_with fail
  go_quiet (fail)
  go_wp2_with fail
  go_ret3
  exact ⟨rfl, below_drewN HB2.out _⟩
 have hh := HH.out
 rw [if_neg he] at hh
 have he0 : s1.e = 0 := by simpa using he
 have hq1 : (s1.e != 0) = false := by rw [he0]; rfl
 have hq2 : (s1.e == 0) = true := by rw [he0]; rfl
 have HH2 := Lib.hid hh
 have HE0 := Lib.hid he0
 clear hh HH he he0
 go_wp2_with fail
 refine (rleft_m g s s1 (by omega) _ HR2.out).mono ?_
 rintro e w3 ⟨rfl, q, rfl⟩
 have hwu : IntKind.u64.wrap (s1.l.length : Int) = (s1.l.length : Int) := by rw [IntKind.wrap_u64]; omega
 rcases Decidable.em (s1.l.length < n) with hlt | hlt
 ·have hh := HH2.out
  rw [if_pos hlt] at hh
  injection hh with ha hh
  injection hh with hb hx
  subst ha hb hx
  have hli : (s1.l.length : Int) < (n : Int) := by omega
  clear hra
  go_wp2_with fail
  go_ret3
  exact ⟨rfl, below_drewN HB2.out _⟩
 have hh := HH2.out
 rw [if_neg hlt] at hh
 injection hh with ha hh
 injection hh with hb hx
 have hli : ¬ (s1.l.length : Int) < (n : Int) := by omega
 have hnn : IntKind.i64.wrap (n : Int) = (n : Int) ∧ Go.RowKit.wrap64 (n : Int) = (n : Int) := ⟨IntWalk.i64_in _ (by omega), wrap64_in _ (by omega)⟩
 obtain ⟨hn1, hn2⟩ := hnn
 have ht := take_ok (n := (n : Int)) (s := s1) HE0.out (by omega)
 rw [Int.toNat_natCast] at ht
 obtain ⟨ht1, ht2⟩ := ht
 have HT1 := Lib.hid ht1
 have HT2 := Lib.hid ht2
 have HA := Lib.hid ha
 have HBB := Lib.hid hb
 subst hx
 clear ht1 ht2 ha hb HH2 hra
 go_wp2_with fail
 refine (rtake_m g (n : Int) s s1 (by omega) _ (ref_drewN' HR2.out q)).mono ?_
 rintro e w4 ⟨rfl, hr4, hk4⟩
 have HB4 := Lib.hid (below_only (below_drewN HB2.out q) hk4 (below_drewN HB2.out q).size (Nat.le_of_eq HG.out))
 rw [HT1.out, HA.out]
 rw [HT2.out] at hr4
 obtain ⟨k2, hk2, hd2, hra2⟩ := hr4
 have hdb : s.drop k2 = b := hd2.trans HBB.out
 have y3 := ref_at hra2
 have hex := extract_drop s k2
 rw [hdb] at hex
 have hkl : (k2 : Int) ≤ (s.length : Int) := by omega
 have hk0 : (0 : Int) ≤ (k2 : Int) := by omega
 clear hk4 hd2 hdb y2 hli hlt
 go_wp2_with fail
 go_quiet (fail)
 go_wp2_with fail
 go_ret3
 exact ⟨rfl, below_drewN HB4.out _⟩
end Go.Proofs.YtojhenpaeedimaaGreat
end
section
namespace Go.Proofs.YtojhenpaeedimaaGreat
open Go.RowKit Go.IntWalk
open Pk Rf Fl Wd Ol Dl Ru Fg Dt Rl
set_option maxRecDepth 100000
attribute [local go_sem] Oper.semAt_some
/-- two rows of two types do not meet -/
theorem own_types {w : World} {B B' : Nat} {e e' : TypeId} {s s' n n' : Nat} {v v' : Value} {xs xs' : List Value} (h : w.ownsRow B e s v n xs) (h' : w.ownsRow B' e' s' v' n' xs') (hne : e ≠ e') : v.ownBlock = none ∨ v.ownBlock ≠ v'.ownBlock := by
 rcases h.2 with ⟨rfl, _⟩ | ⟨g, cap, cur, rfl, _, hh, _⟩
 ·exact .inl rfl
 ·right
  rcases h'.2 with ⟨rfl, _⟩ | ⟨g', cap', cur', rfl, _, hh', _⟩
  ·simp [Value.ownBlock]
  ·intro he
   have hg : g = g' := by simpa [Value.ownBlock] using he
   subst hg
   rw [hh] at hh'
   injection hh' with hh'
   injection hh' with _ hh'
   exact hne hh'
theorem own_shape {w : World} {B : Nat} {e : TypeId} {s n : Nat} {v : Value} {xs : List Value} (h : w.ownsRow B e s v n xs) : ∃ A c, v = .slice A n c ∧ (A = none → c = 0) := by
 rcases h.2 with ⟨rfl, h2⟩ | ⟨g, cap, cur, rfl, _, hh, _⟩
 ·exact ⟨none, 0, by rw [h2], fun _ => rfl⟩
 ·exact ⟨_, _, rfl, fun e => by cases e⟩
theorem bits_nz (x : Nat) : ((cb x : Int) != 0) = nz (cb x) ∧ ((cb x : Int) == 0) = !nz (cb x) := by
 unfold nz
 by_cases h : cb x = 0
 ·rw [h]; exact ⟨rfl, rfl⟩
 ·have h2 : ¬ (cb x : Int) = 0 := by omega
  have e1 : ((cb x : Int) == 0) = false := by rw [beq_eq_false_iff_ne]; exact h2
  have e2 : (cb x == 0) = false := by rw [beq_eq_false_iff_ne]; exact h
  exact ⟨by rw [bne, e1, bne, e2], by rw [e1, bne, e2]; rfl⟩
set_option maxHeartbeats 8000000 in
theorem rpranks_c (A : Option Addr) (cap : Nat) (l : List Nat) (hl : l.length ≤ 10000) (hw : Re.Words l) (w : World) (hc : At w w.heap.size A (fvs l)) :
  Calls Tryz.prog 17 #[.slice A l.length cap] w fun e w' => e = .returned (.string (ba (rkF l))) ∧ Below w.heap.size w w' := by
 obtain ⟨i0, hi, hz0, hz1, hz2⟩ := info_parts Tryz.info4
 obtain ⟨j0, hj, hy0, hy1, hy2⟩ := info_parts Tryz.info49
 have hfl := fnz_len l
 have hnl : (nzL l).length = l.length := List.length_map ..
 have h1 := encF_len (l := nzL l) (by omega)
 have h2 := (Re.encR_len (cbs (fnz l))).2
 rw [cbs_len] at h2
 rw [hnl] at h1
 have hp := prt_len (s := encF (nzL l)) (by omega)
 obtain ⟨S, hS⟩ : ∃ S, ba (rkF l) = S := ⟨_, rfl⟩
 have hadd : ∀ w : World, (Op.stringOp .add (ba (prt (encF (nzL l)))) (ba (Re.encR (cbs (fnz l))))).run Tryz.prog w = .ok (.string S) w := fun w => by
  rw [← hS, rkF_eq]; exact hadd_v _ _ (by omega) w
 rw [hS]
 have HADD := Lib.hid hadd
 have HF2 := Lib.hid (show (encF (nzL l)).length ≤ 1000000 by omega)
 have HFL := Lib.hid hfl
 clear hadd hS h1 h2 hp hnl hfl
 have HC := Lib.hid hc
 have HW := Lib.hid hw
 clear hc hw
 go_enter Tryz.func17, Tryz.ntmps17
 go_wp2_with fail
 go_loopw [3, 4, 5] (fun u v i wr => ∃ k : Nat, i = .int .i64 (k : Int) ∧ k ≤ l.length ∧ wr.ownsRow w.heap.size 4 1 u k (bvs (nzL (l.take k))) ∧ wr.ownsRow w.heap.size 49 1 v (fnz (l.take k)).length (fvs (fnz (l.take k))) ∧ Below w.heap.size w wr) (fun _ _ i _ => l.length - (Go.RowKit.intOf i).toNat)
 case atStart => exact ⟨0, rfl, Nat.zero_le _, World.ownsRow_nil _ _ _ _, World.ownsRow_nil _ _ _ _, Below.refl _ _⟩
 case round =>
  obtain ⟨k, rfl, hk, hown, hown2, hb⟩ := hrel
  obtain ⟨Av, cv, rfl, -⟩ := own_shape hown
  obtain ⟨Au, cu, rfl, -⟩ := own_shape hown2
  have HO := Lib.hid hown
  have HO2 := Lib.hid hown2
  have HB := Lib.hid hb
  clear hown hown2 hb
  by_cases hlt : k < l.length
  ·obtain ⟨x, hx⟩ := some_at hlt
   have hki : (0 : Int) ≤ (k : Int) := by omega
   have hkl : (k : Int) < (l.length : Int) := by omega
   obtain ⟨b0, o0, rfl, hb0, c0⟩ := (HC.out.below HB.out) k (.float .f64 x) (by simp [fvs, hx])
   have hs := nzL_take hx
   have hs2 := fnz_take hx
   have hx64 := HW.out x (mem_at hx)
   obtain ⟨hq1, hq2⟩ := bits_nz x
   obtain ⟨q, hq⟩ : ∃ q, nz (cb x) = q := ⟨_, rfl⟩
   rw [hq] at hs hs2 hq1 hq2
   have HS := Lib.hid hs
   have HS2 := Lib.hid hs2
   have hfl := fnz_len (l.take k)
   rw [List.length_take] at hfl
   have HX := Lib.hid hx
   clear hx hq hs hs2
   go_wp2_with fail
   refine (rBits_c x hx64 _).mono ?_
   rintro e w3 ⟨rfl, hw3⟩
   subst hw3
   obtain ⟨F, hF⟩ : ∃ F, (fnz (l.take k)).length = F := ⟨_, rfl⟩
   have hFk : F ≤ 10000 := by omega
   have HO3 := HO2.out
   rw [hF] at HO3
   rw [hF]
   have HOF := Lib.hid HO3
   have HF := Lib.hid hF
   clear hF hfl HO3 HO2
   cases q with
   | true =>
    have hs2 := HS2.out
    rw [if_pos rfl] at hs2
    have HS3 := Lib.hid hs2
    clear hs2
    go_wp2_with (first
     | (at_builtin; refine wpList_append_own _ rfl _ _ 85 rfl w.heap.size 4 i0 (.bool false) 1 1 Tryz.underlying85 hi hz0 hz1 hz2 rfl (by decide) _ _ _ rfl (HO.out.alloc _) ⟨wr.heap.size, 0, none⟩ 1 1 [.bool true] rfl rfl (cell_one_new _ _ _) (by simp [Value.oneCell']) (by unfold maxLen; omega) (by omega) (by have := HB.out.size; simp; omega) ?_; intro v' w5 hown' hgrow _; have hb5 : Below w.heap.size w w5 := below_own (HB.out.alloc HB.out.size _) (by have := HB.out.size; simp; omega) (HO.out.alloc _) hgrow; obtain ⟨b5, o5, e5, hb5b, c5⟩ := (HC.out.below hb5) k (.float .f64 x) (by simp [fvs, HX.out]); cases e5; have hf5 := (HOF.out.alloc _).kept hgrow (own_types HOF.out HO.out (by decide)); rw [← HS.out] at hown'; have HO5 := Lib.hid hown'; have HB5 := Lib.hid hb5; have HF5 := Lib.hid hf5; clear hown' hgrow hb5 hf5 c0)
     | (at_builtin; refine wpList_append_own _ rfl _ _ 23 rfl w.heap.size 49 j0 (.float .f64 0) 1 8 Tryz.underlying23 hj hy0 hy1 hy2 rfl (by decide) _ _ _ rfl (HF5.out.alloc _) ⟨w5.heap.size, 0, none⟩ 1 1 [.float .f64 x] rfl rfl (cell_one_new _ _ _) (by simp [Value.oneCell']) (by unfold maxLen; omega) (by omega) (by have := HB5.out.size; simp; omega) ?_; intro v2 w7 hown' hgrow _))
    have hb7 : Below w.heap.size w w7 := below_own (HB5.out.alloc HB5.out.size _) (by have := HB5.out.size; simp; omega) (HF5.out.alloc _) hgrow
    have ho7 := (HO5.out.alloc _).kept hgrow (own_types HO5.out HF5.out (by decide))
    have hf7 : w7.ownsRow w.heap.size 49 1 v2 (fnz (l.take (k + 1))).length (fvs (fnz (l.take (k + 1)))) := by
     rw [HS3.out, List.length_append, HF.out]
     unfold fvs at hown' ⊢
     rw [List.map_append]
     exact hown'
    have HO7 := Lib.hid ho7
    have HB7 := Lib.hid hb7
    have HF7 := Lib.hid hf7
    clear hown' hgrow hb7 ho7 hf7 c5
    go_wp2_with fail
    go_roundw
    case rel => exact ⟨k + 1, by go_num, by omega, HO7.out, HF7.out, HB7.out⟩
    case measure => simp only [Go.RowKit.intOf]; omega
   | false =>
    go_wp2_with (at_builtin; refine wpList_append_own _ rfl _ _ 85 rfl w.heap.size 4 i0 (.bool false) 1 1 Tryz.underlying85 hi hz0 hz1 hz2 rfl (by decide) _ _ _ rfl (HO.out.alloc _) ⟨wr.heap.size, 0, none⟩ 1 1 [.bool false] rfl rfl (cell_one_new _ _ _) (by simp [Value.oneCell']) (by unfold maxLen; omega) (by omega) (by have := HB.out.size; simp; omega) ?_; intro v' w5 hown' hgrow _; have hb5 : Below w.heap.size w w5 := below_own (HB.out.alloc HB.out.size _) (by have := HB.out.size; simp; omega) (HO.out.alloc _) hgrow; obtain ⟨b5, o5, e5, hb5b, c5⟩ := (HC.out.below hb5) k (.float .f64 x) (by simp [fvs, HX.out]); cases e5)
    have hf5 := (HOF.out.alloc _).kept hgrow (own_types HOF.out HO.out (by decide))
    rw [← HS.out] at hown'
    have HO5 := Lib.hid hown'
    have HB5 := Lib.hid hb5
    have HF5 := Lib.hid hf5
    clear hown' hgrow hb5 hf5 c0
    have hs2 := HS2.out
    simp only [Bool.false_eq_true, if_false, List.append_nil] at hs2
    go_wp2_with fail
    go_roundw
    case rel => exact ⟨k + 1, by go_num, by omega, HO5.out, by rw [hs2, HF.out]; exact HF5.out, HB5.out⟩
    case measure => simp only [Go.RowKit.intOf]; omega
  ·obtain rfl : k = l.length := by omega
   have ho := HO.out
   have ho2 := HO2.out
   rw [List.take_length] at ho ho2
   have ha1 := (own_at ho).choose_spec.choose_spec.2.1
   have ha2 := (own_at ho2).choose_spec.choose_spec.2.1
   have hE1 := (own_at ho).choose_spec.choose_spec.1
   have hE2 := (own_at ho2).choose_spec.choose_spec.1
   generalize (own_at ho).choose_spec.choose = c1 at hE1
   generalize (own_at ho2).choose_spec.choose = c2 at hE2
   generalize (own_at ho).choose = A1 at ha1 hE1
   generalize (own_at ho2).choose = A2 at ha2 hE2
   injection hE1 with hE1 hE3 hE4
   injection hE2 with hE2 hE5 hE6
   subst hE1 hE4 hE2 hE6
   clear ho ho2 hE3 hE5
   have hnl : (nzL l).length = l.length := List.length_map ..
   have hadd := HADD.out
   have he := frencode_c _ cv (nzL l) (by omega) wr ha1
   rw [hnl] at he
   have HE := Lib.hid he
   have HA2 := Lib.hid ha2
   have hfl := HFL.out
   clear ha1 ha2 he HO HO2
   rw [List.take_length]
   go_wp2_with fail
   refine HE.out.mono ?_
   rintro e w2 ⟨rfl, hb⟩
   have HB2 := Lib.hid (HB.out.trans (hb.mono HB.out.size))
   have HA3 := Lib.hid (HA2.out.keep hb)
   clear hb
   go_wp2_with fail
   refine (rprt_c HF2.out _).mono ?_
   rintro e w3 ⟨rfl, hb⟩
   have HB3 := Lib.hid (HB2.out.trans (hb.mono HB2.out.size))
   have HA4 := Lib.hid (HA3.out.keep hb)
   clear hb
   go_wp2_with fail
   refine (rencodeR_c _ _ (fnz l) (by omega) (fnz_words HW.out) _ HA4.out).mono ?_
   rintro e w4 ⟨rfl, hb⟩
   have HB4 := Lib.hid (HB3.out.trans (hb.mono HB3.out.size))
   clear hb
   go_wp2_with fail
   go_ret
   exact ⟨rfl, HB4.out⟩
end Go.Proofs.YtojhenpaeedimaaGreat
end
section
namespace Go.Proofs.YtojhenpaeedimaaGreat
open Go.RowKit Go.IntWalk
open Pk Rf Fl Wd Ol Dl Ru Fg Dt Rl
set_option maxRecDepth 100000
attribute [local go_sem] Oper.semAt_some
theorem frdec_k {l : List UInt8} {n : Int} {ys : List Bool} {x : Int} {k : Nat} (h : decF l n = (ys, x)) (hk : ys.length = k) (hn1 : -9223372036854775808 ≤ n) (hn2 : n ≤ 9223372036854775807) (hl : l.length ≤ 90000) (w : World) :
  Calls Tryz.prog 79 #[.string (ba l), .int .i64 n] w fun e w' => ∃ A cap, e = .returned (.tuple #[.slice A k cap, .int .i64 x]) ∧ At w' w'.heap.size A (bvs ys) ∧ Below w.heap.size w w' := by
 subst hk
 refine (frdecode_c l n hn1 hn2 (by omega) w).mono ?_
 rintro e w' ⟨A, cap, rfl, -, -, ha, hb⟩
 rw [h] at ha ⊢
 exact ⟨A, cap, rfl, ha, hb⟩
theorem rrdec_k {l : List UInt8} {n : Int} {us : List Nat} {x : Int} (hr : Re.decR l n = (us, x)) (hn1 : -9223372036854775808 ≤ n) (hn2 : n ≤ 9223372036854775807) (hl : l.length ≤ 100000) (w : World) :
  Calls Tryz.prog 80 #[.string (ba l), .int .i64 n] w fun e w' => ∃ A cap ys, e = .returned (.tuple #[.slice A ys.length cap, .int .i64 x]) ∧ cbs ys = us ∧ Re.Words ys ∧ At w' w'.heap.size A (fvs ys) ∧ Below w.heap.size w w' := by
 refine (rdecodeR_c l n hn1 hn2 hl w).mono ?_
 rintro e w' ⟨A, cap, ys, rfl, h1, h2, h3, h4, -⟩
 rw [hr] at h1 ⊢
 exact ⟨A, cap, ys, rfl, h1, h2, h3, h4⟩
theorem rcount_k {A : Option Addr} {cap n : Nat} (xs : List Bool) (c : Int) (h : (Fg.cnt xs : Int) = c) (hn : xs.length = n) (hx : n ≤ 100000) {w : World} (hc : At w w.heap.size A (bvs xs)) :
  Calls Tryz.prog 81 #[.slice A n cap] w fun e w' => e = .returned (.int .i64 c) ∧ w' = w := by
 subst hn; subst h; exact rcount_c A cap xs hx w hc
theorem rkEnd_none {r : List Nat × Int} {w w' : World} {x : Int} (h : r = ([], x)) (hb : Below w.heap.size w w') : RkEnd r w (.returned (.tuple #[.slice none 0 0, .int .i64 x])) w' := by
 subst h
 exact ⟨hb, none, 0, [], rfl, rfl, fun u hu => by simp at hu, At.nil _ _ _, fun _ => rfl⟩
theorem any_take {ys : List Nat} {k y : Nat} (h : ys[k]? = some y) (hn : nz (cb y) = false) : (cbs ys).any (fun u => !nz u) = true :=
 List.any_eq_true.2 ⟨cb y, List.mem_map.2 ⟨y, mem_at h, rfl⟩, by rw [hn]; rfl⟩
theorem any_none {ys : List Nat} (h : ∀ y ∈ ys, nz (cb y) = true) : (cbs ys).any (fun u => !nz u) = false := by
 cases hq : (cbs ys).any (fun u => !nz u) with
 | false => rfl
 | true =>
  obtain ⟨u, hu, hn⟩ := List.any_eq_true.1 hq
  obtain ⟨y, hy, rfl⟩ := List.mem_map.1 hu
  rw [h y hy] at hn
  cases hn
set_option maxHeartbeats 8000000 in
theorem rtranks_c (s : List UInt8) (n : Int) (hs : s.length ≤ 90000) (hn1 : -9223372036854775808 ≤ n) (hn2 : n ≤ 9223372036854775807) (w : World) :
  Calls Tryz.prog 24 #[.string (ba s), .int .i64 n] w (RkEnd (takeU s n) w) := by
 obtain ⟨⟨a, b, e0⟩, hcut⟩ : ∃ q, cutP s = q := ⟨_, rfl⟩
 have hcl := cutP_len s
 rw [hcut] at hcl
 simp only at hcl
 have hal : a.length ≤ 90000 := by omega
 have hbl : b.length ≤ 100000 := by omega
 obtain ⟨⟨f, e1⟩, hf⟩ : ∃ q, decF a n = q := ⟨_, rfl⟩
 obtain ⟨⟨us, e2⟩, hr⟩ : ∃ q, Re.decR b (Fg.cnt f : Int) = q := ⟨_, rfl⟩
 obtain ⟨RES, hres⟩ : ∃ r, takeU s n = r := ⟨_, rfl⟩
 have htk : RES = if e0 ≠ 0 then ([], e0) else if e1 ≠ 0 then ([], e1) else if e2 ≠ 0 then ([], e2)
   else if us.any (fun u => !nz u) = true then ([], 5) else (mrg f us, 0) := by
  rw [← hres]
  unfold takeU
  simp only [hcut, hf, hr]
 rw [hres]
 have HT0 := Lib.hid htk
 have HCUT := Lib.hid hcut
 have HF := Lib.hid hf
 have HR := Lib.hid hr
 have hs9 : s.length ≤ 1000000000 := by omega
 clear hcut hcl htk hf hr hres
 go_enter Tryz.func24, Tryz.ntmps24
 go_wp2_with fail
 refine (rcut_v hs9 HCUT.out _).mono ?_
 rintro e w1 ⟨rfl, hb⟩
 have B1 := Lib.hid hb
 clear hb
 rcases Decidable.em (e0 ≠ 0) with hx | hx
 ·have hh := HT0.out
  rw [if_pos hx] at hh
  have HH := Lib.hid hh
  have hq1 : (e0 != 0) = true := by simpa using hx
  have hq2 : (e0 == 0) = false := by simpa using hx
  clear hh HT0
  go_wp2_with fail
  go_ret2
  exact rkEnd_none HH.out B1.out
 obtain rfl : e0 = 0 := by simpa using hx
 have hh := HT0.out
 rw [if_neg (show ¬ ((0 : Int) ≠ 0) by simp)] at hh
 have HT1 := Lib.hid hh
 clear hh hx HT0
 go_wp2_with fail
 refine (frdec_k HF.out rfl hn1 hn2 hal _).mono ?_
 rintro e w2 ⟨AF, cF, rfl, hat, hb⟩
 have B2 := Lib.hid (B1.out.trans (hb.mono B1.out.size))
 have F2 := Lib.hid hat
 clear hb hat B1
 rcases Decidable.em (e1 ≠ 0) with hx | hx
 ·have hh := HT1.out
  rw [if_pos hx] at hh
  have HH := Lib.hid hh
  have hq1 : (e1 != 0) = true := by simpa using hx
  have hq2 : (e1 == 0) = false := by simpa using hx
  clear hh HT1
  go_wp2_with fail
  go_ret2
  exact rkEnd_none HH.out B2.out
 obtain rfl : e1 = 0 := by simpa using hx
 have hh := HT1.out
 rw [if_neg (show ¬ ((0 : Int) ≠ 0) by simp)] at hh
 have HT2 := Lib.hid hh
 have hf4 : f.length ≤ 4096 := by
  have hfd := decF_dec (l := a) (n := n) (by rw [HF.out])
  rw [HF.out] at hfd
  by_cases hn4 : 4096 < n
  ·have h := decF_big (l := a) hn4
   rw [HF.out] at h
   injection h with _ h
   simp at h
  ·have := hfd.2; simp only at this; omega
 have hcn := cnt_le f
 clear hh hx HT1
 go_wp2_with fail
 refine (rcount_k f _ rfl rfl (by omega) F2.out).mono ?_
 rintro e w4 ⟨rfl, hw4⟩
 subst hw4
 go_wp2_with fail
 refine (rrdec_k HR.out (by omega) (by omega) hbl _).mono ?_
 rintro e w5 ⟨AR, cR, ys, rfl, hcb, hwy, hat, hb⟩
 have B5 := Lib.hid (B2.out.trans (hb.mono B2.out.size))
 have F5 := Lib.hid (F2.out.keep hb)
 have R5 := Lib.hid hat
 have HCB := Lib.hid hcb
 have HWY := Lib.hid hwy
 clear hb hat hcb hwy B2 F2
 rcases Decidable.em (e2 ≠ 0) with hx | hx
 ·have hh := HT2.out
  rw [if_pos hx] at hh
  have HH := Lib.hid hh
  have hq1 : (e2 != 0) = true := by simpa using hx
  have hq2 : (e2 == 0) = false := by simpa using hx
  clear hh HT2
  go_wp2_with fail
  go_ret2
  exact rkEnd_none HH.out B5.out
 obtain rfl : e2 = 0 := by simpa using hx
 have hh := HT2.out
 rw [if_neg (show ¬ ((0 : Int) ≠ 0) by simp)] at hh
 have HT3 := Lib.hid hh
 have hul : us.length = Fg.cnt f := by
  have hrd := Re.enc_decR (l := b) (n := (Fg.cnt f : Int)) (by rw [HR.out])
  rw [HR.out] at hrd
  have := hrd.1; simp only at this; omega
 have hyl : ys.length = Fg.cnt f := by rw [← hul, ← HCB.out, cbs_len]
 have HYL := Lib.hid hyl
 have hy4 : ys.length ≤ 100000 := by omega
 clear hh hx HT2 hul hyl
 go_wp2_with fail
 go_loopw [11] (fun i wr => ∃ k : Nat, i = .int .i64 (k : Int) ∧ k ≤ ys.length ∧ (∀ y ∈ ys.take k, nz (cb y) = true) ∧ w5 = wr) (fun i _ => ys.length - (Go.RowKit.intOf i).toNat)
 case atStart => exact ⟨0, rfl, Nat.zero_le _, by simp, rfl⟩
 case round =>
  obtain ⟨k, rfl, hk, hall, rfl⟩ := hrel
  by_cases hlt : k < ys.length
  ·obtain ⟨x, hx⟩ := some_at hlt
   have hki : (0 : Int) ≤ (k : Int) := by omega
   have hkl : (k : Int) < (ys.length : Int) := by omega
   obtain ⟨b0, o0, rfl, hb0, c0⟩ := R5.out k (.float .f64 x) (by simp [fvs, hx])
   have hx64 := HWY.out x (mem_at hx)
   obtain ⟨hq1, hq2⟩ := bits_nz x
   obtain ⟨q, hq⟩ : ∃ q, nz (cb x) = q := ⟨_, rfl⟩
   rw [hq] at hq1 hq2
   have HX := Lib.hid hx
   have HQ := Lib.hid hq
   have HALL := Lib.hid hall
   clear hx hq hall
   go_wp2_with fail
   refine (rBits_c x hx64 _).mono ?_
   rintro e w6 ⟨rfl, hw6⟩
   subst hw6
   cases q with
   | true =>
    go_wp2_with fail
    go_roundw
    case rel =>
     refine ⟨k + 1, by go_num, by omega, fun y hy => ?_, by trivial⟩
     rw [List.take_add_one, HX.out] at hy
     simp only [Option.toList_some] at hy
     rcases List.mem_append.1 hy with hy | hy
     ·exact HALL.out y hy
     ·rw [List.mem_singleton.1 hy]; exact HQ.out
    case measure => simp only [Go.RowKit.intOf]; omega
   | false =>
    have hh := HT3.out
    rw [if_pos (by rw [← HCB.out]; exact any_take HX.out HQ.out)] at hh
    have HH := Lib.hid hh
    clear hh HT3
    go_wp2_with fail
    go_ret2
    exact rkEnd_none HH.out B5.out
  ·obtain rfl : k = ys.length := by omega
   rw [List.take_length] at hall
   have hh := HT3.out
   rw [if_neg (by rw [← HCB.out, any_none hall]; simp)] at hh
   have HH := Lib.hid hh
   clear hh HT3 hall
   obtain ⟨j0, hj, hy0, hy1, hy2⟩ := info_parts Tryz.info49
   go_wp2_with fail
   go_loopw [12, 13, 14] (fun o c i wr => ∃ k : Nat, i = .int .i64 (k : Int) ∧ k ≤ f.length ∧ c = .int .i64 (Fg.cnt (f.take k) : Int) ∧ wr.ownsRow w5.heap.size 49 1 o k (fvs (mrg (f.take k) ys)) ∧ Below w5.heap.size w5 wr) (fun _ _ i _ => f.length - (Go.RowKit.intOf i).toNat)
   case atStart => exact ⟨0, rfl, Nat.zero_le _, by simp [Fg.cnt], World.ownsRow_nil _ _ _ _, Below.refl _ _⟩
   case round =>
    obtain ⟨k, rfl, hk, rfl, hown, hb⟩ := hrel
    obtain ⟨Av, cv, rfl, -⟩ := own_shape hown
    have HO := Lib.hid hown
    have HB := Lib.hid hb
    clear hown hb
    by_cases hlt : k < f.length
    ·have hki : (0 : Int) ≤ (k : Int) := by omega
     have hkl : (k : Int) < (f.length : Int) := by omega
     obtain ⟨x, hx⟩ := some_at hlt
     obtain ⟨bF, oF, rfl, hbF, cF0⟩ := (F5.out.keep HB.out) k (.bool x) (by simp [bvs, hx])
     have hcs := cnt_step hx
     have hcl := cnt_take_le f (k + 1)
     have HX := Lib.hid hx
     have HCS := Lib.hid hcs
     clear hcs
     clear hbF
     clear hx
     cases x with
     | true =>
      have hcs := HCS.out
      simp only [if_true] at hcs
      obtain ⟨y, hy⟩ := some_at (show Fg.cnt (f.take k) < ys.length by have := HYL.out; omega)
      obtain ⟨bR, oR, rfl, hbR, cR0⟩ := (R5.out.keep HB.out) (Fg.cnt (f.take k)) (.float .f64 y) (by simp [fvs, hy])
      have hm := mrg_snoc (f.take k) ys true y (fun _ => hy)
      have hc0 : (0 : Int) ≤ (Fg.cnt (f.take k) : Int) := by omega
      have hcl2 : (Fg.cnt (f.take k) : Int) < (ys.length : Int) := by have := HYL.out; omega
      obtain ⟨C, hC⟩ : ∃ C, Fg.cnt (f.take k) = C := ⟨_, rfl⟩
      rw [hC] at hcs cR0 hc0 hcl2
      rw [hC]
      have HM := Lib.hid hm
      have HC2 := Lib.hid hcs
      clear hm hy hC hcs hcl
      have hC9 : C ≤ 100000 := by omega
      go_wp2_with (at_builtin; refine wpList_append_own _ rfl _ _ 23 rfl w5.heap.size 49 j0 (.float .f64 0) 1 8 Tryz.underlying23 hj hy0 hy1 hy2 rfl (by decide) _ _ _ rfl (HO.out.alloc _) ⟨wr.heap.size, 0, none⟩ 1 1 [.float .f64 y] rfl rfl (cell_one_new _ _ _) (by simp [Value.oneCell']) (by unfold maxLen; omega) (by omega) (by have := HB.out.size; simp; omega) ?_; intro v2 w7 hown' hgrow _)
      have hb7 : Below w5.heap.size w5 w7 := below_own (HB.out.alloc HB.out.size _) (by have := HB.out.size; simp; omega) (HO.out.alloc _) hgrow
      have ho7 : w7.ownsRow w5.heap.size 49 1 v2 (k + 1) (fvs (mrg (f.take (k + 1)) ys)) := by
       rw [List.take_add_one, HX.out]
       simp only [Option.toList_some]
       rw [HM.out]
       unfold fvs at hown' ⊢
       rw [List.map_append]
       exact hown'
      have HO7 := Lib.hid ho7
      have HB7 := Lib.hid hb7
      clear hown' hgrow hb7 ho7 cF0 cR0
      go_wp2_with fail
      go_roundw
      case rel => exact ⟨k + 1, by go_num, by omega, by rw [HC2.out]; go_num, HO7.out, HB7.out⟩
      case measure => simp only [Go.RowKit.intOf]; omega
     | false =>
      have hcs := HCS.out
      simp only [Bool.false_eq_true, if_false, Nat.add_zero] at hcs
      have hm := mrg_snoc (f.take k) ys false 0 (fun hb => by cases hb)
      obtain ⟨C, hC⟩ : ∃ C, Fg.cnt (f.take k) = C := ⟨_, rfl⟩
      rw [hC] at hcs
      rw [hC]
      have HM := Lib.hid hm
      have HC2 := Lib.hid hcs
      clear hm hC hcs hcl
      go_wp2_with (at_builtin; refine wpList_append_own _ rfl _ _ 23 rfl w5.heap.size 49 j0 (.float .f64 0) 1 8 Tryz.underlying23 hj hy0 hy1 hy2 rfl (by decide) _ _ _ rfl (HO.out.alloc _) ⟨wr.heap.size, 0, none⟩ 1 1 [.float .f64 0] rfl rfl (cell_one_new _ _ _) (by simp [Value.oneCell']) (by unfold maxLen; omega) (by omega) (by have := HB.out.size; simp; omega) ?_; intro v2 w7 hown' hgrow _)
      have hb7 : Below w5.heap.size w5 w7 := below_own (HB.out.alloc HB.out.size _) (by have := HB.out.size; simp; omega) (HO.out.alloc _) hgrow
      have ho7 : w7.ownsRow w5.heap.size 49 1 v2 (k + 1) (fvs (mrg (f.take (k + 1)) ys)) := by
       rw [List.take_add_one, HX.out]
       simp only [Option.toList_some]
       rw [HM.out]
       unfold fvs at hown' ⊢
       rw [List.map_append]
       exact hown'
      have HO7 := Lib.hid ho7
      have HB7 := Lib.hid hb7
      clear hown' hgrow hb7 ho7 cF0
      go_wp2_with fail
      go_roundw
      case rel => exact ⟨k + 1, by go_num, by omega, by rw [HC2.out], HO7.out, HB7.out⟩
      case measure => simp only [Go.RowKit.intOf]; omega
    ·obtain rfl : k = f.length := by omega
     have ho := HO.out
     rw [List.take_length] at ho
     have hno := own_none ho
     have hat := (own_at ho)
     have HAT := Lib.hid hat
     clear ho hat
     go_wp2_with fail
     go_ret2
     obtain ⟨A', c', e9, ha, -, -⟩ := HAT.out
     rw [HH.out]
     refine ⟨B5.out.trans (HB.out.mono B5.out.size), A', c', mrg f ys, ?_, by rw [cbs_mrg, HCB.out], mrg_words f ys HWY.out, ha, fun e => ?_⟩
     ·rw [e9, mrg_len]
      rfl
     ·injection e9 with q1 _ q3
      rw [← q3]
      exact hno (q1.trans e)
end Go.Proofs.YtojhenpaeedimaaGreat
end
