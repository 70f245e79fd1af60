/-
 Encode as columns: the document's.
-/
import Derived.Test.YtojhenpaeedimaaGreatOv
import Derived.Test.YtojhenpaeedimaaGreatOj
import Derived.Test.YtojhenpaeedimaaGreatJg
import Derived.Test.YtojhenpaeedimaaGreatQh
import Derived.Maps.AppendAt
namespace Go.Proofs.YtojhenpaeedimaaGreat
open Go.RowKit Go.IntWalk
open Pk Rf Fl Wd Ol Dl Ru Fg Dt Rl
set_option maxRecDepth 100000
attribute [local go_sem] Oper.semAt_some
def Apt (a b : Value) : Prop := a.ownBlock = none ∨ a.ownBlock ≠ b.ownBlock
theorem Apt.symm {a b : Value} (h : Apt a b) : Apt b a := by
 rcases h with h | h
 ·cases hb : b.ownBlock with
  | none => exact .inl hb
  | some g => exact .inr (by rw [h, hb]; simp)
 ·exact .inr fun e => h e.symm
theorem Apt.new {a b b' : Value} {W : World} (h : Apt a b) (hl : ∀ k, a.ownBlock = some k → k < W.heap.size) (hd : b'.ownBlock = b.ownBlock ∨ b'.ownBlock = some W.heap.size) : Apt a b' := by
 rcases hd with hd | hd
 ·unfold Apt; rw [hd]; exact h
 ·right
  intro e
  rw [hd] at e
  exact Nat.lt_irrefl _ (hl _ e)
/-- six rows of the call's own, beside one another -/
structure R6 (w : World) (W : World) (vc vp vk vr vs vf : Value) (nc np nk nr ns nf : Nat) (xc xp xk xr xs xf : List Value) : Prop where
 c : W.ownsRow w.heap.size 3 1 vc nc xc
 p : W.ownsRow w.heap.size 3 1 vp np xp
 k : W.ownsRow w.heap.size 3 1 vk nk xk
 r : W.ownsRow w.heap.size 62 1 vr nr xr
 s : W.ownsRow w.heap.size 9 1 vs ns xs
 f : W.ownsRow w.heap.size 49 1 vf nf xf
 cp : Apt vc vp
 ck : Apt vc vk
 pk : Apt vp vk
 own : Below w.heap.size w W
theorem R6.put_c {w W : World} {vc vp vk vr vs vf : Value} {nc np nk nr ns nf : Nat} {xc xp xk xr xs xf : List Value} (h : R6 w W vc vp vk vr vs vf nc np nk nr ns nf xc xp xk xr xs xf) (o : Obj) {v : Value} {x : List Value} {W' : World} (h' : W'.ownsRow w.heap.size 3 1 v (nc + 1) x) (hg : (W.alloc o).grownBy W' vc.ownBlock) (hd : v.ownBlock = vc.ownBlock ∨ v.ownBlock = some (W.alloc o).heap.size) :
  R6 w W' v vp vk vr vs vf (nc + 1) np nk nr ns nf x xp xk xr xs xf := by
 have hl : ∀ {e : TypeId} {u : Value} {q : Nat} {xs : List Value}, W.ownsRow w.heap.size e 1 u q xs → ∀ k, u.ownBlock = some k → k < (W.alloc o).heap.size := fun hu k hk => by have := (hu.lt k hk).2; rw [size_alloc]; omega
 exact ⟨h', (h.p.alloc o).kept hg h.cp.symm, (h.k.alloc o).kept hg h.ck.symm, (h.r.alloc o).kept hg (own_types h.r h.c (by decide)), (h.s.alloc o).kept hg (own_types h.s h.c (by decide)), (h.f.alloc o).kept hg (own_types h.f h.c (by decide)), (h.cp.symm.new (hl h.p) hd).symm, (h.ck.symm.new (hl h.k) hd).symm, h.pk, below_own (h.own.alloc h.own.size o) (by rw [size_alloc]; have := h.own.size; omega) (h.c.alloc o) hg⟩
theorem R6.put_p {w W : World} {vc vp vk vr vs vf : Value} {nc np nk nr ns nf : Nat} {xc xp xk xr xs xf : List Value} (h : R6 w W vc vp vk vr vs vf nc np nk nr ns nf xc xp xk xr xs xf) (o : Obj) {v : Value} {x : List Value} {W' : World} (h' : W'.ownsRow w.heap.size 3 1 v (np + 1) x) (hg : (W.alloc o).grownBy W' vp.ownBlock) (hd : v.ownBlock = vp.ownBlock ∨ v.ownBlock = some (W.alloc o).heap.size) :
  R6 w W' vc v vk vr vs vf nc (np + 1) nk nr ns nf xc x xk xr xs xf := by
 have hl : ∀ {e : TypeId} {u : Value} {q : Nat} {xs : List Value}, W.ownsRow w.heap.size e 1 u q xs → ∀ k, u.ownBlock = some k → k < (W.alloc o).heap.size := fun hu k hk => by have := (hu.lt k hk).2; rw [size_alloc]; omega
 exact ⟨(h.c.alloc o).kept hg h.cp, h', (h.k.alloc o).kept hg h.pk.symm, (h.r.alloc o).kept hg (own_types h.r h.p (by decide)), (h.s.alloc o).kept hg (own_types h.s h.p (by decide)), (h.f.alloc o).kept hg (own_types h.f h.p (by decide)), h.cp.new (hl h.c) hd, h.ck, (h.pk.symm.new (hl h.k) hd).symm, below_own (h.own.alloc h.own.size o) (by rw [size_alloc]; have := h.own.size; omega) (h.p.alloc o) hg⟩
theorem R6.put_k {w W : World} {vc vp vk vr vs vf : Value} {nc np nk nr ns nf : Nat} {xc xp xk xr xs xf : List Value} (h : R6 w W vc vp vk vr vs vf nc np nk nr ns nf xc xp xk xr xs xf) (o : Obj) {v : Value} {x : List Value} {W' : World} (h' : W'.ownsRow w.heap.size 3 1 v (nk + 1) x) (hg : (W.alloc o).grownBy W' vk.ownBlock) (hd : v.ownBlock = vk.ownBlock ∨ v.ownBlock = some (W.alloc o).heap.size) :
  R6 w W' vc vp v vr vs vf nc np (nk + 1) nr ns nf xc xp x xr xs xf := by
 have hl : ∀ {e : TypeId} {u : Value} {q : Nat} {xs : List Value}, W.ownsRow w.heap.size e 1 u q xs → ∀ k, u.ownBlock = some k → k < (W.alloc o).heap.size := fun hu k hk => by have := (hu.lt k hk).2; rw [size_alloc]; omega
 exact ⟨(h.c.alloc o).kept hg h.ck, (h.p.alloc o).kept hg h.pk, h', (h.r.alloc o).kept hg (own_types h.r h.k (by decide)), (h.s.alloc o).kept hg (own_types h.s h.k (by decide)), (h.f.alloc o).kept hg (own_types h.f h.k (by decide)), h.cp, h.ck.new (hl h.c) hd, h.pk.new (hl h.p) hd, below_own (h.own.alloc h.own.size o) (by rw [size_alloc]; have := h.own.size; omega) (h.k.alloc o) hg⟩
theorem R6.put_r {w W : World} {vc vp vk vr vs vf : Value} {nc np nk nr ns nf : Nat} {xc xp xk xr xs xf : List Value} (h : R6 w W vc vp vk vr vs vf nc np nk nr ns nf xc xp xk xr xs xf) (o : Obj) {v : Value} {x : List Value} {W' : World} (h' : W'.ownsRow w.heap.size 62 1 v (nr + 1) x) (hg : (W.alloc o).grownBy W' vr.ownBlock) (_hd : v.ownBlock = vr.ownBlock ∨ v.ownBlock = some (W.alloc o).heap.size) :
  R6 w W' vc vp vk v vs vf nc np nk (nr + 1) ns nf xc xp xk x xs xf := by
 have hl : ∀ {e : TypeId} {u : Value} {q : Nat} {xs : List Value}, W.ownsRow w.heap.size e 1 u q xs → ∀ k, u.ownBlock = some k → k < (W.alloc o).heap.size := fun hu k hk => by have := (hu.lt k hk).2; rw [size_alloc]; omega
 exact ⟨(h.c.alloc o).kept hg (own_types h.c h.r (by decide)), (h.p.alloc o).kept hg (own_types h.p h.r (by decide)), (h.k.alloc o).kept hg (own_types h.k h.r (by decide)), h', (h.s.alloc o).kept hg (own_types h.s h.r (by decide)), (h.f.alloc o).kept hg (own_types h.f h.r (by decide)), h.cp, h.ck, h.pk, below_own (h.own.alloc h.own.size o) (by rw [size_alloc]; have := h.own.size; omega) (h.r.alloc o) hg⟩
theorem R6.put_s {w W : World} {vc vp vk vr vs vf : Value} {nc np nk nr ns nf : Nat} {xc xp xk xr xs xf : List Value} (h : R6 w W vc vp vk vr vs vf nc np nk nr ns nf xc xp xk xr xs xf) (o : Obj) {v : Value} {x : List Value} {W' : World} (h' : W'.ownsRow w.heap.size 9 1 v (ns + 1) x) (hg : (W.alloc o).grownBy W' vs.ownBlock) (_hd : v.ownBlock = vs.ownBlock ∨ v.ownBlock = some (W.alloc o).heap.size) :
  R6 w W' vc vp vk vr v vf nc np nk nr (ns + 1) nf xc xp xk xr x xf := by
 have hl : ∀ {e : TypeId} {u : Value} {q : Nat} {xs : List Value}, W.ownsRow w.heap.size e 1 u q xs → ∀ k, u.ownBlock = some k → k < (W.alloc o).heap.size := fun hu k hk => by have := (hu.lt k hk).2; rw [size_alloc]; omega
 exact ⟨(h.c.alloc o).kept hg (own_types h.c h.s (by decide)), (h.p.alloc o).kept hg (own_types h.p h.s (by decide)), (h.k.alloc o).kept hg (own_types h.k h.s (by decide)), (h.r.alloc o).kept hg (own_types h.r h.s (by decide)), h', (h.f.alloc o).kept hg (own_types h.f h.s (by decide)), h.cp, h.ck, h.pk, below_own (h.own.alloc h.own.size o) (by rw [size_alloc]; have := h.own.size; omega) (h.s.alloc o) hg⟩
theorem R6.put_f {w W : World} {vc vp vk vr vs vf : Value} {nc np nk nr ns nf : Nat} {xc xp xk xr xs xf : List Value} (h : R6 w W vc vp vk vr vs vf nc np nk nr ns nf xc xp xk xr xs xf) (o : Obj) {v : Value} {x : List Value} {W' : World} (h' : W'.ownsRow w.heap.size 49 1 v (nf + 1) x) (hg : (W.alloc o).grownBy W' vf.ownBlock) (_hd : v.ownBlock = vf.ownBlock ∨ v.ownBlock = some (W.alloc o).heap.size) :
  R6 w W' vc vp vk vr vs v nc np nk nr ns (nf + 1) xc xp xk xr xs x := by
 have hl : ∀ {e : TypeId} {u : Value} {q : Nat} {xs : List Value}, W.ownsRow w.heap.size e 1 u q xs → ∀ k, u.ownBlock = some k → k < (W.alloc o).heap.size := fun hu k hk => by have := (hu.lt k hk).2; rw [size_alloc]; omega
 exact ⟨(h.c.alloc o).kept hg (own_types h.c h.f (by decide)), (h.p.alloc o).kept hg (own_types h.p h.f (by decide)), (h.k.alloc o).kept hg (own_types h.k h.f (by decide)), (h.r.alloc o).kept hg (own_types h.r h.f (by decide)), (h.s.alloc o).kept hg (own_types h.s h.f (by decide)), h', h.cp, h.ck, h.pk, below_own (h.own.alloc h.own.size o) (by rw [size_alloc]; have := h.own.size; omega) (h.f.alloc o) hg⟩
def rfL (l : List Mv) : List Nat := l.map fun m => rk (mw m)
theorem cvals {l : List Mv} {k : Nat} {m : Mv} (h : l[k]? = some m) : ivs (mcL (l.take (k + 1))) = ivs (mcL (l.take k)) ++ [.int .i64 (mc m)] ∧ uvs (mrL (l.take (k + 1))) = uvs (mrL (l.take k)) ++ [.int .u64 (u64 (mr m) : Int)] ∧ ivs (paL (l.take (k + 1))) = ivs (paL (l.take k)) ++ [.int .i64 (pa (mw m))] ∧
  ivs (chL (l.take (k + 1))) = ivs (chL (l.take k)) ++ [.int .i64 (ch (mw m))] ∧ svs (nmL (l.take (k + 1))) = svs (nmL (l.take k)) ++ [.string (ba (nm (mw m)))] ∧ fvs (rfL (l.take (k + 1))) = fvs (rfL (l.take k)) ++ [.float .f64 (rk (mw m))] := by
 rw [List.take_add_one, h]
 simp only [Option.toList_some]
 refine ⟨?_, ?_, ?_, ?_, ?_, ?_⟩ <;> simp [ivs, uvs, svs, fvs, mcL, mrL, paL, chL, nmL, rfL] <;> rfl
/-- the six rows, behind k moves -/
def R6k (w W : World) (l : List Mv) (k : Nat) (vc vp vk vr vs vf : Value) : Prop := R6 w W vc vp vk vr vs vf k k k k k k (ivs (mcL (l.take k))) (ivs (paL (l.take k))) (ivs (chL (l.take k))) (uvs (mrL (l.take k))) (svs (nmL (l.take k))) (fvs (rfL (l.take k)))
theorem lencD_k {A : Option Addr} {cap n : Nat} {xs : List Int} {S : ByteArray} (hn : xs.length = n) (hS : ba (encL xs) = S) (hx : n ≤ 100000) (hxi : Ints xs) {w : World} (hc : At w w.heap.size A (ivs xs)) :
  Calls Tryz.prog 47 #[.slice A n cap] w fun e w' => e = .returned (.string S) ∧ Below w.heap.size w w' := by
 subst hn hS; exact rencode_c A cap xs hx hxi w hc
theorem uencD_k {A : Option Addr} {cap n : Nat} {xs : List Nat} {S : ByteArray} (hn : xs.length = n) (hS : ba (encU xs) = S) (hx : n ≤ 100000) (hxn : Nums xs) {w : World} (hc : At w w.heap.size A (uvs xs)) :
  Calls Tryz.prog 48 #[.slice A n cap] w fun e w' => e = .returned (.string S) ∧ Below w.heap.size w w' := by
 subst hn hS; exact urencode_c A cap xs hx hxn w hc
theorem prtD_v {s : List UInt8} {S T : ByteArray} (hS : ba s = S) (hT : ba (prt s) = T) (hs : s.length ≤ 1000000) (w : World) :
  Calls Tryz.prog 19 #[.string S] w fun e w' => e = .returned (.string T) ∧ Below w.heap.size w w' := by
 subst hS hT; exact rprt_c hs w
theorem pranksD_k {A : Option Addr} {cap n : Nat} {l : List Nat} {S : ByteArray} (hn : l.length = n) (hS : ba (rkF l) = S) (hl : n ≤ 10000) (hw : Re.Words l) {w : World} (hc : At w w.heap.size A (fvs l)) :
  Calls Tryz.prog 17 #[.slice A n cap] w fun e w' => e = .returned (.string S) ∧ Below w.heap.size w w' := by
 subst hn hS; exact rpranks_c A cap l hl hw w hc
theorem dencD_k {A : Option Addr} {cap n : Nat} {l : List Dc.Tx} {S : ByteArray} (hn : l.length = n) (hS : ba (encD l) = S) (hx : n ≤ 100000) (hts : ∀ t ∈ l, t.length ≤ 100000) {w : World} (hc : At w w.heap.size A (svs l)) :
  Calls Tryz.prog 49 #[.slice A n cap] w fun e w' => e = .returned (.string S) ∧ Below w.heap.size w w' := by
 subst hn hS; exact drencode_c A cap l hx hts w hc
set_option maxHeartbeats 8000000 in
theorem rencO_c (A : Option Addr) (cap : Nat) (l : List Mv) (hl : l.length ≤ 4000) (ho : Mok4 l) (w : World) (hc : At w w.heap.size A (mvs l)) :
  Calls Tryz.prog 12 #[.slice A l.length cap] w fun e w' => ∃ A' cap', e = .returned (.tuple #[.slice A' (encC l).length cap', .int .i64 (encE l)]) ∧ At w' w'.heap.size A' (Ck.cvs (encC l)) ∧ (encC l).length ≤ cap' ∧ Below w.heap.size w w' := by
 have HM0 := Lib.hid hc
 have HOK := Lib.hid ho
 have hmx : l.length ≤ maxLen := by unfold maxLen; omega
 have HN := Lib.hid (show ∀ m ∈ l, (nm (mw m)).length ≤ maxLen from fun m hm => by have := (ho m hm).2; unfold maxLen; omega)
 have B0 : Hid (Below w.heap.size w w) := Lib.hid (Below.refl _ _)
 clear hc ho
 cases hm : mayM l with
 | false =>
  have he : encC l = [] ∧ encE l = 1 := by unfold encC encE; rw [hm]; exact ⟨rfl, rfl⟩
  have HE := Lib.hid he
  have HMM := Lib.hid hm
  clear hm he
  go_enter Tryz.func12, Tryz.ntmps12
  go_wp2_with fail
  refine (rmmay_c A cap l hmx HN.out _ HM0.out).mono ?_
  rintro e w1 ⟨rfl, hb⟩
  rw [HMM.out]
  have HB := Lib.hid hb
  clear hb
  go_wp2_with fail
  go_ret2
  rw [HE.out.1, HE.out.2]
  exact ⟨none, 0, rfl, At.nil _ _ _, Nat.zero_le _, HB.out⟩
 | true =>
  have hm0 := hm
  have he : encC l = encO l ∧ encE l = 0 := by unfold encC encE; rw [hm]; exact ⟨rfl, rfl⟩
  have e1 : (mcL l).length = l.length := List.length_map ..
  have e2 : (mrL l).length = l.length := List.length_map ..
  have e3 : (paL l).length = l.length := List.length_map ..
  have e4 : (chL l).length = l.length := List.length_map ..
  have e5 : (nmL l).length = l.length := List.length_map ..
  have e6 : (l.map fun m => rk (mw m)).length = l.length := List.length_map ..
  have b1 := (encL_len (mcL l)).2
  have b3 := (encL_len (paL l)).2
  have b4 := (encL_len (chL l)).2
  have b2 := encU_len (nums_u64 l) (by omega)
  have p1 := prt_len (s := encL (mcL l)) (by omega)
  have p3 := prt_len (s := encL (paL l)) (by omega)
  have hwu : IntKind.u64.wrap (l.length : Int) = (l.length : Int) := by rw [IntKind.wrap_u64]; omega
  obtain ⟨S0, hS0⟩ : ∃ S, ba (put l.length) = S := ⟨_, rfl⟩
  obtain ⟨S1, hS1⟩ : ∃ S, ba (encL (mcL l)) = S := ⟨_, rfl⟩
  obtain ⟨T1, hT1⟩ : ∃ S, ba (prt (encL (mcL l))) = S := ⟨_, rfl⟩
  obtain ⟨S2, hS2⟩ : ∃ S, ba (encU (mrL l)) = S := ⟨_, rfl⟩
  obtain ⟨U1, hU1⟩ : ∃ S, ba (bdT l) = S := ⟨_, rfl⟩
  obtain ⟨S3, hS3⟩ : ∃ S, ba (encL (paL l)) = S := ⟨_, rfl⟩
  obtain ⟨T3, hT3⟩ : ∃ S, ba (prt (encL (paL l))) = S := ⟨_, rfl⟩
  obtain ⟨S4, hS4⟩ : ∃ S, ba (encL (chL l)) = S := ⟨_, rfl⟩
  obtain ⟨U3, hU3⟩ : ∃ S, ba (bdE l) = S := ⟨_, rfl⟩
  obtain ⟨S5, hS5⟩ : ∃ S, ba (Dt.encD (nmL l)) = S := ⟨_, rfl⟩
  obtain ⟨S6, hS6⟩ : ∃ S, ba (rkU (rkL l)) = S := ⟨_, rfl⟩
  have ha1 : ∀ w : World, (Op.stringOp .add T1 S2).run Tryz.prog w = .ok (.string U1) w := fun w => by rw [← hT1, ← hS2, ← hU1]; exact hadd_v _ _ (by omega) w
  have ha3 : ∀ w : World, (Op.stringOp .add T3 S4).run Tryz.prog w = .ok (.string U3) w := fun w => by rw [← hT3, ← hS4, ← hU3]; exact hadd_v _ _ (by omega) w
  have hcv : Ck.cvs (encC l) = [.int .i64 4, .string S0, .int .i64 5, .string U1, .int .i64 6, .string U3, .int .i64 7, .string S5, .int .i64 8, .string S6] := by
   rw [he.1, ← hS0, ← hU1, ← hU3, ← hS5, ← hS6]; rfl
  have hcl : (encC l).length = 5 := by rw [he.1]; rfl
  have hput := fun W => rPut_c l.length (by omega) W
  rw [hS0] at hput
  have X0 := Lib.hid hput
  have X1 := Lib.hid hS1
  have X2 := Lib.hid hS2
  have X3 := Lib.hid hS3
  have X4 := Lib.hid hS4
  have X5 := Lib.hid hS5
  have X6 := Lib.hid (show ba (rkF (l.map fun m => rk (mw m))) = S6 by rw [rkF_rkL]; exact hS6)
  have Y1 := Lib.hid hT1
  have Y3 := Lib.hid hT3
  have Z1 := Lib.hid (show (encL (mcL l)).length ≤ 1000000 by omega)
  have Z3 := Lib.hid (show (encL (paL l)).length ≤ 1000000 by omega)
  have E1 := Lib.hid e1
  have E2 := Lib.hid e2
  have E3 := Lib.hid e3
  have E4 := Lib.hid e4
  have E5 := Lib.hid e5
  have E6 := Lib.hid e6
  have HE := Lib.hid he.2
  have ff := fun m hm => oneM_facts (mayM_all hm0 m hm)
  have I1 := Lib.hid (show Ints (mcL l) from fun x hx => by obtain ⟨m, hmm, rfl⟩ := List.mem_map.1 hx; have := (ff m hmm).1; unfold In64; omega)
  have I3 := Lib.hid (show Ints (paL l) from fun x hx => by obtain ⟨m, hmm, rfl⟩ := List.mem_map.1 hx; have := (ff m hmm).2.2.2.1; unfold In64; omega)
  have I4 := Lib.hid (show Ints (chL l) from fun x hx => by obtain ⟨m, hmm, rfl⟩ := List.mem_map.1 hx; have := (ff m hmm).2.2.1; unfold In64; omega)
  clear ff
  have HMM := Lib.hid hm
  clear hm0
  have HCV := Lib.hid hcv
  have HCL := Lib.hid hcl
  clear hm he e1 e2 e3 e4 e5 e6 b1 b2 b3 b4 p1 p3 hS0 hS1 hS2 hS3 hS4 hS5 hS6 hT1 hT3 hU1 hU3 hcv hcl hput
  go_enter Tryz.func12, Tryz.ntmps12
  go_wp2_with fail
  refine (rmmay_c A cap l hmx HN.out _ HM0.out).mono ?_
  rintro e w1 ⟨rfl, hb⟩
  rw [HMM.out]
  have B1 := Lib.hid (B0.out.trans (hb.mono B0.out.size))
  have HM1 := Lib.hid (HM0.out.keep hb)
  clear hb
  obtain ⟨i0, hi, hz0, hz1, hz2⟩ := info_parts Tryz.info3
  obtain ⟨u0, hui, hu0, hu1, hu2⟩ := info_parts Tryz.info62
  obtain ⟨t0, hti, ht0, ht1, ht2⟩ := info_parts Tryz.info9
  obtain ⟨f0, hfi, hf0, hf1, hf2⟩ := info_parts Tryz.info49
  go_wp2_with fail
  go_loopw [4, 5, 6, 7, 8, 9, 10] (fun vc vp vk vr vs vf i wr => ∃ k : Nat, i = .int .i64 (k : Int) ∧ k ≤ l.length ∧ R6k w1 wr l k vc vp vk vr vs vf) (fun _ _ _ _ _ _ i _ => l.length - (Go.RowKit.intOf i).toNat)
  case atStart => exact ⟨0, rfl, Nat.zero_le _, World.ownsRow_nil _ _ _ _, World.ownsRow_nil _ _ _ _, World.ownsRow_nil _ _ _ _, World.ownsRow_nil _ _ _ _, World.ownsRow_nil _ _ _ _, World.ownsRow_nil _ _ _ _, .inl rfl, .inl rfl, .inl rfl, Below.refl _ _⟩
  case round =>
   obtain ⟨k, rfl, hk, hrr⟩ := hrel
   by_cases hlt : k < l.length
   ·obtain ⟨m, hm⟩ := some_at hlt
    have hki : (0 : Int) ≤ (k : Int) := by omega
    have hkl : (k : Int) < (l.length : Int) := by omega
    have hv := cvals hm
    have hwu : IntKind.u64.wrap (mr m) = (Rf.u64 (mr m) : Int) := u64_wrap _
    obtain ⟨b, off, rfl, hbl, c0, c1, c2, c3, c4, c5⟩ := move_cells (HM1.out.keep hrr.own) hm
    have HMM0 := Lib.hid hm
    have HV := Lib.hid hv
    have Q0 := Lib.hid hrr
    clear hm hv hrr hbl c1 c2 c3 c4 c5
    go_wp2_with (first
     | (at_builtin; refine wpList_append_own_at _ rfl _ _ 57 rfl w1.heap.size 3 i0 (.int .i64 0) 1 8 Tryz.underlying57 hi hz0 hz1 hz2 rfl (by decide) _ _ _ rfl (Q0.out.c.alloc _) ⟨wr.heap.size, 0, none⟩ 1 1 [.int .i64 (mc m)] rfl rfl (cell_one_new _ _ _) (by simp [Value.oneCell']) (by unfold maxLen; omega) (by omega) (by have := Q0.out.own.size; simp; omega) ?_; intro uc wq1 ho hg _ hd; have Q1 := Lib.hid (Q0.out.put_c _ ho hg hd); obtain ⟨b', off', e', _, d0, d1, d2, d3, d4, d5⟩ := move_cells (HM1.out.keep Q1.out.own) HMM0.out; cases e'; have c1 := d1; clear ho hg hd d0 d1 d2 d3 d4 d5 c0)
     | (at_builtin; refine wpList_append_own_at _ rfl _ _ 60 rfl w1.heap.size 62 u0 (.int .u64 0) 1 8 Tryz.underlying60 hui hu0 hu1 hu2 rfl (by decide) _ _ _ rfl (Q1.out.r.alloc _) ⟨wq1.heap.size, 0, none⟩ 1 1 [.int .u64 (Rf.u64 (mr m) : Int)] rfl rfl (cell_one_new _ _ _) (by simp [Value.oneCell']) (by unfold maxLen; omega) (by omega) (by have := Q1.out.own.size; simp; omega) ?_; intro ur wq2 ho hg _ hd; have Q2 := Lib.hid (Q1.out.put_r _ ho hg hd); obtain ⟨b', off', e', _, d0, d1, d2, d3, d4, d5⟩ := move_cells (HM1.out.keep Q2.out.own) HMM0.out; cases e'; have c2 := d2; clear ho hg hd d0 d1 d2 d3 d4 d5 c1)
     | (at_builtin; refine wpList_append_own_at _ rfl _ _ 57 rfl w1.heap.size 3 i0 (.int .i64 0) 1 8 Tryz.underlying57 hi hz0 hz1 hz2 rfl (by decide) _ _ _ rfl (Q2.out.p.alloc _) ⟨wq2.heap.size, 0, none⟩ 1 1 [.int .i64 (pa (mw m))] rfl rfl (cell_one_new _ _ _) (by simp [Value.oneCell']) (by unfold maxLen; omega) (by omega) (by have := Q2.out.own.size; simp; omega) ?_; intro up wq3 ho hg _ hd; have Q3 := Lib.hid (Q2.out.put_p _ ho hg hd); obtain ⟨b', off', e', _, d0, d1, d2, d3, d4, d5⟩ := move_cells (HM1.out.keep Q3.out.own) HMM0.out; cases e'; have c3 := d3; clear ho hg hd d0 d1 d2 d3 d4 d5 c2)
     | (at_builtin; refine wpList_append_own_at _ rfl _ _ 57 rfl w1.heap.size 3 i0 (.int .i64 0) 1 8 Tryz.underlying57 hi hz0 hz1 hz2 rfl (by decide) _ _ _ rfl (Q3.out.k.alloc _) ⟨wq3.heap.size, 0, none⟩ 1 1 [.int .i64 (ch (mw m))] rfl rfl (cell_one_new _ _ _) (by simp [Value.oneCell']) (by unfold maxLen; omega) (by omega) (by have := Q3.out.own.size; simp; omega) ?_; intro uk wq4 ho hg _ hd; have Q4 := Lib.hid (Q3.out.put_k _ ho hg hd); obtain ⟨b', off', e', _, d0, d1, d2, d3, d4, d5⟩ := move_cells (HM1.out.keep Q4.out.own) HMM0.out; cases e'; have c4 := d4; clear ho hg hd d0 d1 d2 d3 d4 d5 c3)
     | (at_builtin; refine wpList_append_own_at _ rfl _ _ 64 rfl w1.heap.size 9 t0 (.string ⟨#[]⟩) 1 16 Tryz.underlying64 hti ht0 ht1 ht2 rfl (by decide) _ _ _ rfl (Q4.out.s.alloc _) ⟨wq4.heap.size, 0, none⟩ 1 1 [.string (ba (nm (mw m)))] rfl rfl (cell_one_new _ _ _) (by simp [Value.oneCell']) (by unfold maxLen; omega) (by omega) (by have := Q4.out.own.size; simp; omega) ?_; intro us wq5 ho hg _ hd; have Q5 := Lib.hid (Q4.out.put_s _ ho hg hd); obtain ⟨b', off', e', _, d0, d1, d2, d3, d4, d5⟩ := move_cells (HM1.out.keep Q5.out.own) HMM0.out; cases e'; have c5 := d5; clear ho hg hd d0 d1 d2 d3 d4 d5 c4)
     | (at_builtin; refine wpList_append_own_at _ rfl _ _ 23 rfl w1.heap.size 49 f0 (.float .f64 0) 1 8 Tryz.underlying23 hfi hf0 hf1 hf2 rfl (by decide) _ _ _ rfl (Q5.out.f.alloc _) ⟨wq5.heap.size, 0, none⟩ 1 1 [.float .f64 (rk (mw m))] rfl rfl (cell_one_new _ _ _) (by simp [Value.oneCell']) (by unfold maxLen; omega) (by omega) (by have := Q5.out.own.size; simp; omega) ?_; intro uf wq6 ho hg _ hd; have Q6 := Lib.hid (Q5.out.put_f _ ho hg hd); clear ho hg hd c5))
    have hrr : R6k w1 wq6 l (k + 1) uc up uk ur us uf := by
     unfold R6k
     obtain ⟨h1, h2, h3, h4, h5, h6⟩ := HV.out
     rw [h1, h2, h3, h4, h5, h6]
     exact Q6.out
    have HRR := Lib.hid hrr
    clear hrr Q1 Q2 Q3 Q4 Q5 Q6
    go_wp2_with fail
    go_roundw
    case rel => exact ⟨k + 1, by go_num, by omega, HRR.out⟩
    case measure => simp only [Go.RowKit.intOf]; omega
   ·obtain rfl : k = l.length := by omega
    unfold R6k at hrr
    rw [List.take_length] at hrr
    obtain ⟨A1, c1, q1, a1, -, -⟩ := own_at hrr.c
    obtain ⟨A3, c3, q3, a3, -, -⟩ := own_at hrr.p
    obtain ⟨A4, c4, q4, a4, -, -⟩ := own_at hrr.k
    obtain ⟨A2, c2, q2, a2, -, -⟩ := own_at hrr.r
    obtain ⟨A5, c5, q5, a5, -, -⟩ := own_at hrr.s
    obtain ⟨A6, c6, q6, a6, -, -⟩ := own_at hrr.f
    have B7 := Lib.hid (B1.out.trans (hrr.own.mono B1.out.size))
    have C17 := Lib.hid a1
    have C27 := Lib.hid a2
    have C37 := Lib.hid a3
    have C47 := Lib.hid a4
    have C57 := Lib.hid a5
    have C67 := Lib.hid a6
    clear hrr a1 a2 a3 a4 a5 a6
    cases q1
    cases q2
    cases q3
    cases q4
    cases q5
    cases q6
    go_wp2_with fail
    refine (X0.out _).mono ?_
    rintro e w8 ⟨rfl, hb⟩
    have B8 := Lib.hid (B7.out.trans (hb.mono B7.out.size))
    have C18 := Lib.hid (C17.out.keep hb)
    have C28 := Lib.hid (C27.out.keep hb)
    have C38 := Lib.hid (C37.out.keep hb)
    have C48 := Lib.hid (C47.out.keep hb)
    have C58 := Lib.hid (C57.out.keep hb)
    have C68 := Lib.hid (C67.out.keep hb)
    clear hb
    go_wp2_with fail
    refine (lencD_k E1.out X1.out (by omega) I1.out C18.out).mono ?_
    rintro e w9 ⟨rfl, hb⟩
    have B9 := Lib.hid (B8.out.trans (hb.mono B8.out.size))
    have C29 := Lib.hid (C28.out.keep hb)
    have C39 := Lib.hid (C38.out.keep hb)
    have C49 := Lib.hid (C48.out.keep hb)
    have C59 := Lib.hid (C58.out.keep hb)
    have C69 := Lib.hid (C68.out.keep hb)
    clear hb
    go_wp2_with fail
    refine (prtD_v X1.out Y1.out Z1.out _).mono ?_
    rintro e w10 ⟨rfl, hb⟩
    have B10 := Lib.hid (B9.out.trans (hb.mono B9.out.size))
    have C210 := Lib.hid (C29.out.keep hb)
    have C310 := Lib.hid (C39.out.keep hb)
    have C410 := Lib.hid (C49.out.keep hb)
    have C510 := Lib.hid (C59.out.keep hb)
    have C610 := Lib.hid (C69.out.keep hb)
    clear hb
    go_wp2_with fail
    refine (uencD_k E2.out X2.out (by omega) (nums_u64 l) C210.out).mono ?_
    rintro e w11 ⟨rfl, hb⟩
    have B11 := Lib.hid (B10.out.trans (hb.mono B10.out.size))
    have C311 := Lib.hid (C310.out.keep hb)
    have C411 := Lib.hid (C410.out.keep hb)
    have C511 := Lib.hid (C510.out.keep hb)
    have C611 := Lib.hid (C610.out.keep hb)
    clear hb
    go_wp2_with fail
    refine (lencD_k E3.out X3.out (by omega) I3.out C311.out).mono ?_
    rintro e w12 ⟨rfl, hb⟩
    have B12 := Lib.hid (B11.out.trans (hb.mono B11.out.size))
    have C412 := Lib.hid (C411.out.keep hb)
    have C512 := Lib.hid (C511.out.keep hb)
    have C612 := Lib.hid (C611.out.keep hb)
    clear hb
    go_wp2_with fail
    refine (prtD_v X3.out Y3.out Z3.out _).mono ?_
    rintro e w13 ⟨rfl, hb⟩
    have B13 := Lib.hid (B12.out.trans (hb.mono B12.out.size))
    have C413 := Lib.hid (C412.out.keep hb)
    have C513 := Lib.hid (C512.out.keep hb)
    have C613 := Lib.hid (C612.out.keep hb)
    clear hb
    go_wp2_with fail
    refine (lencD_k E4.out X4.out (by omega) I4.out C413.out).mono ?_
    rintro e w14 ⟨rfl, hb⟩
    have B14 := Lib.hid (B13.out.trans (hb.mono B13.out.size))
    have C514 := Lib.hid (C513.out.keep hb)
    have C614 := Lib.hid (C613.out.keep hb)
    clear hb
    go_wp2_with fail
    refine (dencD_k E5.out X5.out (by omega) (fun t ht => by obtain ⟨m, hm, rfl⟩ := List.mem_map.1 ht; have := (HOK.out m hm).2; omega) C514.out).mono ?_
    rintro e w15 ⟨rfl, hb⟩
    have B15 := Lib.hid (B14.out.trans (hb.mono B14.out.size))
    have C615 := Lib.hid (C614.out.keep hb)
    clear hb
    go_wp2_with fail
    refine (pranksD_k E6.out X6.out (by omega) (fun u hu => by obtain ⟨m, hm, rfl⟩ := List.mem_map.1 hu; exact (HOK.out m hm).1) C615.out).mono ?_
    rintro e w16 ⟨rfl, hb⟩
    have B16 := Lib.hid (B15.out.trans (hb.mono B15.out.size))
    clear hb
    go_wp2_with fail
    go_ret2
    rw [HE.out, HCL.out, HCV.out]
    refine ⟨_, _, rfl, ?_, Nat.le_refl _, B16.out.alloc B16.out.size _⟩
    exact at_newO _ _ _
end Go.Proofs.YtojhenpaeedimaaGreat
