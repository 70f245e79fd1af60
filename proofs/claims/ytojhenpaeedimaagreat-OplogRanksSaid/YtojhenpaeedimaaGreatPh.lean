/-
 Plain mathematics of layer 7: how many flags any lengths spread to, if they are lengths of a list. No Go.
 flags: one length laid; how many flags any lengths spread to.
 Spread of flags, the program's.
 Spread of flags, the document's.
-/
import Derived.Test.YtojhenpaeedimaaGreatMs
import Derived.Test.YtojhenpaeedimaaGreatQh
import Derived.Test.YtojhenpaeedimaaGreatDe
import Derived.Test.YtojhenpaeedimaaGreatPi
import Derived.Test.YtojhenpaeedimaaGreatDg
import Derived.Sort.LoopGhostIn
section
namespace Go.Proofs.YtojhenpaeedimaaGreat.Pk
/-- what is left of most, behind lengths that may be those from the i-th on; one: whether there is just one -/
def szR : Nat → Bool → List Int → Int → Option Int
 | _, _, [], left => if left < 0 then none else some left
 | i, one, x :: r, left => if x < 0 ∨ (x = 0 ∧ (0 < i ∨ one = true)) then none else if left < x then none else szR (i + 1) one r (left - x)
def sprI (r : List Int) : List Bool := sprB false (r.map Int.toNat)
/-- P7.2 -/
def sprF (r : List Int) (most : Int) : List Bool × Bool := match szR 0 (decide (r.length = 1)) r most with
 | none => ([], false)
 | some _ => (sprI r, true)
def par (k : Nat) : Bool := decide (k % 2 = 1)
theorem par_succ (k : Nat) : par (k + 1) = !par k := by
 unfold par
 by_cases h : k % 2 = 1
 ·have : ¬ (k + 1) % 2 = 1 := by omega
  simp [h, this]
 ·have : (k + 1) % 2 = 1 := by omega
  simp [h, this]
theorem sprF_none {r : List Int} {most : Int} (h : szR 0 (decide (r.length = 1)) r most = none) : sprF r most = ([], false) := by unfold sprF; rw [h]
theorem sprF_some {r : List Int} {most z : Int} (h : szR 0 (decide (r.length = 1)) r most = some z) : sprF r most = (sprI r, true) := by unfold sprF; rw [h]
theorem szR_nil {i : Nat} {one : Bool} {left : Int} : szR i one [] left = if left < 0 then none else some left := rfl
theorem drop_one {α : Type} {l : List α} {k : Nat} {x : α} (h : l[k]? = some x) : l.drop k = x :: l.drop (k + 1) := by
 obtain ⟨hlt, rfl⟩ := List.getElem?_eq_some_iff.1 h
 exact List.drop_eq_getElem_cons hlt
theorem szR_bad {r : List Int} {k : Nat} {one : Bool} {x left : Int} (h : r[k]? = some x) (hb : x < 0 ∨ (x = 0 ∧ (0 < k ∨ one = true))) : szR k one (r.drop k) left = none := by
 rw [drop_one h, szR, if_pos hb]
theorem szR_far {r : List Int} {k : Nat} {one : Bool} {x left : Int} (h : r[k]? = some x) (hb : left < x) : szR k one (r.drop k) left = none := by
 rw [drop_one h, szR]
 split
 ·rfl
 ·rfl
theorem szR_step {r : List Int} {k : Nat} {one : Bool} {x left : Int} (h : r[k]? = some x) (hb : ¬ (x < 0 ∨ (x = 0 ∧ (0 < k ∨ one = true)))) (hl : ¬ left < x) : szR k one (r.drop k) left = szR (k + 1) one (r.drop (k + 1)) (left - x) := by
 rw [drop_one h, szR, if_neg hb, if_neg hl]
theorem szR_end {r : List Int} {one : Bool} {left : Int} : szR r.length one (r.drop r.length) left = if left < 0 then none else some left := by rw [List.drop_length]; rfl
theorem szR_some (r : List Int) : ∀ i one left z, szR i one r left = some z → (∀ x ∈ r, 0 ≤ x) ∧ 0 ≤ z ∧ ∀ f, ((sprB f (r.map Int.toNat)).length : Int) = left - z := by
 induction r with
 | nil =>
  intro i one left z h
  rw [szR_nil] at h
  split at h
  ·simp at h
  ·injection h with h
   subst h
   exact ⟨by simp, by omega, fun f => by simp [sprB]⟩
 | cons x r ih =>
  intro i one left z h
  rw [szR] at h
  split at h
  ·simp at h
  ·rename_i h1
   rw [not_or] at h1
   split at h
   ·simp at h
   ·obtain ⟨a, b, c⟩ := ih _ _ _ _ h
    refine ⟨?_, b, fun f => ?_⟩
    ·intro y hy
     rcases List.mem_cons.1 hy with rfl | hy
     ·omega
     ·exact a y hy
    ·rw [List.map_cons, sprB_cons, List.length_append, List.length_replicate]
     have := c (!f)
     omega
theorem szR_pos (r : List Nat) : ∀ i one (left : Int), posN r → (r.sum : Int) ≤ left → szR i one (r.map fun (n : Nat) => (n : Int)) left = some (left - r.sum) := by
 induction r with
 | nil => intro i one left _ h; simp at h; rw [List.map_nil, szR_nil, if_neg (by omega)]; simp
 | cons x r ih =>
  intro i one left hp h
  have hx := hp x (by simp)
  rw [List.sum_cons] at h
  rw [List.map_cons, szR, if_neg (by omega), if_neg (by omega), ih _ _ _ (fun y hy => hp y (by simp [hy])) (by omega), List.sum_cons]
  congr 1
  omega
theorem int_nat (l : List Nat) : (l.map fun (n : Nat) => (n : Int)).map Int.toNat = l := by
 rw [List.map_map]
 have : (Int.toNat ∘ fun (n : Nat) => (n : Int)) = id := by funext n; simp
 rw [this, List.map_id]
/-- of lengths that are those of a list, or a 0 alone -/
theorem sprF_nat {l : List Nat} {n : Nat} (h : posN l.tail) (hs : l.sum ≤ n) : sprF (l.map fun (n : Nat) => (n : Int)) (n : Int) = if l = [0] then ([], false) else (sprB false l, true) := by
 by_cases h0 : l = [0]
 ·rw [if_pos h0]; subst h0; rfl
 ·rw [if_neg h0]
  have hi : sprI (l.map fun (n : Nat) => (n : Int)) = sprB false l := by unfold sprI; rw [int_nat]
  cases l with
  | nil => rw [sprF_some (z := (n : Int)) (by rw [List.map_nil, szR_nil, if_neg (by omega)])]; rfl
  | cons x r =>
   rw [List.sum_cons] at hs
   have := szR_pos r 1 (decide (((x :: r).map fun (n : Nat) => (n : Int)).length = 1)) ((n : Int) - x) h (by omega)
   rw [sprF_some (z := (n : Int) - x - r.sum), hi]
   rw [List.map_cons, szR, if_neg, if_neg (by omega)]
   ·exact this
   ·rintro (h1 | ⟨h1, h2⟩)
    ·omega
    ·have hx : x = 0 := by omega
     rcases h2 with h2 | h2
     ·omega
     ·simp at h2
      subst h2
      exact h0 (by rw [hx])
theorem sprB_none {l : List Nat} (h : posN l.tail) : sprB false l = [] ↔ l = [] ∨ l = [0] := by
 constructor
 ·intro e
  cases l with
  | nil => exact .inl rfl
  | cons x r =>
   refine .inr ?_
   have := congrArg List.length e
   rw [sprB_len, List.sum_cons] at this
   have h2 := pos_len r h
   simp at this
   have hr : r = [] := List.eq_nil_of_length_eq_zero (by omega)
   rw [hr, this.1]
 ·rintro (rfl | rfl) <;> rfl
theorem sprI_take {r : List Int} {k : Nat} {x : Int} (h : r[k]? = some x) : sprI (r.take (k + 1)) = sprI (r.take k) ++ List.replicate x.toNat (par k) := by
 have hk : k < r.length := (List.getElem?_eq_some_iff.1 h).1
 unfold sprI
 rw [List.take_add_one, h, List.map_append, sprB_app]
 congr 1
 rw [List.length_map, List.length_take, Nat.min_eq_left (by omega)]
 simp only [Option.toList_some, List.map_cons, List.map_nil]
 rw [sprB_cons, sprB_nil, List.append_nil]
 congr 1
end Go.Proofs.YtojhenpaeedimaaGreat.Pk
end
section
namespace Go.Proofs.YtojhenpaeedimaaGreat
open Dl Ru
namespace Fg
open Go.RowKit Go.IntWalk
open Pk
set_option maxRecDepth 100000
attribute [local go_sem] Oper.semAt_some
theorem repB_snoc (v : Bool) (k : Nat) : List.replicate (k + 1) v = List.replicate k v ++ [v] := by rw [List.replicate_succ']
set_option maxHeartbeats 4000000 in
theorem layF_c (base g n cap m : Nat) (v : Bool) (xs : List Bool) (hm : m ≤ 100000) (_ : n ≤ 100000) (hcap : n + m ≤ cap) (w : World) (hown : w.ownsRow base 4 1 (.slice (some ⟨g, 0, none⟩) n cap) n (bvs xs)) :
  Calls Tryz.prog 188 #[.slice (some ⟨g, 0, none⟩) n cap, .bool v, .int .i64 (m : Int)] w fun e w' => e = .returned (.slice (some ⟨g, 0, none⟩) (n + m) cap) ∧
   w'.ownsRow base 4 1 (.slice (some ⟨g, 0, none⟩) (n + m) cap) (n + m) (bvs (xs ++ List.replicate m v)) ∧ w.grownBy w' (some g) := by
 obtain ⟨i0, hi, hz0, hz1, hz2⟩ := info_parts Tryz.info4
 go_enter Tryz.func188, Tryz.ntmps188
 go_wp2_with fail
 go_loopw [0, 8] (fun s i wr => ∃ k : Nat, s = .slice (some ⟨g, 0, none⟩) (n + k) cap ∧ i = .int .i64 (k : Int) ∧ k ≤ m ∧ wr.ownsRow base 4 1 (.slice (some ⟨g, 0, none⟩) (n + k) cap) (n + k) (bvs (xs ++ List.replicate k v)) ∧ w.grownBy wr (some g))
  (fun _ i _ => m - (Go.RowKit.intOf i).toNat)
 case atStart => exact ⟨0, rfl, rfl, Nat.zero_le _, by simpa using hown, ⟨rfl, rfl, rfl, Nat.le_refl _, fun _ _ _ => rfl⟩⟩
 case round =>
  clear hown
  obtain ⟨k, rfl, rfl, hk, hown, hgr⟩ := hrel
  by_cases hlt : k < m
  ·go_wp2_with (at_builtin; refine wpList_append_fits _ rfl _ _ 85 rfl base 4 i0 1 Tryz.underlying85 hi hz1 g (n + k) cap _ rfl (hown.alloc _) ⟨wr.heap.size, 0, none⟩ 1 1 [.bool v] rfl rfl (cell_one_new _ _ _) (by simp [Value.oneCell']) (by omega) ?_; intro w2 hown' hgrow)
   go_roundw
   case rel =>
    refine ⟨k + 1, rfl, by go_num, by omega, ?_, grown_tr (grown_tr hgr (World.grownBy_alloc _ _ _)) hgrow⟩
    rw [repB_snoc, ← List.append_assoc, bvs_snoc]
    exact hown'
   case measure => simp only [Go.RowKit.intOf]; omega
  ·obtain rfl : k = m := by omega
   go_wp2_with fail
   go_ret
   exact ⟨rfl, hown, hgr⟩
end Fg
end Go.Proofs.YtojhenpaeedimaaGreat
end
section
namespace Go.Proofs.YtojhenpaeedimaaGreat
open Dl Ru
namespace Fg
open Go.RowKit Go.IntWalk
open Pk
set_option maxRecDepth 100000
attribute [local go_sem] Oper.semAt_some
/-- a list of flags and one value more, as the answer of a call -/
def BEnd (l : List Bool) (t : Value) (w : World) (e : Ending) (w' : World) : Prop :=
 ∃ A cap, e = .returned (.tuple #[.slice A l.length cap, t]) ∧ l.length ≤ cap ∧ Fresh w.heap.size A ∧ At w' w'.heap.size A (bvs l) ∧ Below w.heap.size w w'
theorem bEnd_nil {t : Value} {w w' : World} (hb : Below w.heap.size w w') : BEnd [] t w (.returned (.tuple #[.slice none 0 0, t])) w' :=
 ⟨none, 0, rfl, Nat.le_refl _, fun a ha => (by cases ha), At.nil _ _ _, hb⟩
theorem own_one {w w' : World} {base g q size n k cap : Nat} {e : TypeId} {xs : List Value} (h : w.ownsRow base e size (.slice (some ⟨g, 0, none⟩) k cap) n xs) (ho : w.grownBy w' (some q)) (hq : g ≠ q) : w'.ownsRow base e size (.slice (some ⟨g, 0, none⟩) k cap) n xs :=
 h.kept ho (.inr (by simpa [Value.ownBlock] using hq))
end Fg
end Go.Proofs.YtojhenpaeedimaaGreat
end
section
namespace Go.Proofs.YtojhenpaeedimaaGreat
open Dl Ru
namespace Fg
open Go.RowKit Go.IntWalk
open Pk
set_option maxRecDepth 100000
attribute [local go_sem] Oper.semAt_some
theorem own_snocB {w : World} {base n : Nat} {v : Value} {xs : List Bool} {x : Bool} (h : w.ownsRow base 4 1 v (n + 1) (bvs xs ++ [.bool x])) : w.ownsRow base 4 1 v (n + 1) (bvs (xs ++ [x])) := by
 rw [bvs_snoc]; exact h
set_option maxHeartbeats 8000000 in
theorem rspreadF_c (A : Option Addr) (cap : Nat) (r : List Int) (most : Int) (hr : r.length ≤ 100000) (hm1 : -9223372036854775808 ≤ most) (hm2 : most ≤ 100000) (hri : ∀ x ∈ r, In64 x) (w : World) (hc : At w w.heap.size A (ivs r)) :
  Calls Tryz.prog 146 #[.slice A r.length cap, .int .i64 most] w (BEnd (sprF r most).1 (.bool (sprF r most).2) w) := by
 obtain ⟨i0, hi, hz0, hz1, hz2⟩ := info_parts Tryz.info4
 have HC := Lib.hid hc
 have HRI := Lib.hid hri
 clear hc hri
 obtain ⟨res, hres⟩ : ∃ res, res = sprF r most := ⟨_, rfl⟩
 have HR := Lib.hid hres
 rw [← hres]
 clear hres
 by_cases hneg : most < 0
 ·have HN := Lib.hid hneg
  have hres2 : res = ([], false) := by
   rw [HR.out]
   cases hz : szR 0 (decide (r.length = 1)) r most with
   | none => exact sprF_none hz
   | some z =>
    obtain ⟨_, h2, h3⟩ := szR_some _ _ _ _ _ hz
    have := h3 false
    have := HN.out
    omega
  go_enter Tryz.func146, Tryz.ntmps146
  go_wp2_with fail
  go_ret2
  rw [hres2]
  exact bEnd_nil (Below.refl _ _)
 obtain ⟨N, rfl⟩ := Int.eq_ofNat_of_zero_le (show 0 ≤ most by omega)
 have t1 : decide ((N : Int) < 0) = false := by simp
 have hN : N ≤ 100000 := by omega
 clear hneg hm1 hm2
 by_cases hone : r.length = 1 ∧ r[0]? = some 0
 ·obtain ⟨h1, h2⟩ := hone
  have hres2 : res = ([], false) := by
   rw [HR.out]
   refine sprF_none ?_
   have := szR_bad (one := decide (r.length = 1)) (left := (N : Int)) h2 (.inr ⟨rfl, .inr (by simp [h1])⟩)
   simpa using this
  obtain ⟨b, off, rfl, hbl, hcell⟩ := HC.out 0 _ (ivs_at h2)
  rw [Nat.add_zero] at hcell
  have t2 : ((r.length : Int) == 1) = true := by simp [h1]
  go_enter Tryz.func146, Tryz.ntmps146
  go_wp2_with fail
  go_ret2
  rw [hres2]
  exact bEnd_nil (Below.refl _ _)
 have HONE := Lib.hid hone
 have hor : (∃ b off x, A = some ⟨b, off, none⟩ ∧ r.length = 1 ∧ r[0]? = some x ∧ x ≠ 0 ∧ w.cell? ⟨b, off, none⟩ = some (.int .i64 x)) ∨ r.length ≠ 1 := by
  by_cases h1 : r.length = 1
  ·obtain ⟨x, hx⟩ := some_at (show 0 < r.length by omega)
   obtain ⟨b, off, rfl, hbl, hcell⟩ := HC.out 0 _ (ivs_at hx)
   rw [Nat.add_zero] at hcell
   exact .inl ⟨b, off, x, rfl, h1, hx, fun e => hone ⟨h1, by rw [hx, e]⟩, hcell⟩
  ·exact .inr h1
 clear hone
 have hent : Calls Tryz.prog 146 #[.slice A r.length cap, .int .i64 (N : Int)] w (BEnd res.1 (.bool res.2) w) := by
  rcases hor with ⟨b, off, x, rfl, h1, hx, hx0, hcell⟩ | h1
  ·have h1a : r.length ≤ 1 := by omega
   have h1b : 1 ≤ r.length := by omega
   have t3 : (x == 0) = false := by simpa using hx0
   have HX0 := Lib.hid hx0
   clear h1 hx hx0
   go_enter Tryz.func146, Tryz.ntmps146
   go_wp2_with fail
   clear hcell h1a h1b t3
   go_loopg [6, 7] r.length (fun m s i wr => ∃ k : Nat, i = .int .i64 (k : Int) ∧ r.length - k ≤ m ∧ k ≤ r.length ∧ (sprI (r.take k)).length ≤ N ∧ szR k (decide (r.length = 1)) (r.drop k) ((N : Int) - ((sprI (r.take k)).length : Int)) = szR 0 (decide (r.length = 1)) r (N : Int) ∧ (∃ A' cap', s = .slice A' (sprI (r.take k)).length cap') ∧ wr.ownsRow w.heap.size 4 1 s (sprI (r.take k)).length (bvs (sprI (r.take k))) ∧ Below w.heap.size w wr)
   case atStart => exact ⟨0, rfl, by omega, Nat.zero_le _, Nat.zero_le _, by simp [sprI, sprB], ⟨none, 0, rfl⟩, World.ownsRow_nil _ _ _ _, Below.refl _ _⟩
   case round =>
    obtain ⟨k, rfl, hmk, hk, hsN, hsz, ⟨A0, cap0, rfl⟩, hown, hb⟩ := hrel
    have hb0 := hb.size
    by_cases hlt : k < r.length
    ·obtain ⟨x, hxk⟩ := some_at hlt
     obtain ⟨b', off', hbe', hbl, hcell⟩ := (HC.out.below hb) k _ (ivs_at hxk)
     cases hbe'
     have hxi : In64 x := HRI.out _ (mem_at hxk)
     unfold In64 at hxi
     obtain ⟨hx1, hx2⟩ := hxi
     have HX := Lib.hid hxk
     have HSZ := Lib.hid hsz
     obtain ⟨n, hn⟩ : ∃ n, n = (sprI (r.take k)).length := ⟨_, rfl⟩
     rw [← hn] at hown hsN ⊢
     have HNN := Lib.hid hn
     clear hsz hn
     by_cases hbad : x < 0 ∨ (x = 0 ∧ 0 < k)
     ·have hres2 : res = ([], false) := by
       rw [HR.out]
       refine sprF_none ?_
       rw [← HSZ.out]
       exact szR_bad hxk (by rcases hbad with h | ⟨h1, h2⟩; exact .inl h; exact .inr ⟨h1, .inl h2⟩)
      clear hxk
      rcases hbad with hb1 | ⟨hb1, hb2⟩
      ·go_wp2_with fail
       go_ret2
       rw [hres2]
       exact bEnd_nil hb
      ·have t5 : (x == 0) = true := by simp [hb1]
       have t6 : decide ((0 : Int) < (k : Int)) = true := by simp; omega
       go_wp2_with fail
       all_goals
        go_ret2
        rw [hres2]
        exact bEnd_nil hb
     ·have hx0 : 0 ≤ x := by omega
      have hstep := szR_step (r := r) (k := k) (one := decide (r.length = 1)) (x := x) (left := (N : Int) - (n : Int)) hxk (by
       rintro (h | ⟨h1, h2⟩)
       ·omega
       ·rcases h2 with h2 | h2
        ·exact hbad (.inr ⟨h1, h2⟩)
        ·simp at h2
         refine HONE.out ⟨h2, ?_⟩
         have : k = 0 := by omega
         rw [this, h1] at hxk
         exact hxk)
      have HSTEP := Lib.hid hstep
      have t5 : (x == 0 && decide (0 < k)) = false := by
       by_cases h : x = 0
       ·have : ¬ 0 < k := fun h2 => hbad (.inr ⟨h, h2⟩)
        simp [h, this]
       ·simp [h]
      have hk0 : x = 0 → k = 0 := fun h => by
       have : ¬ 0 < k := fun h2 => hbad (.inr ⟨h, h2⟩)
       omega
      have HK0 := Lib.hid hk0
      clear hstep hbad t5 hk0
      have hsp : ((x == 0) = true ∧ decide ((0 : Int) < (k : Int)) = false ∧ decide (0 < k) = false ∧ ¬ 0 < k) ∨ (x == 0) = false := by
       by_cases h : x = 0
       ·have := HK0.out h
        exact .inl ⟨by simp [h], by simp; omega, by simp; omega, by omega⟩
       ·exact .inr (by simpa using h)
      have t0 : decide (x < 0) = false := by simp; omega
      rcases hsp with ⟨t5, t6, t7, t8⟩ | t5
      all_goals
       by_cases hfar : (N : Int) - (n : Int) < x
       ·have hres2 : res = ([], false) := by
         rw [HR.out]
         refine sprF_none ?_
         rw [← HSZ.out, ← HNN.out]
         exact szR_far hxk hfar
        have HRES2 := Lib.hid hres2
        clear hxk hres2
        go_wp2_with fail
        go_ret2
        rw [HRES2.out]
        exact bEnd_nil hb
       ·obtain ⟨q, rfl⟩ := Int.eq_ofNat_of_zero_le hx0
        have hst := sprI_take hxk
        rw [Int.toNat_natCast] at hst
        have hsl := congrArg List.length hst
        rw [List.length_append, List.length_replicate, ← HNN.out] at hsl
        have HST := Lib.hid hst
        have HSL := Lib.hid hsl
        have hnq : n + q ≤ N := by omega
        have hxx := hxk
        have HXK := Lib.hid hxx
        clear hst hsl hxk hxx hbl
        go_wp2_with fail
        go_loopg [6, 8] q (fun m s j wr2 => ∃ i : Nat, j = .int .i64 (i : Int) ∧ q - i ≤ m ∧ i ≤ q ∧ (∃ A' cap', s = .slice A' (n + i) cap') ∧ wr2.ownsRow w.heap.size 4 1 s (n + i) (bvs (sprI (r.take k) ++ List.replicate i (par k))) ∧ Below w.heap.size w wr2)
        case atStart => exact ⟨0, rfl, by omega, Nat.zero_le _, ⟨_, _, rfl⟩, by simpa using hown, hb⟩
        case round =>
         clear hcell hown hb hb0
         obtain ⟨i, rfl, hmi, hi9, ⟨A1, cap1, rfl⟩, hown, hb⟩ := hrel
         have hb0 := hb.size
         obtain ⟨b', off', hbe, _, hcell⟩ := (HC.out.below hb) k _ (ivs_at HXK.out)
         cases hbe
         have hni : n + i ≤ 100000 := by omega
         by_cases hiq : i < q
         ·have hp1 : ((k : Int).tmod 2 == 1) = par k := by
           unfold par
           rw [show (k : Int).tmod 2 = ((k % 2 : Nat) : Int) by rw [Int.tmod_eq_emod_of_nonneg (by omega)]; omega]
           by_cases h : k % 2 = 1 <;> simp [h] <;> omega
          have hp2 : ((k : Int) % 2 == 1) = par k := by
           unfold par
           rw [show (k : Int) % 2 = ((k % 2 : Nat) : Int) by omega]
           by_cases h : k % 2 = 1 <;> simp [h] <;> omega
          go_wp2_with (at_builtin; refine wpList_append_own _ rfl _ _ 85 rfl w.heap.size 4 i0 (.bool false) 1 1 Tryz.underlying85 hi hz0 hz1 hz2 rfl (by decide) _ _ _ rfl (hown.alloc _) ⟨wr.heap.size, 0, none⟩ 1 1 [.bool (par k)] rfl rfl (cell_one_new _ _ _) (by simp [Value.oneCell']) (by unfold maxLen; omega) (by omega) (by simp; omega) ?_; intro v' w2 hown' hgrow _)
          have hb2 := Dl.below_ownI hb hb0 hown hgrow
          obtain ⟨g', cap', rfl⟩ := ownsRow_succ hown'
          have ho2 := own_snocB hown'
          rw [List.append_assoc, ← repB_snoc] at ho2
          clear hown hown' hgrow hb hcell
          go_roundg (q - (i + 1))
          case measure => omega
          case rel => exact ⟨i + 1, by go_num, Nat.le_refl _, by omega, ⟨_, _, rfl⟩, ho2, hb2⟩
         ·obtain rfl : i = q := by omega
          go_wp2_with fail
          rw [← HST.out] at hown
          have hfin : szR (k + 1) (decide (r.length = 1)) (r.drop (k + 1)) ((N : Int) - ((sprI (r.take (k + 1))).length : Int)) = szR 0 (decide (r.length = 1)) r (N : Int) := by
           rw [show ((N : Int) - ((sprI (r.take (k + 1))).length : Int)) = (N : Int) - (n : Int) - (i : Int) by rw [HSL.out]; omega, ← HSTEP.out (by omega), HNN.out]
           exact HSZ.out
          go_roundg (r.length - (k + 1))
          case measure => omega
          case rel => exact ⟨k + 1, by go_num, Nat.le_refl _, by omega, by rw [HSL.out]; exact hnq, hfin, ⟨_, _, by rw [HSL.out]⟩, by rw [HSL.out]; exact hown, hb⟩
    ·obtain rfl : k = r.length := by omega
     rw [szR_end] at hsz
     rw [List.take_length] at hown hsN hsz
     obtain ⟨A', cap', hA, ha, hfr, hcp⟩ := own_at hown
     cases hA
     have hres2 : res = (sprI r, true) := by
      rw [HR.out]
      rw [if_neg (by omega)] at hsz
      exact sprF_some hsz.symm
     rw [List.take_length]
     clear hsz hown
     go_wp2_with fail
     go_ret2
     rw [hres2]
     exact ⟨_, _, rfl, hcp, hfr, ha, hb⟩
  ·have t2 : ((r.length : Int) == 1) = false := by simp; omega
   go_enter Tryz.func146, Tryz.ntmps146
   go_wp2_with fail
   go_loopg [6, 7] r.length (fun m s i wr => ∃ k : Nat, i = .int .i64 (k : Int) ∧ r.length - k ≤ m ∧ k ≤ r.length ∧ (sprI (r.take k)).length ≤ N ∧ szR k (decide (r.length = 1)) (r.drop k) ((N : Int) - ((sprI (r.take k)).length : Int)) = szR 0 (decide (r.length = 1)) r (N : Int) ∧ (∃ A' cap', s = .slice A' (sprI (r.take k)).length cap') ∧ wr.ownsRow w.heap.size 4 1 s (sprI (r.take k)).length (bvs (sprI (r.take k))) ∧ Below w.heap.size w wr)
   case atStart => exact ⟨0, rfl, by omega, Nat.zero_le _, Nat.zero_le _, by simp [sprI, sprB], ⟨none, 0, rfl⟩, World.ownsRow_nil _ _ _ _, Below.refl _ _⟩
   case round =>
    obtain ⟨k, rfl, hmk, hk, hsN, hsz, ⟨A0, cap0, rfl⟩, hown, hb⟩ := hrel
    have hb0 := hb.size
    by_cases hlt : k < r.length
    ·obtain ⟨x, hxk⟩ := some_at hlt
     obtain ⟨b, off, rfl, hbl, hcell⟩ := (HC.out.below hb) k _ (ivs_at hxk)
     have hxi : In64 x := HRI.out _ (mem_at hxk)
     unfold In64 at hxi
     obtain ⟨hx1, hx2⟩ := hxi
     have HX := Lib.hid hxk
     have HSZ := Lib.hid hsz
     obtain ⟨n, hn⟩ : ∃ n, n = (sprI (r.take k)).length := ⟨_, rfl⟩
     rw [← hn] at hown hsN ⊢
     have HNN := Lib.hid hn
     clear hsz hn
     by_cases hbad : x < 0 ∨ (x = 0 ∧ 0 < k)
     ·have hres2 : res = ([], false) := by
       rw [HR.out]
       refine sprF_none ?_
       rw [← HSZ.out]
       exact szR_bad hxk (by rcases hbad with h | ⟨h1, h2⟩; exact .inl h; exact .inr ⟨h1, .inl h2⟩)
      clear hxk
      rcases hbad with hb1 | ⟨hb1, hb2⟩
      ·go_wp2_with fail
       go_ret2
       rw [hres2]
       exact bEnd_nil hb
      ·have t5 : (x == 0) = true := by simp [hb1]
       have t6 : decide ((0 : Int) < (k : Int)) = true := by simp; omega
       go_wp2_with fail
       go_ret2
       rw [hres2]
       exact bEnd_nil hb
     ·have hx0 : 0 ≤ x := by omega
      have hstep := szR_step (r := r) (k := k) (one := decide (r.length = 1)) (x := x) (left := (N : Int) - (n : Int)) hxk (by
       rintro (h | ⟨h1, h2⟩)
       ·omega
       ·rcases h2 with h2 | h2
        ·exact hbad (.inr ⟨h1, h2⟩)
        ·simp at h2
         refine HONE.out ⟨h2, ?_⟩
         have : k = 0 := by omega
         rw [this, h1] at hxk
         exact hxk)
      have HSTEP := Lib.hid hstep
      have t5 : (x == 0 && decide (0 < k)) = false := by
       by_cases h : x = 0
       ·have : ¬ 0 < k := fun h2 => hbad (.inr ⟨h, h2⟩)
        simp [h, this]
       ·simp [h]
      have hk0 : x = 0 → k = 0 := fun h => by
       have : ¬ 0 < k := fun h2 => hbad (.inr ⟨h, h2⟩)
       omega
      have HK0 := Lib.hid hk0
      clear hstep hbad t5 hk0
      have hsp : ((x == 0) = true ∧ decide ((0 : Int) < (k : Int)) = false ∧ decide (0 < k) = false ∧ ¬ 0 < k) ∨ (x == 0) = false := by
       by_cases h : x = 0
       ·have := HK0.out h
        exact .inl ⟨by simp [h], by simp; omega, by simp; omega, by omega⟩
       ·exact .inr (by simpa using h)
      have t0 : decide (x < 0) = false := by simp; omega
      rcases hsp with ⟨t5, t6, t7, t8⟩ | t5
      all_goals
       by_cases hfar : (N : Int) - (n : Int) < x
       ·have hres2 : res = ([], false) := by
         rw [HR.out]
         refine sprF_none ?_
         rw [← HSZ.out, ← HNN.out]
         exact szR_far hxk hfar
        have HRES2 := Lib.hid hres2
        clear hxk hres2
        go_wp2_with fail
        go_ret2
        rw [HRES2.out]
        exact bEnd_nil hb
       ·obtain ⟨q, rfl⟩ := Int.eq_ofNat_of_zero_le hx0
        have hst := sprI_take hxk
        rw [Int.toNat_natCast] at hst
        have hsl := congrArg List.length hst
        rw [List.length_append, List.length_replicate, ← HNN.out] at hsl
        have HST := Lib.hid hst
        have HSL := Lib.hid hsl
        have hnq : n + q ≤ N := by omega
        have hxx := hxk
        have HXK := Lib.hid hxx
        clear hst hsl hxk hxx hbl
        go_wp2_with fail
        go_loopg [6, 8] q (fun m s j wr2 => ∃ i : Nat, j = .int .i64 (i : Int) ∧ q - i ≤ m ∧ i ≤ q ∧ (∃ A' cap', s = .slice A' (n + i) cap') ∧ wr2.ownsRow w.heap.size 4 1 s (n + i) (bvs (sprI (r.take k) ++ List.replicate i (par k))) ∧ Below w.heap.size w wr2)
        case atStart => exact ⟨0, rfl, by omega, Nat.zero_le _, ⟨_, _, rfl⟩, by simpa using hown, hb⟩
        case round =>
         clear hcell hown hb hb0
         obtain ⟨i, rfl, hmi, hi9, ⟨A1, cap1, rfl⟩, hown, hb⟩ := hrel
         have hb0 := hb.size
         obtain ⟨b', off', hbe, _, hcell⟩ := (HC.out.below hb) k _ (ivs_at HXK.out)
         cases hbe
         have hni : n + i ≤ 100000 := by omega
         by_cases hiq : i < q
         ·have hp1 : ((k : Int).tmod 2 == 1) = par k := by
           unfold par
           rw [show (k : Int).tmod 2 = ((k % 2 : Nat) : Int) by rw [Int.tmod_eq_emod_of_nonneg (by omega)]; omega]
           by_cases h : k % 2 = 1 <;> simp [h] <;> omega
          have hp2 : ((k : Int) % 2 == 1) = par k := by
           unfold par
           rw [show (k : Int) % 2 = ((k % 2 : Nat) : Int) by omega]
           by_cases h : k % 2 = 1 <;> simp [h] <;> omega
          go_wp2_with (at_builtin; refine wpList_append_own _ rfl _ _ 85 rfl w.heap.size 4 i0 (.bool false) 1 1 Tryz.underlying85 hi hz0 hz1 hz2 rfl (by decide) _ _ _ rfl (hown.alloc _) ⟨wr.heap.size, 0, none⟩ 1 1 [.bool (par k)] rfl rfl (cell_one_new _ _ _) (by simp [Value.oneCell']) (by unfold maxLen; omega) (by omega) (by simp; omega) ?_; intro v' w2 hown' hgrow _)
          have hb2 := Dl.below_ownI hb hb0 hown hgrow
          obtain ⟨g', cap', rfl⟩ := ownsRow_succ hown'
          have ho2 := own_snocB hown'
          rw [List.append_assoc, ← repB_snoc] at ho2
          clear hown hown' hgrow hb hcell
          go_roundg (q - (i + 1))
          case measure => omega
          case rel => exact ⟨i + 1, by go_num, Nat.le_refl _, by omega, ⟨_, _, rfl⟩, ho2, hb2⟩
         ·obtain rfl : i = q := by omega
          go_wp2_with fail
          rw [← HST.out] at hown
          have hfin : szR (k + 1) (decide (r.length = 1)) (r.drop (k + 1)) ((N : Int) - ((sprI (r.take (k + 1))).length : Int)) = szR 0 (decide (r.length = 1)) r (N : Int) := by
           rw [show ((N : Int) - ((sprI (r.take (k + 1))).length : Int)) = (N : Int) - (n : Int) - (i : Int) by rw [HSL.out]; omega, ← HSTEP.out (by omega), HNN.out]
           exact HSZ.out
          go_roundg (r.length - (k + 1))
          case measure => omega
          case rel => exact ⟨k + 1, by go_num, Nat.le_refl _, by omega, by rw [HSL.out]; exact hnq, hfin, ⟨_, _, by rw [HSL.out]⟩, by rw [HSL.out]; exact hown, hb⟩
    ·obtain rfl : k = r.length := by omega
     rw [szR_end] at hsz
     rw [List.take_length] at hown hsN hsz
     obtain ⟨A', cap', hA, ha, hfr, hcp⟩ := own_at hown
     cases hA
     have hres2 : res = (sprI r, true) := by
      rw [HR.out]
      rw [if_neg (by omega)] at hsz
      exact sprF_some hsz.symm
     rw [List.take_length]
     clear hsz hown
     go_wp2_with fail
     go_ret2
     rw [hres2]
     exact ⟨_, _, rfl, hcp, hfr, ha, hb⟩
 exact hent
end Fg
end Go.Proofs.YtojhenpaeedimaaGreat
end
