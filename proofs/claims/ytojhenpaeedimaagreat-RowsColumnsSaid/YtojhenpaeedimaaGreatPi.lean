/-
 Plain mathematics of layer 7: lengths of a list of yes and no, what they spread to, and their bytes. No Go.
 A flag that goes round in a closure; Lengths, the program's and the document's.
 Two lists of flags held against each other; how many are true.
 Lengths, the program's and the document's.
 Lengths, the document's.
 Encode of flags, the program's and the document's.
-/
import Derived.Test.YtojhenpaeedimaaGreatMt
import Derived.Test.YtojhenpaeedimaaGreatQg
import Derived.Test.YtojhenpaeedimaaGreatDg
import Derived.Sort.LoopGhostIn
import Derived.Test.YtojhenpaeedimaaGreatBt
import Derived.Test.YtojhenpaeedimaaGreatQi
section
namespace Go.Proofs.YtojhenpaeedimaaGreat.Pk
def incL : List Nat → List Nat
 | [] => [1]
 | n :: r => (n + 1) :: r
/-- P7.1: how many f stand at the begin, how many others behind these, and so on -/
def lens : Bool → List Bool → List Nat
 | _, [] => []
 | f, b :: t => if b = f then incL (lens f t) else 0 :: incL (lens b t)
def sprB : Bool → List Nat → List Bool
 | _, [] => []
 | f, n :: r => List.replicate n f ++ sprB (!f) r
def encN (r : List Nat) : List UInt8 := r.flatMap put
def encF (l : List Bool) : List UInt8 := encN (lens false l)
def posN (r : List Nat) : Prop := ∀ x ∈ r, 1 ≤ x
/-- may these be lengths of a list? -/
def okN (r : List Nat) : Prop := posN r.tail ∧ r ≠ [0]
theorem encN_cons (n : Nat) (r : List Nat) : encN (n :: r) = put n ++ encN r := by simp [encN]
theorem encN_app (a b : List Nat) : encN (a ++ b) = encN a ++ encN b := by simp [encN]
theorem sprB_nil (f : Bool) : sprB f [] = [] := rfl
theorem sprB_cons (f : Bool) (n : Nat) (r : List Nat) : sprB f (n :: r) = List.replicate n f ++ sprB (!f) r := rfl
theorem incL_ne (r : List Nat) : incL r ≠ [] := by cases r <;> simp [incL]
theorem incL_tail (r : List Nat) : (incL r).tail = r.tail := by cases r <;> rfl
theorem lens_eq (f : Bool) (t : List Bool) : lens f (f :: t) = incL (lens f t) := by rw [lens, if_pos rfl]
theorem lens_not (f : Bool) (t : List Bool) : lens f ((!f) :: t) = 0 :: lens (!f) ((!f) :: t) := by
 rw [lens_eq, lens, if_neg (by cases f <;> simp)]
theorem incL_head (r : List Nat) : ∃ n, (incL r) = (n + 1) :: r.tail := by cases r <;> exact ⟨_, rfl⟩
theorem lens_pos (l : List Bool) : ∀ f, posN (lens f l).tail := by
 induction l with
 | nil => intro f x hx; simp [lens] at hx
 | cons b t ih =>
  intro f
  by_cases h : b = f
  ·subst h; rw [lens_eq, incL_tail]; exact ih b
  ·rw [lens, if_neg h]
   obtain ⟨n, hn⟩ := incL_head (lens b t)
   rw [List.tail_cons, hn]
   intro x hx
   rcases List.mem_cons.1 hx with rfl | hx
   ·omega
   ·exact ih b x hx
theorem lens_zero (f : Bool) (l : List Bool) : lens f l ≠ [0] := by
 cases l with
 | nil => simp [lens]
 | cons b t =>
  by_cases h : b = f
  ·subst h; rw [lens_eq]; obtain ⟨n, hn⟩ := incL_head (lens b t); rw [hn]; simp
  ·rw [lens, if_neg h]
   have := incL_ne (lens b t)
   simpa using this
/-- the first length, and what follows -/
theorem lens_run (f : Bool) (rest : List Bool) (hr : rest.head? ≠ some f) : ∀ k, (1 ≤ k ∨ rest ≠ []) → lens f (List.replicate k f ++ rest) = k :: lens (!f) rest := by
 intro k
 induction k with
 | zero =>
  intro h
  have hne : rest ≠ [] := by rcases h with h | h; omega; exact h
  cases rest with
  | nil => exact absurd rfl hne
  | cons b t =>
   have hb : b = !f := by
    have : b ≠ f := fun e => hr (by simp [e])
    cases b <;> cases f <;> simp_all
   subst hb
   rw [List.replicate_zero, List.nil_append, lens_not]
 | succ k ih =>
  intro _
  rw [List.replicate_succ, List.cons_append, lens_eq]
  by_cases h : 1 ≤ k ∨ rest ≠ []
  ·rw [ih h]; rfl
  ·have h1 : k = 0 := by omega
   have h2 : rest = [] := by
    apply Classical.byContradiction
    intro e; exact h (.inr e)
   subst h1; subst h2
   simp [lens, incL]
theorem sprB_lens (l : List Bool) : ∀ f, sprB f (lens f l) = l := by
 have hi : ∀ (r : List Nat) (f : Bool), sprB f (incL r) = f :: sprB f r := by
  intro r f
  cases r with
  | nil => simp [incL, sprB]
  | cons n r => rw [incL, sprB_cons, sprB_cons, List.replicate_succ]; rfl
 induction l with
 | nil => intro f; rfl
 | cons b t ih =>
  intro f
  by_cases h : b = f
  ·subst h; rw [lens_eq, hi, ih]
  ·rw [lens, if_neg h, sprB_cons, List.replicate_zero, List.nil_append]
   have : (!f) = b := by cases b <;> cases f <;> simp_all
   rw [this, hi, ih]
theorem sprB_head {f : Bool} {r : List Nat} (h : posN r) (hr : r ≠ []) : (sprB f r).head? = some f := by
 cases r with
 | nil => exact absurd rfl hr
 | cons n r =>
  obtain ⟨k, rfl⟩ : ∃ k, n = k + 1 := ⟨n - 1, by have := h n (by simp); omega⟩
  rw [sprB_cons, List.replicate_succ]; rfl
theorem lens_cons_of {f : Bool} {n : Nat} {r : List Nat} (hp : posN r) (h0 : 1 ≤ n ∨ r ≠ []) (ih : lens (!f) (sprB (!f) r) = r) : lens f (sprB f (n :: r)) = n :: r := by
 rw [sprB_cons, lens_run, ih]
 ·cases r with
  | nil => simp [sprB]
  | cons m r => rw [sprB_head hp (by simp)]; cases f <;> simp
 ·rcases h0 with h | h
  ·exact .inl h
  ·refine .inr fun e => ?_
   have := sprB_head (f := !f) hp h
   rw [e] at this; cases this
theorem lens_sprB_pos (r : List Nat) : ∀ f, posN r → lens f (sprB f r) = r := by
 induction r with
 | nil => intro f _; rfl
 | cons n r ih =>
  intro f h
  have hp : posN r := fun x hx => h x (by simp [hx])
  exact lens_cons_of hp (.inl (h n (by simp))) (ih (!f) hp)
/-- lengths that may be are those of what they spread to -/
theorem lens_sprB {r : List Nat} (f : Bool) (h : okN r) : lens f (sprB f r) = r := by
 cases r with
 | nil => rfl
 | cons n r =>
  obtain ⟨hp, h0⟩ := h
  refine lens_cons_of hp ?_ (lens_sprB_pos r (!f) hp)
  by_cases hn : 1 ≤ n
  ·exact .inl hn
  ·refine .inr fun e => h0 ?_
   rw [e, show n = 0 by omega]
theorem sprB_len (r : List Nat) : ∀ f, (sprB f r).length = r.sum := by
 induction r with
 | nil => intro f; rfl
 | cons n r ih => intro f; rw [sprB_cons, List.length_append, List.length_replicate, ih, List.sum_cons]
theorem lens_sum (f : Bool) (l : List Bool) : (lens f l).sum = l.length := by rw [← sprB_len _ f, sprB_lens]
theorem pos_len (r : List Nat) (h : posN r) : r.length ≤ r.sum := by
 induction r with
 | nil => simp
 | cons n r ih =>
  have := ih (fun x hx => h x (by simp [hx]))
  have := h n (by simp)
  rw [List.length_cons, List.sum_cons]; omega
theorem lens_len (f : Bool) (l : List Bool) : (lens f l).length ≤ l.length + 1 := by
 have h1 := lens_sum f l
 have h2 := lens_pos l f
 cases h : lens f l with
 | nil => simp
 | cons n r =>
  rw [h] at h1 h2
  have := pos_len r h2
  rw [List.sum_cons] at h1
  rw [List.length_cons]; omega
theorem lens_le {f : Bool} {l : List Bool} {x : Nat} (h : x ∈ lens f l) : x ≤ l.length := by
 rw [← lens_sum f l]
 have h2 : ∀ r : List Nat, x ∈ r → x ≤ r.sum := by
  intro r
  induction r with
  | nil => intro h; simp at h
  | cons y r ih =>
   intro h
   rw [List.sum_cons]
   rcases List.mem_cons.1 h with rfl | h
   ·omega
   ·have := ih h; omega
 exact h2 _ h
def LtN (r : List Nat) : Prop := ∀ x ∈ r, x < 18446744073709551616
theorem lens_lt {f : Bool} {l : List Bool} (h : l.length < 18446744073709551616) : LtN (lens f l) := fun _ hx => Nat.lt_of_le_of_lt (lens_le hx) h
theorem encN_len {r : List Nat} (h : LtN r) : (encN r).length ≤ 10 * r.length := by
 induction r with
 | nil => simp [encN]
 | cons n r ih =>
  have h1 := put_len10 (h n (by simp))
  have h2 := ih (fun x hx => h x (by simp [hx]))
  rw [encN_cons, List.length_append, List.length_cons]; omega
theorem encN_take {r : List Nat} {k x : Nat} (h : r[k]? = some x) : encN (r.take (k + 1)) = encN (r.take k) ++ put x := by
 rw [List.take_add_one, h, encN_app]; simp [encN]
/-- P7.3, length by length: what is read of a Reader, behind what has been read; b: the next one's flag; f: more than there are lengths -/
def dcF : Nat → St → Bool → Bool → List Bool → Nat → List Bool × Int
 | 0, _, _, _, _, _ => ([], 5)
 | f + 1, s, b, first, out, n =>
  if s.l = [] then (if out.length < n ∨ (out = [] ∧ first = false) then ([], 5) else (out, 0))
  else if (numS s).e ≠ 0 then ([], (numS s).e)
  else if n - out.length < numV s ∨ (numV s = 0 ∧ first = false) then ([], 5)
  else dcF f (numS s) (!b) false (out ++ List.replicate (numV s) b) n
def decF (l : List UInt8) (n : Int) : List Bool × Int := if n < 0 then ([], 1) else if 4096 < n then ([], 10) else dcF (l.length + 1) ⟨l, 0⟩ false true [] n.toNat
theorem df_end {f n : Nat} {s : St} {b first : Bool} {out : List Bool} (h : s.l = []) : dcF (f + 1) s b first out n = if out.length < n ∨ (out = [] ∧ first = false) then ([], 5) else (out, 0) := by rw [dcF, if_pos h]
theorem df_err {f n : Nat} {s : St} {b first : Bool} {out : List Bool} (h : s.l ≠ []) (he : (numS s).e ≠ 0) : dcF (f + 1) s b first out n = ([], (numS s).e) := by rw [dcF, if_neg h, if_pos he]
theorem df_bad {f n : Nat} {s : St} {b first : Bool} {out : List Bool} (h : s.l ≠ []) (he : (numS s).e = 0) (hb : n - out.length < numV s ∨ (numV s = 0 ∧ first = false)) : dcF (f + 1) s b first out n = ([], 5) := by
 rw [dcF, if_neg h, if_neg (by omega), if_pos hb]
theorem df_next {f n : Nat} {s : St} {b first : Bool} {out : List Bool} (h : s.l ≠ []) (he : (numS s).e = 0) (hb : ¬ (n - out.length < numV s ∨ (numV s = 0 ∧ first = false))) :
  dcF (f + 1) s b first out n = dcF f (numS s) (!b) false (out ++ List.replicate (numV s) b) n := by
 rw [dcF, if_neg h, if_neg (by omega), if_neg hb]
theorem put_ne (n : Nat) (l : List UInt8) : put n ++ l ≠ [] := by
 intro h0
 have := congrArg List.length h0
 have hp := put_len_pos n
 rw [List.length_append, List.length_nil] at this
 omega
theorem dcF_enc (r : List Nat) : ∀ f b first out n, LtN r → (first = false → posN r) → posN r.tail → (first = false → r = [] → out ≠ []) → (first = true → r ≠ [0]) → r.length < f → (out ++ sprB b r).length = n → dcF f ⟨encN r, 0⟩ b first out n = (out ++ sprB b r, 0) := by
 induction r with
 | nil =>
  intro f b first out n _ _ _ ho _ hf hn
  obtain ⟨f, rfl⟩ : ∃ g, f = g + 1 := ⟨f - 1, by simp at hf; omega⟩
  rw [sprB_nil, List.append_nil] at hn ⊢
  rw [df_end (show (⟨encN [], 0⟩ : St).l = [] from rfl), if_neg]
  rintro (h | ⟨h1, h2⟩)
  ·omega
  ·exact ho h2 rfl h1
 | cons x r ih =>
  intro f b first out n hlt hpos hpt _ hz hf hn
  obtain ⟨f, rfl⟩ : ∃ g, f = g + 1 := ⟨f - 1, by simp at hf; omega⟩
  have hx := hlt x (by simp)
  rw [encN_cons]
  obtain ⟨e1, e2⟩ := num_put hx (encN r)
  rw [sprB_cons, List.length_append, List.length_append, List.length_replicate] at hn
  rw [df_next (put_ne x _) (by rw [e2])]
  ·rw [e1, e2, ih f (!b) false _ n (fun y hy => hlt y (by simp [hy])) (fun _ => hpt) (fun y hy => hpt y (List.mem_of_mem_tail hy)) ?_ (by simp) (by simp at hf; omega) (by rw [List.length_append, List.length_append, List.length_replicate]; omega), sprB_cons, List.append_assoc]
   intro _ hr h0
   have h1 := List.append_eq_nil_iff.1 h0
   have hx0 : x = 0 := by have := h1.2; simpa using this
   cases first with
   | true => exact hz rfl (by rw [hx0, hr])
   | false => have := hpos rfl x (by simp); omega
  ·rw [e1]
   rintro (h | ⟨h1, h2⟩)
   ·omega
   ·have := hpos h2 x (by simp); omega
theorem dcF_dec : ∀ f (l : List UInt8) b first out n ys, out.length ≤ n → dcF f ⟨l, 0⟩ b first out n = (ys, 0) →
  ∃ r, LtN r ∧ (first = false → posN r) ∧ posN r.tail ∧ l = encN r ∧ ys = out ++ sprB b r ∧ ys.length = n ∧ (ys = [] → first = true ∧ r = [])
 | 0, l, b, first, out, n, ys, _, h => by simp [dcF] at h
 | f + 1, l, b, first, out, n, ys, hn, h => by
  rw [dcF] at h
  split at h
  ·rename_i hl
   simp only at hl
   split at h
   ·simp at h
   ·rename_i hc
    simp only [Prod.mk.injEq, and_true] at h
    subst h
    refine ⟨[], by intro x hx; simp at hx, fun _ => by intro x hx; simp at hx, by intro x hx; simp at hx, hl, by simp [sprB], by omega, fun h0 => ⟨?_, rfl⟩⟩
    cases first with
    | true => rfl
    | false => exact absurd (.inr ⟨h0, rfl⟩) hc
  ·split at h
   ·rename_i he
    simp only [Prod.mk.injEq] at h
    exact absurd h.2 he
   ·rename_i he
    split at h
    ·simp at h
    ·rename_i hc
     rw [not_or] at hc
     obtain ⟨hc1, hc2⟩ := hc
     have he1 : (numS ⟨l, 0⟩).e = 0 := by simpa using he
     obtain ⟨a1, a2⟩ := num_zero he1
     obtain ⟨l1, hl1⟩ : ∃ l1, numS ⟨l, 0⟩ = ⟨l1, 0⟩ := ⟨(numS ⟨l, 0⟩).l, by cases hx : numS ⟨l, 0⟩; rw [hx] at he1; simp only at he1; subst he1; rfl⟩
     rw [hl1] at h a1 a2
     obtain ⟨r, r1, r2, r3, r4, r5, r6, r7⟩ := dcF_dec f l1 (!b) false _ n ys (by rw [List.length_append, List.length_replicate]; omega) h
     have hv := numV_lt ⟨l, 0⟩
     refine ⟨numV ⟨l, 0⟩ :: r, ?_, ?_, by rw [List.tail_cons]; exact r2 rfl, ?_, ?_, r6, fun h0 => by have := (r7 h0).1; simp at this⟩
     ·intro x hx
      rcases List.mem_cons.1 hx with rfl | hx
      ·exact hv
      ·exact r1 x hx
     ·intro hf x hx
      rcases List.mem_cons.1 hx with rfl | hx
      ·have : ¬ numV ⟨l, 0⟩ = 0 := fun e => hc2 ⟨e, hf⟩
       omega
      ·exact r2 rfl x hx
     ·rw [encN_cons, ← r4]
      exact a1
     ·rw [sprB_cons, r5, List.append_assoc]
theorem decF_neg {l : List UInt8} {n : Int} (h : n < 0) : decF l n = ([], 1) := by rw [decF, if_pos h]
theorem decF_big {l : List UInt8} {n : Int} (h : 4096 < n) : decF l n = ([], 10) := by rw [decF, if_neg (by omega), if_pos h]
theorem decF_in {l : List UInt8} {n : Nat} (h1 : n ≤ 4096) : decF l n = dcF (l.length + 1) ⟨l, 0⟩ false true [] n := by rw [decF, if_neg (by omega), if_neg (by omega), Int.toNat_natCast]
theorem encN_ge (r : List Nat) : r.length ≤ (encN r).length := by
 induction r with
 | nil => simp [encN]
 | cons n r ih => have := put_len_pos n; rw [encN_cons, List.length_append, List.length_cons]; omega
theorem decF_enc {l : List Bool} (hl : l.length ≤ 4096) : decF (encF l) l.length = (l, 0) := by
 rw [decF_in hl]
 unfold encF
 have := dcF_enc (lens false l) ((encN (lens false l)).length + 1) false true [] l.length (lens_lt (by omega)) (by simp) (lens_pos l false) (by simp) (fun _ => lens_zero false l) (by have := encN_ge (lens false l); omega) (by rw [sprB_lens]; simp)
 rw [this, sprB_lens]; simp
theorem decF_dec {l : List UInt8} {n : Int} (h : (decF l n).2 = 0) : encF (decF l n).1 = l ∧ ((decF l n).1.length : Int) = n := by
 rcases Int.lt_or_le n 0 with h0 | h0
 ·rw [decF_neg h0] at h; simp at h
 ·rcases Int.lt_or_le 4096 n with h1 | h1
  ·rw [decF_big h1] at h; simp at h
  ·obtain ⟨N, rfl⟩ := Int.eq_ofNat_of_zero_le h0
   rw [decF_in (by omega)] at h ⊢
   obtain ⟨ys, hys⟩ : ∃ ys, dcF (l.length + 1) ⟨l, 0⟩ false true [] N = (ys, 0) := ⟨(dcF (l.length + 1) ⟨l, 0⟩ false true [] N).1, Prod.ext rfl h⟩
   rw [hys]
   obtain ⟨r, _, _, r3, r4, r5, r6, r7⟩ := dcF_dec (l.length + 1) l false true [] N ys (Nat.zero_le _) hys
   simp only
   rw [List.nil_append] at r5
   refine ⟨?_, by rw [r6]⟩
   have hok : okN r := by
    refine ⟨r3, fun e => ?_⟩
    have : (sprB false r) = [] := by rw [e]; rfl
    rw [← r5] at this
    have := (r7 this).2
    rw [e] at this; simp at this
   unfold encF
   rw [r5, lens_sprB false hok, ← r4]
end Go.Proofs.YtojhenpaeedimaaGreat.Pk
end
section
namespace Go.Proofs.YtojhenpaeedimaaGreat
open Dl Ru
namespace Fg
open Go.RowKit Go.IntWalk
open Pk
set_option maxRecDepth 100000
attribute [local go_sem] Oper.semAt_some
def bvs (l : List Bool) : List Value := l.map Value.bool
theorem bvs_at {l : List Bool} {k : Nat} {x : Bool} (h : l[k]? = some x) : (bvs l)[k]? = some (.bool x) := by simp [bvs, h]
theorem bvs_snoc (l : List Bool) (x : Bool) : bvs (l ++ [x]) = bvs l ++ [.bool x] := by simp [bvs]
theorem Tryz.info4 : (Tryz.prog.info? 4).map (fun i => (i.zero, i.size, i.bytes)) = some (some (.bool false), 1, 1) := by kernel_rfl
theorem grown_set (w : World) (b : Nat) (u : Value) : w.grownBy (w.setCell ⟨b, 0, none⟩ u) (some b) :=
 ⟨rfl, rfl, rfl, by simp [World.setCell], fun k _ hk => Below.heap_setCell _ _ _ _ (fun e => hk (by simp [e]))⟩
theorem turns_c (w : World) : Calls Tryz.prog 172 #[] w fun e w' =>
  e = .returned (.func (.func 208) #[] #[.pointer (some ⟨w.heap.size, 0, none⟩)]) ∧ w' = w.alloc (.cells #[.bool true] 4) := by
 have hmf : ∀ (fn : Fn) (first cap : Array Value) (w : World), (Instr.makeFunc fn first cap).run Tryz.prog w = .ok (.func fn first cap) w := fun _ _ _ _ => rfl
 go_enter Tryz.func172, Tryz.ntmps172
 go_wp2
 go_ret
 exact ⟨rfl, rfl⟩
theorem flip_c (b : Nat) (x : Bool) (w : World) (h : Is w b 4 [.bool x]) : Calls Tryz.prog 208 #[.pointer (some ⟨b, 0, none⟩)] w fun e w' =>
  e = .returned (.bool (!x)) ∧ Is w' b 4 [.bool (!x)] ∧ w.grownBy w' (some b) := by
 have hc := is_cell h 0
 have hf := is_free h 0
 have hlt := is_lt h
 have hset := is_set h 0 (.bool (!x))
 have hg := grown_set w b (.bool (!x))
 simp only [List.getElem?_cons_zero, List.set_cons_zero] at hc hset
 clear h
 have hnot : ∀ (x : Bool) (w : World), (Op.unary .not (.bool x)).run Tryz.prog w = .ok (.bool (!x)) w := fun _ _ => rfl
 go_enter Tryz.func208, Tryz.ntmps208
 go_wp2
 go_ret
 exact ⟨rfl, hset, hg⟩
end Fg
end Go.Proofs.YtojhenpaeedimaaGreat
end
section
namespace Go.Proofs.YtojhenpaeedimaaGreat
open Dl Ru
namespace Fg
open Go.RowKit Go.IntWalk
open Pk
set_option maxRecDepth 100000
attribute [local go_sem] Oper.semAt_some
/-- how many are true -/
def cnt (l : List Bool) : Nat := l.count true
theorem cnt_le (l : List Bool) : cnt l ≤ l.length := List.count_le_length
theorem cnt_take {l : List Bool} {k : Nat} {x : Bool} (h : l[k]? = some x) : cnt (l.take (k + 1)) = cnt (l.take k) + (if x then 1 else 0) := by
 unfold cnt
 rw [List.take_add_one, h, List.count_append]
 cases x <;> simp
theorem count_c (A : Option Addr) (cap : Nat) (l : List Bool) (hx : l.length ≤ 100000) (w : World) (hc : At w w.heap.size A (bvs l)) :
  Calls Tryz.prog 144 #[.slice A l.length cap] w fun e w' => e = .returned (.int .i64 (cnt l : Int)) ∧ w' = w := by
 have HC := Lib.hid hc
 clear hc
 go_enter Tryz.func144, Tryz.ntmps144
 go_wp2_with fail
 go_loopw [3, 8] (fun c i wr => ∃ k : Nat, c = .int .i64 (cnt (l.take k) : Int) ∧ i = .int .i64 (k : Int) ∧ k ≤ l.length ∧ wr = w) (fun _ i _ => l.length - (Go.RowKit.intOf i).toNat)
 case atStart => exact ⟨0, rfl, rfl, Nat.zero_le _, rfl⟩
 case round =>
  obtain ⟨k, rfl, rfl, hk, rfl⟩ := hrel
  have hcl := cnt_le (l.take k)
  rw [List.length_take] at hcl
  by_cases hlt : k < l.length
  ·obtain ⟨x, hxk⟩ := some_at hlt
   obtain ⟨b, off, rfl, _, hcell⟩ := HC.out k _ (bvs_at hxk)
   have HT := Lib.hid (cnt_take hxk)
   clear hxk
   have hc1 : cnt (l.take k) ≤ 100000 := by omega
   clear hcl
   cases x
   ·go_wp2_with fail
    go_roundw
    case rel => exact ⟨k + 1, by rw [HT.out]; rfl, by go_num, by omega, trivial⟩
    case measure => simp only [Go.RowKit.intOf]; omega
   ·go_wp2_with fail
    go_roundw
    case rel => exact ⟨k + 1, by rw [HT.out]; go_num, by go_num, by omega, trivial⟩
    case measure => simp only [Go.RowKit.intOf]; omega
  ·obtain rfl : k = l.length := by omega
   rw [List.take_length]
   go_wp2_with fail
   go_ret
   exact ⟨rfl, rfl⟩
end Fg
end Go.Proofs.YtojhenpaeedimaaGreat
end
section
namespace Go.Proofs.YtojhenpaeedimaaGreat
open Dl Ru
namespace Fg
open Go.RowKit Go.IntWalk
open Pk
set_option maxRecDepth 100000
attribute [local go_sem] Oper.semAt_some
/-- lengths as ints -/
def lenI (l : List Bool) : List Int := (lens false l).map fun (n : Nat) => (n : Int)
theorem lenI_len (l : List Bool) : (lenI l).length ≤ l.length + 1 := by unfold lenI; rw [List.length_map]; exact lens_len _ _
theorem int_snoc (out : List Nat) (j : Nat) : ((out ++ [j]).map fun (n : Nat) => (n : Int)) = (out.map fun (n : Nat) => (n : Int)) ++ [(j : Int)] := by simp
/-- the flags so far, of one kind -/
theorem run_more {l : List Bool} {k j : Nat} {f : Bool} (h : l.drop k = List.replicate j f ++ l.drop (k + j)) (hx : l[k + j]? = some f) : l.drop k = List.replicate (j + 1) f ++ l.drop (k + (j + 1)) := by
 have : l.drop (k + j) = f :: l.drop (k + (j + 1)) := drop_at_cons hx
 rw [h, this, List.replicate_succ']; simp
theorem run_end {l : List Bool} {k j : Nat} {f : Bool} (hk : k < l.length) (h : l.drop k = List.replicate j f ++ l.drop (k + j)) (hx : l[k + j]? ≠ some f) : lens f (l.drop k) = j :: lens (!f) (l.drop (k + j)) := by
 rw [h, lens_run]
 ·rw [List.head?_drop]; exact hx
 ·by_cases hj : 1 ≤ j
  ·exact .inl hj
  ·refine .inr fun e => ?_
   have h0 : j = 0 := by omega
   subst h0
   have := congrArg List.length e
   simp at this
   omega
set_option maxHeartbeats 4000000 in
theorem lengths_c (A : Option Addr) (cap : Nat) (l : List Bool) (hx : l.length ≤ 100000) (w : World) (hc : At w w.heap.size A (bvs l)) :
  Calls Tryz.prog 111 #[.slice A l.length cap] w fun e w' => ∃ A' cap', e = .returned (.slice A' (lenI l).length cap') ∧ (lenI l).length ≤ cap' ∧ Fresh w.heap.size A' ∧ At w' w'.heap.size A' (ivs (lenI l)) ∧ Below w.heap.size w w' := by
 obtain ⟨i0, hi, hz0, hz1, hz2⟩ := info_parts Tryz.info3
 have HC := Lib.hid hc
 clear hc
 go_enter Tryz.func111, Tryz.ntmps111
 go_wp2_with fail
 refine (turns_c _).mono ?_
 rintro e w1 ⟨rfl, rfl⟩
 obtain ⟨q, hq⟩ : ∃ q, q = w.heap.size := ⟨_, rfl⟩
 have his : Is (w.alloc (.cells #[.bool true] 4)) q 4 [.bool (!false)] := by rw [hq]; exact is_new w _ _
 have hb1 : Below w.heap.size w (w.alloc (.cells #[.bool true] 4)) := (Below.refl _ _).alloc (Nat.le_refl _) _
 rw [← hq]
 have HQ := Lib.hid hq
 have hqs : w.heap.size = q := hq.symm
 have hsz : (w.alloc (.cells #[.bool true] 4)).heap.size = q + 1 := by rw [World.size_alloc, hq]
 obtain ⟨W, hW⟩ : ∃ W, W = w.alloc (.cells #[.bool true] 4) := ⟨_, rfl⟩
 rw [← hW] at his hb1 hsz ⊢
 clear hq hW
 go_wp2_with fail
 go_loopg [3, 5] (2 * l.length + 1) (fun m v i wr => ∃ (k : Nat) (f : Bool) (out : List Nat) (c : Nat), i = .int .i64 (k : Int) ∧ k ≤ l.length ∧ 2 * (l.length - k) + c ≤ m ∧ (c = 0 → l.length ≤ k ∨ l[k]? = some f) ∧ c ≤ 1 ∧ out ++ lens f (l.drop k) = lens false l ∧ (∃ A' cap', v = .slice A' out.length cap') ∧ wr.ownsRow (q + 1) 3 1 v out.length (ivs (out.map fun (n : Nat) => (n : Int))) ∧ Is wr q 4 [.bool (!f)] ∧ Below q w wr ∧ q + 1 ≤ wr.heap.size)
 case atStart => exact ⟨0, false, [], 1, rfl, Nat.zero_le _, by omega, by simp, by omega, rfl, ⟨_, _, rfl⟩, World.ownsRow_nil _ _ _ _, his, by rw [← hqs]; exact hb1, by omega⟩
 case round =>
  clear his hb1 hsz
  obtain ⟨k, f, out, c, rfl, hk, hm, hcf, hc1, hout, ⟨A0, cap0, rfl⟩, hown, his, hb, hwq⟩ := hrel
  have hol : out.length ≤ 200001 := by
   have h1 := congrArg List.length hout
   have h2 := lens_len false l
   rw [List.length_append] at h1
   omega
  have HOUT := Lib.hid hout
  have HCF := Lib.hid hcf
  clear hout hcf
  by_cases hlt : k < l.length
  ·go_wp2_with fail
   refine (flip_c q (!f) _ his).mono ?_
   rintro e w2 ⟨rfl, his2, hg2⟩
   rw [Bool.not_not] at his2 ⊢
   have hown2 := own_only hown hg2 (Nat.lt_succ_self q)
   have hb2 := below_only hb hg2 (by omega) (Nat.le_refl _)
   have hwq2 : q + 1 ≤ w2.heap.size := Nat.le_trans hwq hg2.size
   clear his hown hb hg2 hwq
   go_wp2_with fail
   go_loopg [6] (l.length - k) (fun m i wr2 => ∃ j : Nat, i = .int .i64 ((k + j : Nat) : Int) ∧ k + j ≤ l.length ∧ l.length - (k + j) ≤ m ∧ l.drop k = List.replicate j f ++ l.drop (k + j) ∧ wr2 = w2)
   case atStart => exact ⟨0, rfl, hk, Nat.le_refl _, by simp, rfl⟩
   case round =>
    obtain ⟨j, rfl, hkj, hmj, hdr, rfl⟩ := hrel
    have HDR := Lib.hid hdr
    clear hdr
    by_cases hgo : l[k + j]? = some f
    ·have hjl : k + j < l.length := (List.getElem?_eq_some_iff.1 hgo).1
     obtain ⟨b, off, rfl, hbl, hcell⟩ := (HC.out.below (by rw [hqs]; exact hb2)) (k + j) _ (bvs_at hgo)
     have ht : (f == f) = true := by simp
     have HT := Lib.hid hgo
     clear hgo
     go_wp2_with fail
     go_roundg (l.length - (k + (j + 1)))
     case measure => omega
     case rel => exact ⟨j + 1, by go_num, by omega, Nat.le_refl _, run_more HDR.out HT.out, rfl⟩
    ·have HR := Lib.hid (run_end hlt HDR.out hgo)
     have hcj : j = 0 → c = 1 := fun h0 => by
      apply Classical.byContradiction
      intro hc0
      rcases HCF.out (by omega) with h | h
      ·omega
      ·rw [h0] at hgo; exact hgo h
     have HN := Lib.hid (show l.length ≤ k + j ∨ l[k + j]? = some (!f) from by
      by_cases h : l.length ≤ k + j
      ·exact .inl h
      ·obtain ⟨x, hx⟩ := some_at (show k + j < l.length by omega)
       refine .inr ?_
       rw [hx] at hgo ⊢
       cases x <;> cases f <;> simp_all)
     have hee : (k : Int) + (j : Int) - (k : Int) = (j : Int) := by omega
     have hstep : out ++ lens f (l.drop k) = (out ++ [j]) ++ lens (!f) (l.drop (k + j)) := by rw [HR.out]; simp
     rw [HOUT.out] at hstep
     have HST := Lib.hid hstep
     have HEE := Lib.hid hee
     have HCJ := Lib.hid hcj
     clear hee hstep hcj
     have hmid : (out.map fun (n : Nat) => (n : Int)).length = out.length := List.length_map _
     rcases Nat.lt_or_ge (k + j) l.length with hjl | hjl
     ·obtain ⟨x, hxk⟩ := some_at hjl
      obtain ⟨b, off, rfl, hbl, hcell⟩ := (HC.out.below (by rw [hqs]; exact hb2)) (k + j) _ (bvs_at hxk)
      have ht : (x == f) = false := by
       rw [hxk] at hgo
       simpa using hgo
      clear hgo hxk
      go_wp2_with (at_builtin; refine wpList_append_own _ rfl _ _ 57 rfl (q + 1) 3 i0 (.int .i64 0) 1 8 Tryz.underlying57 hi hz0 hz1 hz2 rfl (by decide) _ _ _ rfl (hown2.alloc _) ⟨wr.heap.size, 0, none⟩ 1 1 [.int .i64 ((k : Int) + (j : Int) - (k : Int))] rfl rfl (cell_one_new _ _ _) (by simp [Value.oneCell']) (by unfold maxLen; omega) (by omega) (by simp; omega) ?_; intro v' w3 hown' hgrow _)
      have hb3 := Dl.below_ownI hb2 (by omega) (ownsRow_lower hown2 (Nat.le_succ q)) hgrow
      have his3 := is_grown (is_alloc his2 _) hgrow (fun e => by have := (hown2.lt q e.symm).1; omega)
      have hs3 := hgrow.size
      obtain ⟨g', cap', rfl⟩ := ownsRow_succ hown'
      rw [HEE.out] at hown'
      go_roundg (2 * (l.length - (k + j)))
      case measure => have := HCJ.out; omega
      case rel =>
       refine ⟨k + j, !f, out ++ [j], 0, by go_num, hkj, by omega, fun _ => HN.out, by omega, HST.out.symm, ⟨_, _, by rw [List.length_append]; rfl⟩, ?_, by rw [Bool.not_not]; exact his3, hb3, by simp at hs3; omega⟩
       rw [int_snoc, List.length_append]
       simpa [ivs] using hown'
     ·clear hgo
      go_wp2_with (at_builtin; refine wpList_append_own _ rfl _ _ 57 rfl (q + 1) 3 i0 (.int .i64 0) 1 8 Tryz.underlying57 hi hz0 hz1 hz2 rfl (by decide) _ _ _ rfl (hown2.alloc _) ⟨wr.heap.size, 0, none⟩ 1 1 [.int .i64 ((k : Int) + (j : Int) - (k : Int))] rfl rfl (cell_one_new _ _ _) (by simp [Value.oneCell']) (by unfold maxLen; omega) (by omega) (by simp; omega) ?_; intro v' w3 hown' hgrow _)
      have hb3 := Dl.below_ownI hb2 (by omega) (ownsRow_lower hown2 (Nat.le_succ q)) hgrow
      have his3 := is_grown (is_alloc his2 _) hgrow (fun e => by have := (hown2.lt q e.symm).1; omega)
      have hs3 := hgrow.size
      obtain ⟨g', cap', rfl⟩ := ownsRow_succ hown'
      rw [HEE.out] at hown'
      go_roundg (2 * (l.length - (k + j)))
      case measure => have := HCJ.out; omega
      case rel =>
       refine ⟨k + j, !f, out ++ [j], 0, by go_num, hkj, by omega, fun _ => HN.out, by omega, HST.out.symm, ⟨_, _, by rw [List.length_append]; rfl⟩, ?_, by rw [Bool.not_not]; exact his3, hb3, by simp at hs3; omega⟩
       rw [int_snoc, List.length_append]
       simpa [ivs] using hown'
  ·obtain rfl : k = l.length := by omega
   have hfin : out = lens false l := by have := HOUT.out; rw [List.drop_length] at this; simpa [lens] using this
   obtain ⟨A', cap', hA, ha, hfr, hcp⟩ := own_at hown
   cases hA
   clear hm hown his
   go_wp2_with fail
   go_ret
   have hln : out.length = (lenI l).length := by unfold lenI; rw [List.length_map, hfin]
   have hiv : ivs (out.map fun (n : Nat) => (n : Int)) = ivs (lenI l) := by unfold lenI; rw [hfin]
   rw [hiv] at ha
   exact ⟨_, _, by rw [hln]; rfl, by rw [← hln]; exact hcp, fun a h => by have := hfr a h; omega, ha, by rw [hqs]; exact hb⟩
end Fg
end Go.Proofs.YtojhenpaeedimaaGreat
end
section
namespace Go.Proofs.YtojhenpaeedimaaGreat
open Dl Ru
namespace Fg
open Go.RowKit Go.IntWalk
open Pk
set_option maxRecDepth 100000
attribute [local go_sem] Oper.semAt_some
end Fg
end Go.Proofs.YtojhenpaeedimaaGreat
end
section
namespace Go.Proofs.YtojhenpaeedimaaGreat
open Dl Ru
namespace Fg
open Go.RowKit Go.IntWalk
open Pk
set_option maxRecDepth 100000
attribute [local go_sem] Oper.semAt_some
theorem encF_len {l : List Bool} (hl : l.length ≤ 100000) : (encF l).length ≤ 10 * (l.length + 1) := by
 have h1 := encN_len (lens_lt (f := false) (l := l) (by omega))
 have h2 := lens_len false l
 unfold encF; omega
theorem lenI_at {l : List Bool} {k : Nat} {x : Int} (h : (lenI l)[k]? = some x) : ∃ n : Nat, x = (n : Int) ∧ (lens false l)[k]? = some n ∧ n ≤ l.length := by
 unfold lenI at h
 rw [List.getElem?_map] at h
 cases hx : (lens false l)[k]? with
 | none => rw [hx] at h; simp at h
 | some n =>
  rw [hx] at h
  simp at h
  exact ⟨n, h.symm, rfl, lens_le (List.mem_of_getElem? hx)⟩
theorem encN_take_len {r : List Nat} (h : LtN r) (k : Nat) : (encN (r.take k)).length ≤ 10 * r.length := by
 have h1 := encN_len (r := r.take k) (fun x hx => h x (List.mem_of_mem_take hx))
 rw [List.length_take] at h1
 omega
set_option maxHeartbeats 4000000 in
theorem fencode_c (A : Option Addr) (cap : Nat) (l : List Bool) (hx : l.length ≤ 100000) (w : World) (hc : At w w.heap.size A (bvs l)) :
  Calls Tryz.prog 63 #[.slice A l.length cap] w fun e w' => e = .returned (.string (ba (encF l))) ∧ Below w.heap.size w w' := by
 have hll := lenI_len l
 have HLT := Lib.hid (lens_lt (f := false) (l := l) (by omega))
 have HDL := Lib.hid (lens_len false l)
 have HC := Lib.hid hc
 unfold encF
 go_enter Tryz.func63, Tryz.ntmps63
 go_wp2_with fail
 have h0 : Below w.heap.size w (w.alloc (.cells #[.pointer none, .slice none 0 0] 111)) := (Below.refl _ _).alloc (Nat.le_refl _) _
 refine (lengths_c A cap l hx _ ((HC.out.below h0).mono (by simp))).mono ?_
 rintro e w1 ⟨A', cap', rfl, -, hfr, hat, hb1⟩
 have hbld0 := bld_grown (bld_new w w1.heap.size) hb1
 have hbb : But w1.heap.size w.heap.size w1 w1 := But.refl _ _ _
 rw [World.size_alloc] at hfr hb1
 have hb01 := h0.trans (hb1.mono (Nat.le_succ _))
 have hsz1 : w.heap.size < w1.heap.size := by have := hb1.size; simp at this; omega
 obtain ⟨D, hD⟩ : ∃ D, D = lenI l := ⟨_, rfl⟩
 have hdl2 : D.length ≤ 100001 := by rw [hD]; omega
 have hDl : D.length = (lens false l).length := by rw [hD]; unfold lenI; rw [List.length_map]
 rw [← hD] at hat ⊢
 have HD := Lib.hid hD
 have HAT := Lib.hid hat
 have HFR := Lib.hid hfr
 have HDE := Lib.hid hDl
 clear hD hat hfr h0 hb1 hc hll hDl
 go_wp2_with fail
 go_loopw [9] (fun i wr => ∃ k : Nat, i = .int .i64 (k : Int) ∧ k ≤ D.length ∧ Bld wr w1.heap.size w.heap.size (encN ((lens false l).take k)) ∧ But w1.heap.size w.heap.size w1 wr) (fun i _ => D.length - (Go.RowKit.intOf i).toNat)
 case atStart => exact ⟨0, rfl, Nat.zero_le _, hbld0, hbb⟩
 case round =>
  clear hbld0 hbb
  obtain ⟨k, rfl, hk, hbld, hbut⟩ := hrel
  by_cases hlt : k < D.length
  ·obtain ⟨x, hxk⟩ := some_at hlt
   rw [HD.out] at hxk
   obtain ⟨n, rfl, hnk, hnl⟩ := lenI_at hxk
   have hnl2 : n ≤ 100000 := by omega
   obtain ⟨b, off, rfl, hbl, hcell0⟩ := HAT.out k _ (ivs_at (by rw [HD.out]; exact hxk))
   have hne : b ≠ w.heap.size := by have := HFR.out _ rfl; simp at this; omega
   have hcell : wr.cell? ⟨b, off + k, none⟩ = some (.int .i64 (n : Int)) := (but_cell hbut (p := ⟨b, off + k, none⟩) hbl hne).trans hcell0
   have hql := put_len10 (n := n) (by omega)
   have hde := encN_take_len HLT.out k
   have hdd := HDL.out
   have hle : (encN ((lens false l).take k)).length + (put n).length ≤ 140737488355328 := by omega
   have hws := hbut.size
   have hbR := bld_lt hbld
   have HX := Lib.hid hnk
   clear hcell0 hxk hql hde hdd hnk
   go_wp2_with fail
   refine (put_c n (by omega) _).mono ?_
   rintro e w4 ⟨rfl, hb4⟩
   have hbld4 := bld_grown hbld hb4
   have hbut4 := hbut.trans (but_below (b := w.heap.size) (hb4.mono hws))
   have hws4 : w1.heap.size ≤ w4.heap.size := hbut4.size
   clear hbld hbut hb4 hws hcell
   go_wp2_with fail
   refine (write_b w1.heap.size w.heap.size _ (put n) _ hbld4 hle hws4).mono ?_
   rintro e w5 ⟨rfl, hbld5, hbut5⟩
   have hbut6 := hbut4.trans hbut5
   clear hbld4 hbut4 hbut5 hws4
   go_wp2_with fail
   go_roundw
   case rel => exact ⟨k + 1, by go_num, by omega, by rw [encN_take HX.out]; exact hbld5, hbut6⟩
   case measure => simp only [Go.RowKit.intOf]; omega
  ·obtain rfl : k = D.length := by omega
   rw [HDE.out, List.take_length] at hbld
   go_wp2_with fail
   refine (string_c w1.heap.size w.heap.size w.heap.size _ _ hbld (Nat.le_of_lt hsz1) (Nat.le_refl _)).mono ?_
   rintro e w3 ⟨rfl, hb3⟩
   go_wp2
   go_ret
   exact ⟨rfl, (hb01.trans (hbut.below (Nat.le_of_lt hsz1) (Nat.le_refl _))).trans hb3⟩
end Fg
end Go.Proofs.YtojhenpaeedimaaGreat
end
