/-
 A list of moves that is read: the row that is made, and the loop's plain facts.
 A list of moves that is read: the program's.
 A list of moves that is read: the program's.
 Decode: the program's.
 Decode: the document's.
 What the document gives for answers: live of layer 21.
 Contracts of layer 21 at letters.
 Plain mathematics of layer 19: moves as columns. No Go.
 Plain mathematics of layer 19: columns that are read are what their moves make. No Go.
-/
import Derived.Test.YtojhenpaeedimaaGreatOa
import Derived.Laws.MakeOwn
import Derived.Test.YtojhenpaeedimaaGreatUl
import Derived.Test.YtojhenpaeedimaaGreatMg
import Derived.Test.YtojhenpaeedimaaGreatBl
import Derived.Test.YtojhenpaeedimaaGreatEf
import Derived.Test.YtojhenpaeedimaaGreatDa
section
namespace Go.Proofs.YtojhenpaeedimaaGreat
open Go.RowKit Go.IntWalk
open Pk Rf Fl Wd
set_option maxRecDepth 100000
attribute [local go_sem] Oper.semAt_some
theorem mvs_cons (m : Mv) (l : List Mv) : mvs (m :: l) = mcs m ++ mvs l := rfl
theorem mvs_zeros (n i : Nat) (h : i < n * 6) : (mvs (List.replicate n zM))[i]? = zeros6[i % 6]? := by
 induction n generalizing i with
 | zero => omega
 | succ n ih =>
  rw [List.replicate_succ, mvs_cons]
  by_cases h6 : i < 6
  ·rw [List.getElem?_append_left (by exact h6), Nat.mod_eq_of_lt h6]; rfl
  ·rw [List.getElem?_append_right (by show 6 ≤ i; omega), show (mcs zM).length = 6 from rfl, ih (i - 6) (by omega)]
   rw [show i % 6 = (i - 6) % 6 by omega]
theorem mvs_zeros_len (n : Nat) : (mvs (List.replicate n zM)).length = n * 6 := by
 induction n with
 | zero => rfl
 | succ n ih => rw [List.replicate_succ, mvs_cons, List.length_append, ih]; show 6 + n * 6 = _; omega
theorem made_zeros (n : Nat) : madeCells zeros6.toArray (n * 6) = (mvs (List.replicate n zM)).toArray := by
 apply Array.ext_getElem?
 intro i
 have h0 : (mvs (List.replicate n zM)).toArray[i]? = (mvs (List.replicate n zM))[i]? := by simp
 rw [h0]
 by_cases h : i < n * 6
 ·rw [mvs_zeros n i h]
  have h6 : i % 6 < 6 := Nat.mod_lt _ (by omega)
  have hz : zeros6.toArray.size = 6 := rfl
  simp only [madeCells, hz, Array.getElem?_map, Array.getElem?_range, h, if_true, Option.map_some]
  obtain ⟨v, hv⟩ : ∃ v, zeros6[i % 6]? = some v := ⟨_, List.getElem?_eq_getElem (by exact h6)⟩
  rw [hv]
  simp [hv]
 ·rw [List.getElem?_eq_none (by rw [mvs_zeros_len]; omega)]
  exact Array.getElem?_eq_none (by rw [size_madeCells]; omega)
end Go.Proofs.YtojhenpaeedimaaGreat
end
section
namespace Go.Proofs.YtojhenpaeedimaaGreat
open Go.RowKit Go.IntWalk
open Pk Rf Fl Wd
set_option maxRecDepth 100000
attribute [local go_sem] Oper.semAt_some
theorem mvs_len6 (l : List Mv) : (mvs l).length = l.length * 6 := by
 induction l with
 | nil => rfl
 | cons m t ih => rw [mvs_cons, List.length_append, ih, List.length_cons]; show 6 + t.length * 6 = _; omega
theorem mvs_app (a b : List Mv) : mvs (a ++ b) = mvs a ++ mvs b := by unfold mvs; rw [List.flatMap_append]
theorem set_past {α : Type} (a b : List α) (n j : Nat) (v : α) (h : a.length = n) : (a ++ b).set (n + j) v = a ++ b.set j v := by
 rw [List.set_append_right _ _ (by omega), show n + j - a.length = j by omega]
theorem mvs_put (done : List Mv) (j : Nat) (m : Mv) (k : Nat) (hk : done.length = k) :
  ((((((mvs (done ++ List.replicate (j + 1) zM)).set (k * 6) (.int .i64 (mc m))).set (k * 6 + 1) (.int .i64 (mr m))).set (k * 6 + 2) (.int .i64 (pa (mw m)))).set (k * 6 + 3) (.int .i64 (ch (mw m)))).set (k * 6 + 4) (.string (ba (nm (mw m))))).set (k * 6 + 5) (.float .f64 (rk (mw m))) = mvs ((done ++ [m]) ++ List.replicate j zM) := by
 have hl : (mvs done).length = k * 6 := by rw [mvs_len6, hk]
 rw [mvs_app, List.replicate_succ, mvs_cons, show k * 6 = k * 6 + 0 from rfl]
 rw [set_past _ _ _ _ _ hl, show k * 6 + 0 + 1 = k * 6 + 1 from rfl, set_past _ _ _ _ _ hl, show k * 6 + 0 + 2 = k * 6 + 2 from rfl, set_past _ _ _ _ _ hl, show k * 6 + 0 + 3 = k * 6 + 3 from rfl, set_past _ _ _ _ _ hl, show k * 6 + 0 + 4 = k * 6 + 4 from rfl, set_past _ _ _ _ _ hl, show k * 6 + 0 + 5 = k * 6 + 5 from rfl, set_past _ _ _ _ _ hl]
 rw [mvs_app, mvs_app, List.append_assoc]
 rfl
end Go.Proofs.YtojhenpaeedimaaGreat
end
section
namespace Go.Proofs.YtojhenpaeedimaaGreat
open Go.RowKit Go.IntWalk
open Pk Rf Fl Wd
set_option maxRecDepth 100000
attribute [local go_sem] Oper.semAt_some
end Go.Proofs.YtojhenpaeedimaaGreat
end
section
namespace Go.Proofs.YtojhenpaeedimaaGreat
open Go.RowKit Go.IntWalk
open Pk Ck Rf Fl Wd
set_option maxRecDepth 100000
attribute [local go_sem] Oper.semAt_some
end Go.Proofs.YtojhenpaeedimaaGreat
end
section
namespace Go.Proofs.YtojhenpaeedimaaGreat
open Go.RowKit Go.IntWalk
open Pk Ck Rf Fl Wd
set_option maxRecDepth 100000
attribute [local go_sem] Oper.semAt_some
theorem at_boxD (w : World) (m : Mv) : At (w.alloc (.cells #[.int .i64 (mc m), .int .i64 (mr m), .int .i64 (pa (mw m)), .int .i64 (ch (mw m)), .string (ba (nm (mw m))), .float .f64 (rk (mw m))] 51)) (w.heap.size + 1) (some ⟨w.heap.size, 0, none⟩) (mvs [m]) := fun i v hv =>
 ⟨w.heap.size, 0, rfl, Nat.lt_succ_self _, by rw [Nat.zero_add]; exact (is_cell (is_new w 51 (mvs [m])) i).trans hv⟩
end Go.Proofs.YtojhenpaeedimaaGreat
end
section
namespace Go.Proofs.YtojhenpaeedimaaGreat
open Go.RowKit Go.IntWalk
open Pk Ck Rf Fl Wd
set_option maxRecDepth 100000
attribute [local go_sem] Oper.semAt_some
theorem is_atM {w : World} {b : Nat} {t : TypeId} {xs : List Value} {B : Nat} (h : Is w b t xs) (hb : b < B) : At w B (some ⟨b, 0, none⟩) xs := fun i v hv => ⟨b, 0, rfl, hb, by rw [Nat.zero_add]; exact (is_cell h i).trans hv⟩
theorem rmsame_v {xs ys : List Mv} {q : Bool} {A1 A2 : Option Addr} {n1 n2 c1 c2 : Nat} {w : World} (h : sameM xs ys = q) (e1 : xs.length = n1) (e2 : ys.length = n2) (hx : xs.length ≤ maxLen) (hy : ys.length ≤ maxLen) (hwx : Moves_ xs) (hwy : Moves_ ys) (h1 : At w w.heap.size A1 (mvs xs)) (h2 : At w w.heap.size A2 (mvs ys)) :
  Calls Tryz.prog 25 #[.slice A1 n1 c1, .slice A2 n2 c2] w fun e w' => e = .returned (.bool q) ∧ Below w.heap.size w w' := by
 subst h e1 e2; exact rmsame_c A1 A2 c1 c2 xs ys hx hy hwx hwy w h1 h2
end Go.Proofs.YtojhenpaeedimaaGreat
end
section
namespace Go.Proofs.YtojhenpaeedimaaGreat
open Go.RowKit Go.IntWalk
open Pk Ck Rf Fl Wd
set_option maxRecDepth 100000
theorem mayM_all {l : List Mv} (h : mayM l = true) : ∀ m ∈ l, oneM m = true := by
 have h2 := (mayM_facts h).2
 cases l with
 | nil => intro m hm; simp at hm
 | cons x t =>
  unfold resM at h2
  simp only [Bool.and_eq_true] at h2
  have h3 := (resM_iff.1 h2.2.2).1
  intro m hm
  rcases List.mem_cons.1 hm with rfl | hm
  ·exact h2.1
  ·exact h3 m hm
theorem few_q {l : List Mv} {n : Nat} {q : Bool} (h : fewM l n = q) (hn : n ≤ 1000) {A : Option Addr} {cap : Nat} (hl : l.length ≤ maxLen) {w : World} (hc : At w w.heap.size A (mvs l)) :
  Calls Tryz.prog 9 #[.slice A l.length cap, .int .i64 (n : Int)] w fun e w' => e = .returned (.bool q) ∧ w = w' := by
 subst h; exact rmfew_c A cap l n hl hn w hc
end Go.Proofs.YtojhenpaeedimaaGreat
end
section
namespace Go.Proofs.YtojhenpaeedimaaGreat.Ol
open Pk Wd Fl Rf Ck
set_option maxRecDepth 100000
def mcL (l : List Mv) : List Int := l.map fun m => mc m
def mrL (l : List Mv) : List Nat := l.map fun m => u64 (mr m)
def paL (l : List Mv) : List Int := l.map fun m => pa (mw m)
def chL (l : List Mv) : List Int := l.map fun m => ch (mw m)
def nmL (l : List Mv) : List (List UInt8) := l.map fun m => nm (mw m)
def rkL (l : List Mv) : List Nat := l.map fun m => cb (rk (mw m))
/-- P19.3 -/
def bdT (l : List Mv) : List UInt8 := prt (encL (mcL l)) ++ encU (mrL l)
def bdE (l : List Mv) : List UInt8 := prt (encL (paL l)) ++ encL (chL l)
def encO (l : List Mv) : List Chk := [(4, put l.length), (5, bdT l), (6, bdE l), (7, Dt.encD (nmL l)), (8, rkU (rkL l))]
def zipO : List Int → List Nat → List Int → List Int → List (List UInt8) → List Nat → List Mv
 | c :: cs, r :: rs, p :: ps, k :: ks, n :: ns, u :: us => (c, i64 r, k, p, n, fl u) :: zipO cs rs ps ks ns us
 | _, _, _, _, _, _ => []
def endO (l : List Mv) : List Mv × Int := if l.all oneM = false then ([], 5) else if mayM l = false then ([], 12) else (l, 0)
def decN (n : Nat) (b1 b2 b3 b4 : List UInt8) : List Mv × Int :=
 if (cutP b1).2.2 ≠ 0 then ([], (cutP b1).2.2)
 else if (decV (cutP b1).1 n).2 ≠ 0 then ([], (decV (cutP b1).1 n).2)
 else if (decU (cutP b1).2.1 n).2 ≠ 0 then ([], (decU (cutP b1).2.1 n).2)
 else if (cutP b2).2.2 ≠ 0 then ([], (cutP b2).2.2)
 else if (decV (cutP b2).1 n).2 ≠ 0 then ([], (decV (cutP b2).1 n).2)
 else if (decV (cutP b2).2.1 n).2 ≠ 0 then ([], (decV (cutP b2).2.1 n).2)
 else if (Dt.decD b3 n 64).2 ≠ 0 then ([], (Dt.decD b3 n 64).2)
 else if (takeU b4 n).2 ≠ 0 then ([], (takeU b4 n).2)
 else endO (zipO (decV (cutP b1).1 n).1 (decU (cutP b1).2.1 n).1 (decV (cutP b2).1 n).1 (decV (cutP b2).2.1 n).1 (Dt.decD b3 n 64).1 (takeU b4 n).1)
def decB (b0 b1 b2 b3 b4 : List UInt8) : List Mv × Int :=
 if doneV (numS ⟨b0, 0⟩) ≠ 0 then ([], doneV (numS ⟨b0, 0⟩))
 else if 2000 < numV ⟨b0, 0⟩ then ([], 10)
 else decN (numV ⟨b0, 0⟩) b1 b2 b3 b4
/-- P19.4 -/
def decO : List Chk → List Mv × Int
 | [(k0, b0), (k1, b1), (k2, b2), (k3, b3), (k4, b4)] => if k0 = 4 ∧ k1 = 5 ∧ k2 = 6 ∧ k3 = 7 ∧ k4 = 8 then decB b0 b1 b2 b3 b4 else ([], 5)
 | _ => ([], 5)
theorem zip_back : ∀ l : List Mv, (∀ m ∈ l, i64 (u64 (mr m)) = mr m) → zipO (mcL l) (mrL l) (paL l) (chL l) (nmL l) (rkL l) = l.map bkM
 | [], _ => rfl
 | m :: l, h => by
  have ih := zip_back l fun x hx => h x (List.mem_cons_of_mem _ hx)
  have h0 := h m (List.mem_cons_self ..)
  unfold mcL mrL paL chL nmL rkL at ih ⊢
  simp only [List.map_cons]
  unfold zipO
  rw [ih, h0]
  rfl
theorem zip_fwd : ∀ (cs : List Int) (rs : List Nat) (ps ks : List Int) (ns : List (List UInt8)) (us : List Nat) (n : Nat), cs.length = n → rs.length = n → ps.length = n → ks.length = n → ns.length = n → us.length = n →
  (∀ r ∈ rs, r < 18446744073709551616) → (∀ u ∈ us, u < 18446744073709551616 ∧ cn u = true) →
  mcL (zipO cs rs ps ks ns us) = cs ∧ mrL (zipO cs rs ps ks ns us) = rs ∧ paL (zipO cs rs ps ks ns us) = ps ∧ chL (zipO cs rs ps ks ns us) = ks ∧ nmL (zipO cs rs ps ks ns us) = ns ∧ rkL (zipO cs rs ps ks ns us) = us ∧ (zipO cs rs ps ks ns us).length = n
 | [], rs, ps, ks, ns, us, n, h1, h2, h3, h4, h5, h6, _, _ => by
  have hn : n = 0 := h1.symm
  subst hn
  have a2 := List.eq_nil_of_length_eq_zero h2
  have a3 := List.eq_nil_of_length_eq_zero h3
  have a4 := List.eq_nil_of_length_eq_zero h4
  have a5 := List.eq_nil_of_length_eq_zero h5
  have a6 := List.eq_nil_of_length_eq_zero h6
  subst a2 a3 a4 a5 a6
  exact ⟨rfl, rfl, rfl, rfl, rfl, rfl, rfl⟩
 | c :: cs, [], _, _, _, _, n, h1, h2, _, _, _, _, _, _ => by simp at h1 h2; omega
 | c :: cs, r :: rs, [], _, _, _, n, h1, _, h3, _, _, _, _, _ => by simp at h1 h3; omega
 | c :: cs, r :: rs, p :: ps, [], _, _, n, h1, _, _, h4, _, _, _, _ => by simp at h1 h4; omega
 | c :: cs, r :: rs, p :: ps, k :: ks, [], _, n, h1, _, _, _, h5, _, _, _ => by simp at h1 h5; omega
 | c :: cs, r :: rs, p :: ps, k :: ks, x :: ns, [], n, h1, _, _, _, _, h6, _, _ => by simp at h1 h6; omega
 | c :: cs, r :: rs, p :: ps, k :: ks, x :: ns, u :: us, n, h1, h2, h3, h4, h5, h6, hr, hu => by
  obtain ⟨n', rfl⟩ : ∃ n', n = n' + 1 := ⟨n - 1, by simp at h1; omega⟩
  have ih := zip_fwd cs rs ps ks ns us n' (by simpa using h1) (by simpa using h2) (by simpa using h3) (by simpa using h4) (by simpa using h5) (by simpa using h6)
   (fun x hx => hr x (List.mem_cons_of_mem _ hx)) (fun x hx => hu x (List.mem_cons_of_mem _ hx))
  obtain ⟨i1, i2, i3, i4, i5, i6, i7⟩ := ih
  have hr0 := hr r (List.mem_cons_self ..)
  have hu0 := hu u (List.mem_cons_self ..)
  have e1 : u64 (i64 r) = r := u64_i64 hr0
  have e2 : cb (fl u) = u := cb_fl_cn hu0.1 hu0.2
  unfold zipO
  simp only [mcL, mrL, paL, chL, nmL, rkL] at i1 i2 i3 i4 i5 i6 ⊢
  simp only [List.map_cons, List.length_cons]
  refine ⟨?_, ?_, ?_, ?_, ?_, ?_, by rw [i7]⟩
  ·rw [i1]
  ·show u64 (i64 r) :: _ = _
   rw [e1, i2]
  ·rw [i3]
  ·rw [i4]
  ·rw [i5]
  ·show cb (fl u) :: _ = _
   rw [e2, i6]
theorem encL_lt {l : List Int} (hl : l.length ≤ 100000) : (encL l).length < 18446744073709551616 := by
 have := (encL_len l).2
 omega
theorem nums_u64 (l : List Mv) : Nums (mrL l) := fun u hu => by
 obtain ⟨m, _, rfl⟩ := List.mem_map.1 hu
 exact u64_lt _
theorem bk_all {l : List Mv} (h : mayM l = true) : mayM (l.map bkM) = true := by
 obtain ⟨h1, h2⟩ := mayM_facts h
 have hr : ∀ (l : List Mv) (p q : Option Mv), (∀ a, p = some a → ∃ b, q = some b ∧ mc b = mc a ∧ mr b = mr a) → (p = none → q = none) → resM p l = true → resM q (l.map bkM) = true := by
  intro l
  induction l with
  | nil => intro p q _ _ _; simp [resM]
  | cons x t ih =>
   intro p q hs hn h
   rw [List.map_cons]
   unfold resM at h ⊢
   simp only [Bool.and_eq_true] at h ⊢
   refine ⟨h.1, ?_, ih (some x) (some (bkM x)) (fun a ha => by injection ha with ha; subst ha; exact ⟨bkM x, rfl, rfl, rfl⟩) (fun e => by cases e) h.2.2⟩
   cases p with
   | none => rw [hn rfl]
   | some a =>
    obtain ⟨b, hb, b1, b2⟩ := hs a rfl
    subst hb
    have h3 := h.2.1
    simp only at h3 ⊢
    rw [bm_iff] at h3 ⊢
    unfold MLt at h3 ⊢
    rw [b1, b2]
    exact h3
 unfold mayM mayL
 rw [hr l none none (fun a ha => by cases ha) (fun _ => rfl) h2, decide_eq_true (show (l.map bkM).length ≤ 2000 by rw [List.length_map]; exact h1)]
 rfl
theorem all_one {l : List Mv} (h : mayM l = true) : l.all oneM = true := List.all_eq_true.2 (mayM_all h)
theorem decO_enc {l : List Mv} (h : mayM l = true) (hr : ∀ m ∈ l, rk (mw m) < 18446744073709551616) : decO (encO l) = (l.map bkM, 0) := by
 have hm := mayM_all h
 have hl := (mayM_facts h).1
 have f := fun m hmm => oneM_facts (hm m hmm)
 have hc : Ints (mcL l) := fun x hx => by obtain ⟨m, hmm, rfl⟩ := List.mem_map.1 hx; have := (f m hmm).1; unfold In64; omega
 have hp : Ints (paL l) := fun x hx => by obtain ⟨m, hmm, rfl⟩ := List.mem_map.1 hx; have := (f m hmm).2.2.2.1; unfold In64; omega
 have hk : Ints (chL l) := fun x hx => by obtain ⟨m, hmm, rfl⟩ := List.mem_map.1 hx; have := (f m hmm).2.2.1; unfold In64; omega
 have e1 : (mcL l).length = l.length := List.length_map ..
 have e2 : (mrL l).length = l.length := List.length_map ..
 have e3 : (paL l).length = l.length := List.length_map ..
 have e4 : (chL l).length = l.length := List.length_map ..
 have e5 : (nmL l).length = l.length := List.length_map ..
 have e6 : (rkL l).length = l.length := List.length_map ..
 have p0 := num_put (n := l.length) (by omega) []
 rw [List.append_nil] at p0
 have c1 := cutP_part (a := encL (mcL l)) (encU (mrL l)) (encL_lt (by omega))
 have c2 := cutP_part (a := encL (paL l)) (encL (chL l)) (encL_lt (by omega))
 have v1 := dec_enc _ hc
 have v2 := decU_enc (nums_u64 l) (by omega)
 have v3 := dec_enc _ hp
 have v4 := dec_enc _ hk
 have v5 := Dt.decD_enc (l := nmL l) (most := 64) (by omega) (fun t ht => by obtain ⟨m, hmm, rfl⟩ := List.mem_map.1 ht; have := (f m hmm).2.2.2.2.1; omega)
  (fun t ht => by obtain ⟨m, hmm, rfl⟩ := List.mem_map.1 ht; exact ⟨(f m hmm).2.2.2.2.2, by have := (f m hmm).2.2.2.2.1; omega⟩)
 have hg : Re.Good (rkL l) := fun u hu => by obtain ⟨m, hmm, rfl⟩ := List.mem_map.1 hu; exact ⟨cb_lt _ (hr m hmm), cn_cb (hr m hmm)⟩
 have v6 := takeU_rkU hg (by omega)
 rw [e1] at v1; rw [e2] at v2; rw [e3] at v3; rw [e4] at v4; rw [e5] at v5; rw [e6] at v6
 have hz := zip_back l (fun m hmm => i64_u64 (by have := (f m hmm).2.1; omega) (by have := (f m hmm).2.1; omega))
 unfold encO decO
 simp only [and_self, if_true]
 unfold decB bdT bdE
 rw [p0.1, p0.2, if_neg (by simp [doneV]), if_neg (by omega)]
 unfold decN
 rw [c1, c2]
 simp only
 rw [v1, v2, v3, v4, v5, v6]
 simp only
 rw [if_neg (by simp), if_neg (by simp), if_neg (by simp), if_neg (by simp), if_neg (by simp), if_neg (by simp), if_neg (by simp), if_neg (by simp), hz]
 unfold endO
 rw [all_one (bk_all h), bk_all h]
 simp
theorem decU_lt {s : List UInt8} {n : Int} (h : (decU s n).2 = 0) : Nums (decU s n).1 := by
 obtain ⟨⟨ys, x⟩, hq⟩ : ∃ q, decU s n = q := ⟨_, rfl⟩
 rw [hq] at h ⊢
 simp only at h
 subst h
 unfold decU at hq
 split at hq
 ·injection hq with _ h; simp at h
 ·split at hq
  ·injection hq with _ h; simp at h
  ·rename_i h1 h2
   obtain ⟨r, hf, _, _, hy, _⟩ := dcR_dec _ _ _ _ _ (by simpa using (by omega : (0 : Int) ≤ n)) hq
   rw [hy]
   intro u hu
   rw [List.nil_append] at hu
   have : ∀ r : List Run, Fits r → ∀ u ∈ spr r, u < 18446744073709551616 := by
    intro r
    induction r with
    | nil => intro _ u hu; simp [spr_nil] at hu
    | cons x t ih =>
     intro hf u hu
     obtain ⟨v, c⟩ := x
     rw [spr_cons] at hu
     rcases List.mem_append.1 hu with h | h
     ·rw [(List.mem_replicate.1 h).2]; exact (hf (v, c) (List.mem_cons_self ..)).1
     ·exact ih (fun y hy => hf y (List.mem_cons_of_mem _ hy)) u h
   exact this r hf u hu
theorem endO_none {l : List Mv} (h : (endO l).2 ≠ 0) : (endO l).1 = [] := by
 unfold endO at h ⊢
 split
 ·rfl
 ·rename_i h1; rw [if_neg h1] at h
  split
  ·rfl
  ·rename_i h2; rw [if_neg h2] at h; exact absurd rfl h
theorem decN_none {n : Nat} {b1 b2 b3 b4 : List UInt8} (h : (decN n b1 b2 b3 b4).2 ≠ 0) : (decN n b1 b2 b3 b4).1 = [] := by
 unfold decN at h ⊢
 repeat' split
 all_goals first | rfl | skip
 rename_i h1 h2 h3 h4 h5 h6 h7 h8
 rw [if_neg h1, if_neg h2, if_neg h3, if_neg h4, if_neg h5, if_neg h6, if_neg h7, if_neg h8] at h
 exact endO_none h
theorem decO_none {c : List Chk} (h : (decO c).2 ≠ 0) : (decO c).1 = [] := by
 unfold decO at h ⊢
 split
 ·split
  ·rename_i h1
   simp only [h1, and_self, if_true] at h
   unfold decB at h ⊢
   split
   ·rfl
   ·rename_i h2; rw [if_neg h2] at h
    split
    ·rfl
    ·rename_i h3; rw [if_neg h3] at h; exact decN_none h
  ·rfl
 ·rfl
end Go.Proofs.YtojhenpaeedimaaGreat.Ol
end
section
namespace Go.Proofs.YtojhenpaeedimaaGreat.Ol
open Pk Wd Fl Rf Ck
set_option maxRecDepth 100000
theorem if_zero {α : Type} {x : Int} {y : List α × Int} {l : List α} (h : (if x ≠ 0 then ([], x) else y) = (l, 0)) : x = 0 ∧ y = (l, 0) := by
 by_cases hx : x ≠ 0
 ·rw [if_pos hx] at h; injection h with _ h; exact absurd h hx
 ·rw [if_neg hx] at h; exact ⟨by simpa using hx, h⟩
theorem endO_ok {z l : List Mv} (h : endO z = (l, 0)) : z = l ∧ mayM l = true := by
 unfold endO at h
 split at h
 ·injection h with _ h; simp at h
 ·split at h
  ·injection h with _ h; simp at h
  ·rename_i h1 h2
   injection h with h _
   subst h
   exact ⟨rfl, by simpa using h2⟩
theorem cut_ok {s : List UInt8} (h : (cutP s).2.2 = 0) : s = prt (cutP s).1 ++ (cutP s).2.1 :=
 (cutP_back (a := (cutP s).1) (b := (cutP s).2.1) (Prod.ext rfl (Prod.ext rfl h))).1
theorem decN_back {n : Nat} {b1 b2 b3 b4 : List UInt8} {l : List Mv} (h : decN n b1 b2 b3 b4 = (l, 0)) :
  bdT l = b1 ∧ bdE l = b2 ∧ Dt.encD (nmL l) = b3 ∧ rkU (rkL l) = b4 ∧ l.length = n ∧ mayM l = true := by
 unfold decN at h
 obtain ⟨c1, h⟩ := if_zero h
 obtain ⟨c2, h⟩ := if_zero h
 obtain ⟨c3, h⟩ := if_zero h
 obtain ⟨c4, h⟩ := if_zero h
 obtain ⟨c5, h⟩ := if_zero h
 obtain ⟨c6, h⟩ := if_zero h
 obtain ⟨c7, h⟩ := if_zero h
 obtain ⟨c8, h⟩ := if_zero h
 obtain ⟨hz, hm⟩ := endO_ok h
 have d2 := enc_dec c2
 have d3 := decU_dec c3
 have d5 := enc_dec c5
 have d6 := enc_dec c6
 have d7 := Dt.decD_dec c7
 have d8 := takeU_back (us := (takeU b4 n).1) (Prod.ext rfl c8)
 have z := zip_fwd (decV (cutP b1).1 n).1 (decU (cutP b1).2.1 n).1 (decV (cutP b2).1 n).1 (decV (cutP b2).2.1 n).1 (Dt.decD b3 n 64).1 (takeU b4 n).1 n (by have := d2.2; omega) (by have := d3.2; omega) (by have := d5.2; omega) (by have := d6.2; omega) (by have := d7.2.1; omega) (by have := d8.2.1; omega) (decU_lt c3) d8.2.2
 rw [hz] at z
 obtain ⟨z1, z2, z3, z4, z5, z6, z7⟩ := z
 refine ⟨?_, ?_, ?_, ?_, z7, hm⟩
 ·unfold bdT
  rw [z1, z2, d2.1, d3.1]
  exact (cut_ok c1).symm
 ·unfold bdE
  rw [z3, z4, d5.1, d6.1]
  exact (cut_ok c4).symm
 ·rw [z5, d7.1]
 ·rw [z6, d8.1]
theorem decB_back {b0 b1 b2 b3 b4 : List UInt8} {l : List Mv} (h : decB b0 b1 b2 b3 b4 = (l, 0)) :
  put l.length = b0 ∧ bdT l = b1 ∧ bdE l = b2 ∧ Dt.encD (nmL l) = b3 ∧ rkU (rkL l) = b4 ∧ mayM l = true := by
 unfold decB at h
 obtain ⟨c1, h⟩ := if_zero h
 split at h
 ·injection h with _ h; simp at h
 ·obtain ⟨d1, d2, d3, d4, d5, d6⟩ := decN_back h
  refine ⟨?_, d1, d2, d3, d4, d6⟩
  have he : (numS ⟨b0, 0⟩).e = 0 ∧ (numS ⟨b0, 0⟩).l.length = 0 := by
   unfold doneV at c1
   split at c1
   ·rename_i h1
    split at c1
    ·simp at c1
    ·exact ⟨h1, by omega⟩
   ·rename_i h1; exact absurd c1 h1
  have hs := (num_split (s := ⟨b0, 0⟩) he.1).2
  rw [List.eq_nil_of_length_eq_zero he.2, List.append_nil] at hs
  rw [d5]
  exact hs.symm
theorem decO_back {c : List Chk} {l : List Mv} (h : decO c = (l, 0)) : encO l = c ∧ mayM l = true := by
 unfold decO at h
 split at h
 ·split at h
  ·rename_i hk
   obtain ⟨k0, k1, k2, k3, k4⟩ := hk
   obtain ⟨d0, d1, d2, d3, d4, d5⟩ := decB_back h
   subst k0 k1 k2 k3 k4
   unfold encO
   rw [d0, d1, d2, d3, d4]
   exact ⟨rfl, d5⟩
  ·injection h with _ h; simp at h
 ·injection h with _ h; simp at h
theorem decO_names {c : List Chk} {l : List Mv} {x : Int} (h : decO c = (l, x)) : (∀ m ∈ l, (nm (mw m)).length ≤ 64) ∧ l.length ≤ 2000 := by
 by_cases hx : x = 0
 ·subst hx
  have hm := (decO_back h).2
  exact ⟨fun m hmm => (oneM_facts (mayM_all hm m hmm)).2.2.2.2.1, (mayM_facts hm).1⟩
 ·have h1 := decO_none (c := c) (by rw [h]; exact hx)
  rw [h] at h1
  simp only at h1
  subst h1
  exact ⟨fun m hm => (by simp at hm), by simp⟩
theorem sameM_symm : ∀ {a b : List Mv}, sameM a b = true → sameM b a = true
 | [], [], _ => rfl
 | [], _ :: _, h => by simp [sameM] at h
 | _ :: _, [], h => by simp [sameM] at h
 | x :: a, y :: b, h => by
  unfold sameM at h ⊢
  simp only [Bool.and_eq_true] at h ⊢
  exact ⟨alikeM_symm h.1, sameM_symm h.2⟩
theorem sameM_trans : ∀ {a b c : List Mv}, sameM a b = true → sameM b c = true → sameM a c = true
 | [], [], c, _, h2 => h2
 | [], _ :: _, _, h, _ => by simp [sameM] at h
 | _ :: _, [], _, h, _ => by simp [sameM] at h
 | _ :: _, _ :: _, [], _, h => by simp [sameM] at h
 | x :: a, y :: b, z :: c, h, h2 => by
  unfold sameM at h h2 ⊢
  simp only [Bool.and_eq_true] at h h2 ⊢
  exact ⟨alikeM_trans h.1 h2.1, sameM_trans h.2 h2.2⟩
end Go.Proofs.YtojhenpaeedimaaGreat.Ol
end
