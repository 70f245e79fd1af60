/-
 Contracts of layer 21 at letters.
 Plain facts for the walks of layer 21. No Go.
-/
import Derived.Test.YtojhenpaeedimaaZu
import Derived.Test.YtojhenpaeedimaaZe
section
namespace Go.Proofs.Ytojhenpaeedimaa
open Go.RowKit Go.IntWalk
open Pk Ck Rf Fl Wd
set_option maxRecDepth 100000
theorem mayM_all {l : List Mv} (h : mayM l = true) : ∀ m ∈ l, oneM m = true := by
 have h2 := (mayM_facts h).2
 cases l with
 | nil => intro m hm; simp at hm
 | cons x t =>
  unfold resM at h2
  simp only [Bool.and_eq_true] at h2
  have h3 := (resM_iff.1 h2.2.2).1
  intro m hm
  rcases List.mem_cons.1 hm with rfl | hm
  ·exact h2.1
  ·exact h3 m hm
theorem dec_names {f : List UInt8} {l : List Mv} {x : Int} (h : decR f = (l, x)) : (∀ m ∈ l, rk (mw m) < 18446744073709551616 ∧ (nm (mw m)).length ≤ 64) ∧ l.length ≤ 2000 := by
 by_cases hx : x = 0
 ·subst hx
  have hm := (decR_back h).2
  have hr := decR_rk f
  rw [h] at hr
  obtain ⟨h1, h2⟩ := mayM_facts hm
  refine ⟨fun m hmm => ⟨hr m hmm, ?_⟩, h1⟩
  have h3 := (mayM_all hm) m hmm
  exact (oneM_facts h3).2.2.2.2.1
 ·have h1 := decR_none (f := f) (by rw [h]; exact hx)
  rw [h] at h1
  simp only at h1
  subst h1
  exact ⟨fun m hm => (by simp at hm), by simp⟩
theorem dec_moves {f : List UInt8} {l : List Mv} {x : Int} (h : decR f = (l, x)) : Moves_ l := fun m hm => by
 have := (dec_names h).1 m hm
 exact ⟨this.1, by unfold maxLen; omega⟩
theorem dec_mok {f : List UInt8} {l : List Mv} {x : Int} (h : decR f = (l, x)) : Mok l := fun m hm => by
 have := (dec_names h).1 m hm
 exact ⟨this.1, by omega⟩
theorem sim_moves {f : List UInt8} {l l' : List Mv} {x : Int} (h : decR f = (l, x)) (hs : SimL l' l) : Moves_ l' := fun m hm => by
 obtain ⟨b, hb, hb2⟩ := hs.mem hm
 have := (dec_names h).1 b hb
 exact ⟨hb2.2.2.2.2.2.1, by rw [hb2.2.2.2.2.1]; unfold maxLen; omega⟩
theorem pdec_v {f : List UInt8} {S : ByteArray} {l : List Mv} {x : Int} (hS : ba f = S) (hf : f.length ≤ 100000000) (h : decR f = (l, x)) (w : World) :
  Calls Try.prog 13 #[.string S] w fun e w' => ∃ (A : Option Addr) (cap : Nat), e = .returned (.tuple #[.slice A l.length cap, .int .i64 x]) ∧ At w' w'.heap.size A (mvs l) ∧ Below w.heap.size w w' := by
 by_cases hx : x = 0
 ·subst hx
  refine (pdecode_y hS hf h w).mono ?_
  rintro e w' ⟨L, rfl, -, h2, h3⟩
  exact ⟨_, _, rfl, h2, h3⟩
 ·have h1 := decR_none (f := f) (by rw [h]; exact hx)
  rw [h] at h1
  simp only at h1
  subst h1
  refine (pdecode_n hS hf h hx w).mono ?_
  rintro e w' ⟨rfl, h3⟩
  exact ⟨none, 0, rfl, At.nil _ _ _, h3⟩
theorem rdec_v {f : List UInt8} {S : ByteArray} {l : List Mv} {x : Int} (hS : ba f = S) (hf : f.length ≤ 100000000) (h : decR f = (l, x)) (w : World) :
  Calls Try.prog 14 #[.string S] w fun e w' => ∃ (A : Option Addr) (cap : Nat) (l' : List Mv), e = .returned (.tuple #[.slice A l'.length cap, .int .i64 x]) ∧ SimL l' l ∧ At w' w'.heap.size A (mvs l') ∧ Below w.heap.size w w' := by
 subst hS
 refine (rdecode_d f hf w).mono ?_
 rintro e w' ⟨hb, A, cap, l', he, hs, hat⟩
 rw [h] at he hs
 exact ⟨A, cap, l', he, hs, hat, hb⟩
theorem renc_v {l : List Mv} {S : ByteArray} {x : Int} {A : Option Addr} {n cap : Nat} {w : World} (hn : l.length = n) (hS : ba (encT l) = S) (hx : encE l = x) (hl : l.length ≤ 10000) (ho : Mok l) (hc : At w w.heap.size A (mvs l)) :
  Calls Try.prog 12 #[.slice A n cap] w fun e w' => e = .returned (.tuple #[.string S, .int .i64 x]) ∧ Below w.heap.size w w' := by
 subst hS hx hn; exact rencode_d A cap l hl ho w hc
theorem few_q {l : List Mv} {n : Nat} {q : Bool} (h : fewM l n = q) (hn : n ≤ 1000) {A : Option Addr} {cap : Nat} (hl : l.length ≤ maxLen) {w : World} (hc : At w w.heap.size A (mvs l)) :
  Calls Try.prog 7 #[.slice A l.length cap, .int .i64 (n : Int)] w fun e w' => e = .returned (.bool q) ∧ w = w' := by
 subst h; exact rmfew_c A cap l n hl hn w hc
theorem rmay_q {l : List Mv} {q : Bool} (h : mayM l = q) {A : Option Addr} {cap : Nat} (hl : l.length ≤ maxLen) (hm : Moves_ l) {w : World} (hc : At w w.heap.size A (mvs l)) :
  Calls Try.prog 16 #[.slice A l.length cap] w fun e w' => e = .returned (.bool q) ∧ Below w.heap.size w w' := by
 subst h; exact rmmay_c A cap l hl (fun m hmm => (hm m hmm).2) w hc
theorem few_mok {l : List Mv} {n : Nat} (h : fewM l n = true) (hm : Moves_ l) : Mok l := fun m hmm => ⟨(hm m hmm).1, by have := (fewM_in h).2 m hmm; omega⟩
end Go.Proofs.Ytojhenpaeedimaa
end
section
namespace Go.Proofs.Ytojhenpaeedimaa.Rf
open Pk Ck Fl Wd
set_option maxRecDepth 100000
theorem one_len3 {m : Mv} (h : (nm (mw m)).length ≤ 64) : 13 ≤ (oneB m).length ∧ (oneB m).length ≤ 113 := by
 have h1 := put10 (mc m)
 have h2 := put10 (mr m)
 have h3 := put10 (pa (mw m))
 have h4 := put10 (ch (mw m))
 have p1 := put_len_pos (u64 (mc m))
 have p2 := put_len_pos (u64 (mr m))
 have p3 := put_len_pos (u64 (pa (mw m)))
 have p4 := put_len_pos (u64 (ch (mw m)))
 have h5 : (put (nm (mw m)).length).length = 1 := by rw [put_lo (by omega)]; rfl
 have h6 := fixed_len8 (cb (rk (mw m)))
 unfold oneB
 simp only [List.length_append]
 omega
theorem one_len4 {m : Mv} (h : (nm (mw m)).length ≤ 100) : (oneB m).length ≤ 158 := by
 have h1 := put10 (mc m)
 have h2 := put10 (mr m)
 have h3 := put10 (pa (mw m))
 have h4 := put10 (ch (mw m))
 have h5 : (put (nm (mw m)).length).length = 1 := by rw [put_lo (by omega)]; rfl
 have h6 := fixed_len8 (cb (rk (mw m)))
 unfold oneB
 simp only [List.length_append]
 omega
theorem flat_few {l : List Mv} (h : ∀ m ∈ l, (nm (mw m)).length ≤ 100) : (l.flatMap oneB).length ≤ l.length * 158 := by
 induction l with
 | nil => simp
 | cons m t ih =>
  rw [List.flatMap_cons, List.length_append, List.length_cons]
  have h1 := one_len4 (h m (List.mem_cons_self ..))
  have h2 := ih fun x hx => h x (List.mem_cons_of_mem _ hx)
  omega
theorem encB_few {l : List Mv} (h : ∀ m ∈ l, (nm (mw m)).length ≤ 100) (hl : l.length ≤ 60) : (encB l).length ≤ 10000 := by
 have h1 := flat_few h
 have h2 : (put l.length).length = 1 := by rw [put_lo (by omega)]; rfl
 unfold encB
 simp only [List.length_append]
 have : startB.length = 5 := rfl
 omega
theorem encB_ver (l : List Mv) : verE (encB l) = 0 ∧ verV (encB l) = 1 := by
 have h : verE (encB l) = 0 := by
  unfold verE
  rw [if_neg (by simp [encB, startB, magic]), if_neg (by simp [encB, startB])]
 refine ⟨h, ?_⟩
 unfold verV
 rw [if_pos h]
 rfl
theorem alike_bk {m : Mv} (h : rk (mw m) < 18446744073709551616) : alikeM (bkM m) m = true := by
 have hc : cb (fl (cb (rk (mw m)))) = cb (rk (mw m)) := cb_fl_cn (cb_lt _ h) (cn_cb h)
 unfold alikeM timeEq alikeP bkM
 simp [hc]
theorem same_bk : ∀ {l : List Mv}, (∀ m ∈ l, rk (mw m) < 18446744073709551616) → sameM (l.map bkM) l = true
 | [], _ => rfl
 | m :: l, h => by
  rw [List.map_cons]
  unfold sameM
  rw [alike_bk (h m (List.mem_cons_self ..)), same_bk fun x hx => h x (List.mem_cons_of_mem _ hx)]
  rfl
theorem bk_moves {l : List Mv} (h : Moves_ l) : Moves_ (l.map bkM) := fun m hm => by
 obtain ⟨x, hx, rfl⟩ := List.mem_map.1 hm
 exact ⟨fl_lt _ (cb_lt _ (h x hx).1), (h x hx).2⟩
theorem resM_take : ∀ {l : List Mv} {p : Option Mv} (k : Nat), resM p l = true → resM p (l.take k) = true
 | [], p, k, _ => by simp [resM]
 | x :: t, p, 0, _ => by simp [resM]
 | x :: t, p, k + 1, h => by
  rw [List.take_succ_cons]
  unfold resM at h ⊢
  simp only [Bool.and_eq_true] at h ⊢
  exact ⟨h.1, h.2.1, resM_take k h.2.2⟩
theorem mayM_take {l : List Mv} (k : Nat) (h : mayM l = true) : mayM (l.take k) = true := by
 obtain ⟨h1, h2⟩ := mayM_facts h
 unfold mayM mayL
 rw [resM_take k h2, decide_eq_true (show (l.take k).length ≤ 2000 by rw [List.length_take]; omega)]
 rfl
theorem encT_may {l : List Mv} (h : mayM l = true) : encT l = encB l ∧ encE l = 0 := by
 unfold encT encE; rw [h]; exact ⟨rfl, rfl⟩
theorem encT_not {l : List Mv} (h : mayM l = false) : encT l = [] ∧ encE l = 1 := by
 unfold encT encE; rw [h]; exact ⟨rfl, rfl⟩
theorem encB_head {l : List Mv} (hl : l.length < 128) : encB l = (startB ++ [UInt8.ofNat l.length]) ++ l.flatMap oneB := by
 unfold encB
 rw [put_lo hl, List.append_assoc]
theorem encB_six {l : List Mv} (hl : l.length < 128) : (encB l).drop 6 = l.flatMap oneB ∧ (encB l).length = 6 + (l.flatMap oneB).length := by
 rw [encB_head hl]
 have h6 : (startB ++ [UInt8.ofNat l.length]).length = 6 := rfl
 constructor
 ·rw [show 6 = (startB ++ [UInt8.ofNat l.length]).length from rfl, List.drop_left]
 ·rw [List.length_append, h6]
theorem flat_take {l : List Mv} {k : Nat} {m : Mv} (h : l[k]? = some m) : (l.take (k + 1)).flatMap oneB = (l.take k).flatMap oneB ++ oneB m := by
 rw [List.take_add_one, h]; simp
end Go.Proofs.Ytojhenpaeedimaa.Rf
end
