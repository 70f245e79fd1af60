/-
  A chunk that is read: the program's.
-/
import Derived.Test.YtcbkggjphoeceaaUf
import Derived.Deep.RegionHeld3
namespace Go.Proofs.Ytcbkggjphoeceaa
open Go.RowKit Go.IntWalk
open Pk Cr Ck
set_option maxRecDepth 100000
attribute [local go_sem] Oper.semAt_some

def ReadEnd (k : UInt8) (r : List UInt8) (q : Nat) (w : World) (e : Ending) (w' : World) : Prop :=
  w.grownBy w' (some q) ∧ ((cutE k r ≠ 0 ∧ e = .returned (.tuple #[.agg #[.int .i64 0, .string ⟨#[]⟩], .int .i64 (cutE k r)])) ∨
    (cutE k r = 0 ∧ e = .returned (.tuple #[.agg #[.int .i64 (k.toNat : Int), .string (ba (cutC k r).2)], .int .i64 0]) ∧ Rdr w' q ⟨cutR r, 0⟩))

theorem take_k {g : Nat} {n : Int} {s : St} (V : List UInt8) (s' : St) (hV : takeV n s = V) (hs : takeS n s = s') {w : World} (h : Rdr w g s) :
    Calls Try.prog 42 #[.pointer (some ⟨g, 0, none⟩), .int .i64 n] w (Done_ w g s' (.string (ba V))) := by
  subst hV hs
  exact take_m g n s w h

theorem rdr_drew {w : World} {g : Nat} {s : St} (h : Rdr w g s) : Rdr w.drew g s := is_drew h
theorem rdr_alloc {w : World} {g : Nat} {s : St} (h : Rdr w g s) (o : Obj) : Rdr (w.alloc o) g s := is_alloc h o
theorem new_kept {w w' : World} {q : Nat} (hq : q < w.heap.size) (ho : (w.alloc (.cells #[.int .i64 0, .string ⟨#[]⟩] 32)).drew.grownBy w' (some q)) : Is w' w.heap.size 32 [.int .i64 0, .string ⟨#[]⟩] :=
  is_grown (is_drew (is_new w 32 [.int .i64 0, .string ⟨#[]⟩])) ho (by simp; omega)
theorem own_set2 {w w2 : World} {q G : Nat} {u v : Value} (h : w.grownBy w2 (some q)) (hG : w.heap.size ≤ G) : w.grownBy ((w2.setCell ⟨G, 0, none⟩ u).setCell ⟨G, 1, none⟩ v) (some q) :=
  ⟨h.os, h.tape, h.output, by simpa [World.setCell] using h.size, fun i hi hne => (Below.heap_setCell _ _ _ _ (by show i ≠ G; omega)).trans ((Below.heap_setCell _ _ _ _ (by show i ≠ G; omega)).trans (h.block i hi hne))⟩
theorem rdr_below {w w' : World} {g : Nat} {s : St} (h : Rdr w g s) (hb : Below w.heap.size w w') : Rdr w' g s := is_below h hb (is_lt h)
theorem rdr_set2 {w : World} {q G : Nat} {s : St} {u v : Value} (h : Rdr w q s) (hne : q ≠ G) : Rdr ((w.setCell ⟨G, 0, none⟩ u).setCell ⟨G, 1, none⟩ v) q s := is_far (is_far h ⟨G, 0, none⟩ hne u) ⟨G, 1, none⟩ hne v
theorem undrew {w w' : World} {r : Option Nat} (h : w.drew.grownBy w' r) : w.grownBy w' r := ⟨h.os, h.tape, h.output, h.size, h.block⟩
def Tail (w : World) (q : Nat) (s3 : St) (a : Int) (b : List UInt8) (W : World) (G : Nat) : Prop :=
  Rdr W q s3 ∧ Is W G 32 [.int .i64 a, .string (ba b)] ∧ Is W w.heap.size 32 [.int .i64 0, .string ⟨#[]⟩] ∧ w.grownBy W (some q) ∧ w.heap.size < G
theorem tailA {w w2 w5 : World} {q : Nat} {s3 : St} (a : Int) (b : List UInt8) (hr5 : Rdr w5 q s3) (ho5 : w2.drew.grownBy w5 (some q)) (hI2 : Is w2 w.heap.size 32 [.int .i64 0, .string ⟨#[]⟩]) (hg2 : w.grownBy w2 (some q)) (_ : q < w2.heap.size)
    (hG : w.heap.size < w2.heap.size) (hqw : q < w.heap.size := by omega) : Tail w q s3 a b (w5.alloc (.cells #[.int .i64 a, .string (ba b)] 32)) w5.heap.size := by
  have h5 := ho5.size
  refine ⟨rdr_alloc hr5 _, is_new w5 32 [.int .i64 a, .string (ba b)], is_alloc (is_grown (is_drew hI2) ho5 (by simp; omega)) _, only_trans (only_trans hg2 (undrew ho5)) (only_below ((Below.refl _ _).alloc (Nat.le_refl _) _) q), Nat.lt_of_lt_of_le hG h5⟩
theorem tailB {w w2 w5 : World} {q : Nat} {s3 : St} (a : Int) (b : List UInt8) (hr5 : Rdr w5 q s3) (ho5 : (w2.alloc (.cells #[.int .i64 0, .string ⟨#[]⟩] 32)).drew.grownBy w5 (some q)) (hI2 : Is w2 w.heap.size 32 [.int .i64 0, .string ⟨#[]⟩]) (hg2 : w.grownBy w2 (some q)) (hq2 : q < w2.heap.size)
    (hG : w.heap.size < w2.heap.size) (hqw : q < w.heap.size := by omega) : Tail w q s3 a b ((w5.setCell ⟨w2.heap.size, 0, none⟩ (.int .i64 a)).setCell ⟨w2.heap.size, 1, none⟩ (.string (ba b))) w2.heap.size := by
  have h5 := ho5.size
  have hJ := new_kept hq2 ho5
  have hA : w2.grownBy w5 (some q) := only_trans (only_below ((Below.refl _ _).alloc (Nat.le_refl _) (.cells #[.int .i64 0, .string ⟨#[]⟩] 32)) q) (undrew ho5)
  refine ⟨rdr_set2 hr5 (by omega), is_set (is_set hJ 0 (.int .i64 a)) 1 (.string (ba b)), is_far (is_far (is_grown hI2 hA (by simp; omega)) ⟨w2.heap.size, 0, none⟩ (by simp; omega) _) ⟨w2.heap.size, 1, none⟩ (by simp; omega) _, own_set2 (only_trans hg2 hA) (by omega), hG⟩
theorem cut_short {s : St} {n : Nat} (he : s.e = 0) (hl : s.l.length < n + 4) : (takeS 4 (takeS (n : Int) s)).e = 2 := by
  by_cases hx : (n : Int) < 0 ∨ (s.l.length : Int) < n
  · rw [(take_cut he hx).2, (take_err (by simp)).2]
  · rw [(take_ok he hx).2, (take_cut rfl (by simp only [List.length_drop, Int.toNat_natCast]; omega)).2]
theorem cut_full {s : St} {n : Nat} (he : s.e = 0) (hl : ¬ s.l.length < n + 4) : takeV (n : Int) s = s.l.take n ∧ takeS 4 (takeS (n : Int) s) = ⟨s.l.drop (n + 4), 0⟩ ∧ takeV 4 (takeS (n : Int) s) = (s.l.drop n).take 4 := by
  have hx : ¬((n : Int) < 0 ∨ (s.l.length : Int) < n) := by omega
  obtain ⟨h1, h2⟩ := take_ok he hx
  have hy : ¬((4 : Int) < 0 ∨ ((s.l.drop (n : Int).toNat).length : Int) < 4) := by simp only [List.length_drop, Int.toNat_natCast]; omega
  obtain ⟨h3, h4⟩ := take_ok (n := 4) (s := ⟨s.l.drop (n : Int).toNat, 0⟩) rfl hy
  rw [h1, h2, h3, h4]
  simp [List.drop_drop]
set_option maxHeartbeats 8000000 in
theorem read_c (k : UInt8) (r : List UInt8) (q : Nat) (hl : r.length ≤ 100000) (w : World) (h : Rdr w q ⟨k :: r, 0⟩) :
    Calls Try.prog 31 #[.pointer (some ⟨q, 0, none⟩)] w (ReadEnd k r q w) := by
  have hq := is_lt h
  have ht1 : takeV 1 ⟨k :: r, 0⟩ = [k] ∧ takeS 1 ⟨k :: r, 0⟩ = ⟨r, 0⟩ := take_ok rfl (by simp; omega)
  obtain ⟨t1, t2⟩ := ht1
  obtain ⟨n, hn⟩ : ∃ n, n = numV ⟨r, 0⟩ := ⟨_, rfl⟩
  obtain ⟨s, hs⟩ : ∃ s, s = numS ⟨r, 0⟩ := ⟨_, rfl⟩
  have hsl := numS_len ⟨r, 0⟩
  rw [← hs] at hsl
  simp only at hsl
  have HN := Lib.hid hn
  have HS := Lib.hid hs
  have T1 := Lib.hid t1
  have T2 := Lib.hid t2
  have hra := is_alloc h (.cells #[.int .i64 0, .string ⟨#[]⟩] 32)
  clear hn hs t1 t2 h
  go_enter Try.func31, Try.ntmps31
  go_wp2_with fail
  refine (take_k [k] ⟨r, 0⟩ T1.out T2.out hra).mono ?_
  rintro e w1 ⟨rfl, hr1, ho1⟩
  have hI1 : Is w1 w.heap.size 32 [.int .i64 0, .string ⟨#[]⟩] := is_grown (is_new w 32 [.int .i64 0, .string ⟨#[]⟩]) ho1 (by simp; omega)
  have hg1 : w.grownBy w1 (some q) := only_trans (boxed_below q w _) ho1
  clear hra ho1
  go_wp2_with fail
  refine (num_m q ⟨r, 0⟩ _ hr1).mono ?_
  rintro e w2 ⟨rfl, hr2, ho2⟩
  rw [← HN.out]
  rw [← HS.out] at hr2
  have hI2 := is_grown hI1 ho2 (by simp; omega)
  have hg2 := only_trans hg1 ho2
  clear hr1 hI1 ho2 hg1
  go_wp2_with fail
  refine (err_c q s _ hr2).mono ?_
  rintro e wz ⟨rfl, rfl⟩
  have k0 := is_cell hI2 0
  have k1 := is_cell hI2 1
  have f0 := is_free hI2 0
  have f1 := is_free hI2 1
  simp only [List.getElem?_cons_zero, List.getElem?_cons_succ] at k0 k1
  by_cases he : s.e = 0
  · have hee : (s.e != 0) = false := by rw [he]; rfl
    have HE := Lib.hid he
    clear he
    by_cases hbig : 1048576 < n
    · have hE : cutE k r = 10 := by unfold cutE; rw [← HS.out, ← HN.out, if_neg (by simp [HE.out]), if_pos hbig]
      have HEE := Lib.hid hE
      have hbi : (1048576 : Int) < (n : Int) := by omega
      clear hE
      go_wp2_with fail
      have hI3 : Is _ w.heap.size 32 [.int .i64 0, .string ⟨#[]⟩] := is_set (is_set hI2 0 (.int .i64 0)) 1 (.string ⟨#[]⟩)
      have j0 := is_cell hI3 0
      have j1 := is_cell hI3 1
      simp only [List.getElem?_cons_zero, List.getElem?_cons_succ] at j0 j1
      refine bodyPost_ret (v := .tuple #[.agg #[.int .i64 0, .string ⟨#[]⟩], .int .i64 10]) (by simp [results, Try.f31, go_sem, j0, j1]) rfl ?_
      refine ⟨own_set2 hg2 (by omega), .inl ⟨by rw [HEE.out]; decide, by rw [HEE.out]⟩⟩
    · obtain ⟨b, hb⟩ : ∃ b, b = takeV (n : Int) s := ⟨_, rfl⟩
      obtain ⟨s3, hs3⟩ : ∃ s3, s3 = takeS (n : Int) s := ⟨_, rfl⟩
      obtain ⟨u, hu⟩ : ∃ u, u = takeV 4 s3 := ⟨_, rfl⟩
      obtain ⟨s4, hs4⟩ : ∃ s4, s4 = takeS 4 s3 := ⟨_, rfl⟩
      have hidx := index_ba (l := [k]) (k := 0) (b := k) rfl 0 rfl
      have hk := k.toNat_lt
      have hn1 : (n : Int) ≤ 1048576 := by omega
      have hw1 : IntKind.i64.wrap (n : Int) = (n : Int) := IntWalk.i64_in _ (by omega)
      have hw2 : IntKind.i64.wrap (k.toNat : Int) = (k.toNat : Int) := IntWalk.i64_in _ (by omega)
      have hq2 := is_lt hr2
      have hG2 := is_lt hI2
      have hbl : b.length ≤ 140737488351232 := by
        rw [hb]
        by_cases hx : (n : Int) < 0 ∨ (s.l.length : Int) < n
        · rw [(take_cut HE.out hx).1]; simp
        · rw [(take_ok HE.out hx).1, List.length_take]; omega
      obtain ⟨T, hT⟩ : ∃ T, T = stamp ((k.toNat : Int), b) := ⟨_, rfl⟩
      have hway : (s4.e = 2 ∧ cutE k r = 2) ∨ (s4.e = 0 ∧ u ≠ T ∧ cutE k r = 6) ∨ (s4.e = 0 ∧ u = T ∧ cutE k r = 0 ∧ (cutC k r).2 = b ∧ s4 = ⟨cutR r, 0⟩) := by
        unfold cutE cutC cutR
        rw [← HS.out, ← HN.out, if_neg (by simp [HE.out]), if_neg hbig]
        by_cases hsh : s.l.length < n + 4
        · refine .inl ⟨?_, by rw [if_pos hsh]⟩
          rw [hs4, hs3]; exact cut_short HE.out hsh
        · obtain ⟨g1, g2, g3⟩ := cut_full HE.out hsh
          rw [← hb] at g1
          rw [← hs3, ← hs4] at g2
          rw [← hs3, ← hu] at g3
          rw [if_neg hsh, ← g1, ← hT, ← g3, g2]
          by_cases hx : u = T
          · exact .inr (.inr ⟨rfl, hx, by simp [hx], rfl, rfl⟩)
          · exact .inr (.inl ⟨rfl, hx, by simp [hx]⟩)
      have HB := Lib.hid hb
      have HS3 := Lib.hid hs3
      have HU := Lib.hid hu
      have HS4 := Lib.hid hs4
      have HT := Lib.hid hT
      have HW := Lib.hid hway
      clear hb hs3 hu hs4 hT hway
      go_wp2_with fail
      go_region_with (first
        | (go_at_call 42; refine (take_k b s3 HB.out.symm HS3.out.symm (rdr_drew hr2)).mono ?_; rintro e w5 ⟨rfl, hr5, ho5⟩)
        | (go_at_call 42; refine (take_k b s3 HB.out.symm HS3.out.symm (rdr_drew (rdr_alloc hr2 _))).mono ?_; rintro e w5 ⟨rfl, hr5, ho5⟩; have hJ := new_kept hq2 ho5; have j0 := is_cell hJ 0; have j1 := is_cell hJ 1; have g0 := is_free hJ 0; have g1 := is_free hJ 1; simp only [List.getElem?_cons_zero, List.getElem?_cons_succ] at j0 j1))
      all_goals
        clear hidx
        first
          | (have ht := tailA (k.toNat : Int) b hr5 ho5 hI2 hg2 hq2 hG2)
          | (have ht := tailB (k.toNat : Int) b hr5 ho5 hI2 hg2 hq2 hG2; clear hJ j0 j1 g0 g1)
        obtain ⟨t1, t2, t3, t4, t5⟩ := ht
        clear hr5 ho5 hI2 hg2 hr2 k0 k1 f0 f1
        go_wp2_with fail
        refine (take_k u s4 HU.out.symm HS4.out.symm t1).mono ?_
        rintro e w7 ⟨rfl, hr7, ho7⟩
        have t2 := is_grown t2 ho7 (by simp; omega)
        have t3 := is_grown t3 ho7 (by simp; omega)
        have t4 := only_trans t4 ho7
        clear t1 ho7
        go_wp2_with fail
        refine (err_c q s4 _ hr7).mono ?_
        rintro e wz ⟨rfl, rfl⟩
        rcases HW.out with ⟨he4, hE⟩ | ⟨he4, hne, hE⟩ | ⟨he4, heq, hE, hCb, hs4⟩
        · have hee4 : (s4.e != 0) = true := by rw [he4]; rfl
          have k0 := is_cell t3 0
          have k1 := is_cell t3 1
          have f0 := is_free t3 0
          have f1 := is_free t3 1
          simp only [List.getElem?_cons_zero, List.getElem?_cons_succ] at k0 k1
          have HEE := Lib.hid hE
          have HE4 := Lib.hid he4
          clear hE he4
          go_wp2_with fail
          have hI3 : Is _ w.heap.size 32 [.int .i64 0, .string ⟨#[]⟩] := is_set (is_set t3 0 (.int .i64 0)) 1 (.string ⟨#[]⟩)
          have j0 := is_cell hI3 0
          have j1 := is_cell hI3 1
          simp only [List.getElem?_cons_zero, List.getElem?_cons_succ] at j0 j1
          refine bodyPost_ret (v := .tuple #[.agg #[.int .i64 0, .string ⟨#[]⟩], .int .i64 s4.e]) (by simp [results, Try.f31, go_sem, j0, j1]) rfl ?_
          refine ⟨own_set2 t4 (by omega), .inl ⟨by rw [HEE.out]; decide, by rw [HEE.out, HE4.out]⟩⟩
        · have hee4 : (s4.e != 0) = false := by rw [he4]; rfl
          have c0 := is_cell t2 0
          have c1 := is_cell t2 1
          simp only [List.getElem?_cons_zero, List.getElem?_cons_succ] at c0 c1
          have hstr : (!((ba u).toList == (ba T).toList)) = true := by rw [ba_beq, decide_eq_false hne]; rfl
          have HEE := Lib.hid hE
          clear hE he4 hne
          go_wp2_with fail
          refine (stamp_c (k.toNat : Int) b hbl _).mono ?_
          rintro e w8 ⟨rfl, hb8⟩
          rw [← HT.out]
          have t3 := is_below t3 hb8 (is_lt t3)
          have t4 := only_trans t4 (only_below hb8 q)
          have k0 := is_cell t3 0
          have k1 := is_cell t3 1
          have f0 := is_free t3 0
          have f1 := is_free t3 1
          simp only [List.getElem?_cons_zero, List.getElem?_cons_succ] at k0 k1
          clear hb8 c0 c1
          go_wp2_with fail
          have hI3 : Is _ w.heap.size 32 [.int .i64 0, .string ⟨#[]⟩] := is_set (is_set t3 0 (.int .i64 0)) 1 (.string ⟨#[]⟩)
          have j0 := is_cell hI3 0
          have j1 := is_cell hI3 1
          simp only [List.getElem?_cons_zero, List.getElem?_cons_succ] at j0 j1
          refine bodyPost_ret (v := .tuple #[.agg #[.int .i64 0, .string ⟨#[]⟩], .int .i64 6]) (by simp [results, Try.f31, go_sem, j0, j1]) rfl ?_
          refine ⟨own_set2 t4 (by omega), .inl ⟨by rw [HEE.out]; decide, by rw [HEE.out]⟩⟩
        · have hee4 : (s4.e != 0) = false := by rw [he4]; rfl
          have c0 := is_cell t2 0
          have c1 := is_cell t2 1
          simp only [List.getElem?_cons_zero, List.getElem?_cons_succ] at c0 c1
          have hstr : (!((ba u).toList == (ba T).toList)) = false := by rw [ba_beq, decide_eq_true heq]; rfl
          have HEE := Lib.hid hE
          have HCB := Lib.hid hCb
          have HS5 := Lib.hid hs4
          clear hE he4 heq hCb hs4
          go_wp2_with fail
          refine (stamp_c (k.toNat : Int) b hbl _).mono ?_
          rintro e w8 ⟨rfl, hb8⟩
          rw [← HT.out]
          have t2 := is_below t2 hb8 (is_lt t2)
          have t3 := is_below t3 hb8 (is_lt t3)
          have t4 := only_trans t4 (only_below hb8 q)
          have hr8 := rdr_below hr7 hb8
          have c0 := is_cell t2 0
          have c1 := is_cell t2 1
          have k0 := is_cell t3 0
          have k1 := is_cell t3 1
          have f0 := is_free t3 0
          have f1 := is_free t3 1
          simp only [List.getElem?_cons_zero, List.getElem?_cons_succ] at c0 c1 k0 k1
          clear hb8
          go_wp2_with fail
          have hI3 : Is _ w.heap.size 32 [.int .i64 (k.toNat : Int), .string (ba b)] := is_set (is_set t3 0 (.int .i64 (k.toNat : Int))) 1 (.string (ba b))
          have j0 := is_cell hI3 0
          have j1 := is_cell hI3 1
          simp only [List.getElem?_cons_zero, List.getElem?_cons_succ] at j0 j1
          refine bodyPost_ret (v := .tuple #[.agg #[.int .i64 (k.toNat : Int), .string (ba b)], .int .i64 0]) (by simp [results, Try.f31, go_sem, j0, j1]) rfl ?_
          rw [HS5.out] at hr8
          refine ⟨own_set2 t4 (by omega), .inr ⟨HEE.out, by rw [HCB.out], rdr_set2 hr8 (by omega)⟩⟩
  · have hee : (s.e != 0) = true := by simpa using he
    have hE : cutE k r = s.e := by unfold cutE; rw [← HS.out, if_pos he]
    have HEE := Lib.hid hE
    have HE := Lib.hid he
    clear hE he
    go_wp2_with fail
    have hI3 : Is _ w.heap.size 32 [.int .i64 0, .string ⟨#[]⟩] := is_set (is_set hI2 0 (.int .i64 0)) 1 (.string ⟨#[]⟩)
    have j0 := is_cell hI3 0
    have j1 := is_cell hI3 1
    simp only [List.getElem?_cons_zero, List.getElem?_cons_succ] at j0 j1
    refine bodyPost_ret (v := .tuple #[.agg #[.int .i64 0, .string ⟨#[]⟩], .int .i64 s.e]) (by simp [results, Try.f31, go_sem, j0, j1]) rfl ?_
    refine ⟨own_set2 hg2 (by omega), .inl ⟨by rw [HEE.out]; exact HE.out, by rw [HEE.out]⟩⟩
end Go.Proofs.Ytcbkggjphoeceaa
