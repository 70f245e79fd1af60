/-
  Few texts, none of them long; the contracts of dict at written lengths; what the live answers are.
-/
import Derived.Test.YtiehmeheilfocaaTj
import Derived.Test.YtiehmeheilfocaaEd
namespace Go.Proofs.Ytiehmeheilfocaa
open Go.RowKit Go.IntWalk
open Pk Dc Wd
set_option maxRecDepth 100000
attribute [local go_sem] Oper.semAt_some

/-- few texts, none of them long -/
def fewV (xs : List Tx) (m b : Nat) : Bool := decide (xs.length ≤ m) && xs.all (fun x => decide (x.length ≤ b))
theorem few_true {xs : List Tx} {m b : Nat} (h : fewV xs m b = true) : xs.length ≤ m ∧ ∀ x ∈ xs, x.length ≤ b := by
  simpa [fewV] using h

theorem few_c (A : Option Addr) (cap : Nat) (xs : List Tx) (m b : Nat) (im ib : Int) (him : im = (m : Int)) (hib : ib = (b : Int)) (hm1 : m ≤ 1000) (_hb1 : b ≤ 1000) (_hz : xs.length ≤ maxLen) (hm : ∀ x ∈ xs, x.length ≤ maxLen) (w : World) (hc : At w w.heap.size A (svs xs)) :
    Calls Try.prog 26 #[.slice A xs.length cap, .int .i64 im, .int .i64 ib] w fun e w' => e = .returned (.bool (fewV xs m b)) ∧ w' = w := by
  subst him hib
  have HM := Lib.hid hm
  have HC := Lib.hid hc
  clear hm hc
  have hz := _hz
  clear _hz
  unfold maxLen at hz
  rcases Nat.lt_or_ge m xs.length with h | h
  · have HF : Hid (fewV xs m b = false) := by unfold Hid fewV; simp; omega
    go_enter Try.func26, Try.ntmps26
    go_wp2
    go_ret
    exact ⟨ret_bool HF.out.symm, rfl⟩
  · obtain ⟨F, hF⟩ : ∃ F, F = fewV xs m b := ⟨_, rfl⟩
    rw [← hF]
    have HF := Lib.hid hF
    clear hF hz
    go_enter Try.func26, Try.ntmps26
    go_wp2
    go_loopw [7] (fun i wr => ∃ k : Nat, i = .int .i64 (k : Int) ∧ k ≤ xs.length ∧ (∀ x ∈ xs.take k, x.length ≤ b) ∧ wr = w)
      (fun i _ => xs.length - (intOf i).toNat)
    case atStart => exact ⟨0, rfl, Nat.zero_le _, fun x hx => by simp at hx, rfl⟩
    case round =>
      obtain ⟨k, rfl, hk, hb, rfl⟩ := hrel
      have HB := Lib.hid hb
      clear hb
      by_cases hlt : k < xs.length
      · obtain ⟨x, hxk⟩ := some_at hlt
        obtain ⟨b', off, rfl, hbl, hcell⟩ := HC.out k _ (svs_at hxk)
        have hxm := HM.out x (mem_at hxk)
        have hxs := ba_size x
        unfold maxLen at hxm
        have HXK := Lib.hid hxk
        clear hxk hbl
        by_cases hx2 : x.length ≤ b
        · go_wp2
          go_roundw
          case rel =>
            refine ⟨k + 1, by go_num, by omega, fun y hy => ?_, trivial⟩
            rw [List.take_add_one, HXK.out] at hy
            simp only [Option.toList_some, List.mem_append, List.mem_singleton] at hy
            rcases hy with hy | rfl
            · exact HB.out y hy
            · exact hx2
          case measure => simp only [intOf]; omega
        · go_wp2
          go_ret
          refine ⟨ret_bool ?_, rfl⟩
          rw [HF.out]
          have : ¬ fewV xs m b = true := fun e => hx2 ((few_true e).2 x (mem_at HXK.out))
          simpa using this
      · obtain rfl : k = xs.length := by omega
        go_wp2
        go_ret
        refine ⟨ret_bool ?_, rfl⟩
        rw [HF.out]
        have h2 := HB.out
        rw [List.take_length] at h2
        simp [fewV, h]
        exact h2

theorem words_k {A : Option Addr} {cap n m : Nat} (l V : List Tx) (p : List Nat) (hV : ws [] l = V) (hp : pl [] l = p) (hn : l.length = n) (hm : V.length = m) (hx : n ≤ 100000) (hts : ∀ t ∈ l, t.length ≤ 100000) {w : World} (hc : At w w.heap.size A (svs l)) :
    Calls Try.prog 28 #[.slice A n cap] w fun e w' => ∃ A1 c1 A2 c2, e = .returned (.tuple #[.slice A1 m c1, .slice A2 n c2]) ∧ m ≤ c1 ∧ n ≤ c2 ∧ At w' w'.heap.size A1 (svs V) ∧ At w' w'.heap.size A2 (uvs p) ∧ Below w.heap.size w w' := by
  subst hV; subst hp; subst hn; subst hm
  refine (words_c A cap l hx hts w hc).mono ?_
  rintro e w' ⟨A1, c1, A2, c2, rfl, h1, h2, -, -, ha, hb, hbl⟩
  exact ⟨A1, c1, A2, c2, rfl, h1, h2, ha, hb, hbl⟩
theorem dencode_k {A : Option Addr} {cap n : Nat} (l : List Tx) (s : List UInt8) (hs : encD l = s) (hn : l.length = n) (hx : n ≤ 100000) (hts : ∀ t ∈ l, t.length ≤ 100000) {w : World} (hc : At w w.heap.size A (svs l)) :
    Calls Try.prog 34 #[.slice A n cap] w fun e w' => e = .returned (.string (ba s)) ∧ Below w.heap.size w w' := by
  subst hn; subst hs; exact dencode_c A cap l hx hts w hc
theorem pick_k {A1 A2 : Option Addr} {c1 c2 n m k : Nat} (words : List Tx) (at_ : List Nat) (l : List Tx) (b : Bool) (h : pk words [] at_ = (l, b)) (hn : words.length = n) (hm : at_.length = m) (hk : l.length = k) (hx1 : n ≤ 100000) (hx2 : m ≤ 100000) {w : World} (h1 : At w w.heap.size A1 (svs words)) (h2 : At w w.heap.size A2 (uvs at_)) :
    Calls Try.prog 30 #[.slice A1 n c1, .slice A2 m c2] w fun e w' => ∃ A c, e = .returned (.tuple #[.slice A k c, .bool b]) ∧ At w' w'.heap.size A (svs l) ∧ Below w.heap.size w w' := by
  subst hn; subst hm; subst hk
  refine (pick_c A1 A2 c1 c2 words at_ hx1 hx2 w h1 h2).mono ?_
  rintro e w' ⟨A, c, rfl, -, -, ha, hb⟩
  rw [h] at ha ⊢
  exact ⟨A, c, rfl, ha, hb⟩
theorem may8_k {A1 A2 : Option Addr} {c1 c2 n m : Nat} (words : List Tx) (at_ : List Nat) (b : Bool) (h : mayW words at_ = b) (hn : words.length = n) (hm : at_.length = m) (hx1 : n ≤ 100000) (hx2 : m ≤ 100000) (hts : ∀ t ∈ words, t.length ≤ 100000) {w : World} (h1 : At w w.heap.size A1 (svs words)) (h2 : At w w.heap.size A2 (uvs at_)) :
    Calls Try.prog 36 #[.slice A1 n c1, .slice A2 m c2] w fun e w' => e = .returned (.bool b) ∧ Below w.heap.size w w' := by
  subst hn; subst hm; subst h
  exact mayD_c A1 A2 c1 c2 words at_ hx1 hx2 hts w h1 h2
theorem ddecode_k (l : List UInt8) (n most : Int) (ys : List Tx) (x : Int) (k : Nat) (h : decD l n most = (ys, x)) (hk : ys.length = k) (hn1 : -9223372036854775808 ≤ n) (hn2 : n ≤ 9223372036854775807) (hm : most ≤ 9223372036854775807) (hl : l.length ≤ 100000) (w : World) :
    Calls Try.prog 38 #[.string (ba l), .int .i64 n, .int .i64 most] w fun e w' => ∃ A c, e = .returned (.tuple #[.slice A k c, .int .i64 x]) ∧ At w' w'.heap.size A (svs ys) ∧ Below w.heap.size w w' := by
  subst hk
  refine (ddecode_c l n most hn1 hn2 hm hl w).mono ?_
  rintro e w' ⟨A, c, rfl, -, -, ha, hb⟩
  rw [h] at ha ⊢
  exact ⟨A, c, rfl, ha, hb⟩

/-- words that are put, and anything behind them -/
theorem decD_of {W : List Tx} {R : List UInt8} {n : Nat} {most : Int} (hn : n ≤ 4096) (hW : W.length ≤ n) (hs : ∀ t ∈ W, t.length < 18446744073709551616) (hg : ∀ t ∈ W, Good most t) :
    decD (put W.length ++ (enc4 W ++ R)) n most = if (decU R n).2 ≠ 0 then ([], (decU R n).2) else if mayW W (decU R n).1 = true then ((pk W [] (decU R n).1).1, 0) else ([], 5) := by
  obtain ⟨L, hL⟩ : ∃ L, L = put W.length ++ (enc4 W ++ R) := ⟨_, rfl⟩
  obtain ⟨n1, n2⟩ := num_put (n := W.length) (by omega) (enc4 W ++ R)
  rw [← hL] at n1 n2 ⊢
  have e1 : L.drop (put W.length).length = enc4 W ++ R := by rw [hL]; exact List.drop_left
  have e2 : (put W.length).length ≤ L.length := by rw [hL, List.length_append]; omega
  have e3 : L.length - (enc4 W ++ R).length = (put W.length).length := by rw [hL, List.length_append]; omega
  have e4 : L.drop (L.length - R.length) = R := by
    have : L.length - R.length = (put W.length ++ enc4 W).length := by rw [hL, List.length_append, List.length_append, List.length_append]; omega
    rw [this, hL, ← List.append_assoc]; exact List.drop_left
  have hk := tks_enc (l := L) (most := most) W _ [] R e2 e1 hs hg
  have ht : tkW L n most = ([] ++ W, ((L.length - R.length : Nat) : Int), 0) := by
    rw [tkW, n1, n2, if_neg (by simp), if_neg (by omega)]
    dsimp only
    rw [e3, hk]
  rw [decD_in hn, ht, decT, if_neg (by simp)]
  dsimp only
  rw [Int.toNat_natCast, e4, List.nil_append]

namespace live8
theorem va : valid [97] = true := by rw [valid_iff, ends, dif_pos (by decide)]; exact (by rw [show ([97] : List UInt8).drop (sgn [97]) = [] from rfl, ends_nil]; rfl)
theorem vb : valid [98] = true := by rw [valid_iff, ends, dif_pos (by decide)]; exact (by rw [show ([98] : List UInt8).drop (sgn [98]) = [] from rfl, ends_nil]; rfl)
theorem w1 : ws [] [[98], [97], [98]] = [[98], [97]] := by decide +kernel
theorem p1 : pl [] [[98], [97], [98]] = [0, 1, 0] := by decide +kernel
theorem q1 : put 1 = [1] := by rw [put_lo (by omega)]; rfl
theorem q2 : put 2 = [2] := by rw [put_lo (by omega)]; rfl
theorem q0 : put 0 = [0] := by rw [put_lo (by omega)]; rfl
theorem u1 : encU [0, 1, 0] = [0, 1, 1, 1, 0, 1] := by
  have : runsL [0, 1, 0] = [(0, 1), (1, 1), (0, 1)] := rfl
  unfold encU
  rw [this, encR_cons, encR_cons, encR_cons, encR_nil, show (1 : Int).toNat = 1 from rfl, q0, q1]
  rfl
theorem e1 : encD [[98], [97], [98]] = [2, 1, 98, 1, 97, 0, 1, 1, 1, 0, 1] := by
  unfold encD
  rw [w1, p1, u1, enc4, enc4, enc4, show ([[98], [97]] : List Tx).length = 2 from rfl, show ([98] : Tx).length = 1 from rfl, show ([97] : Tx).length = 1 from rfl, q1, q2]
  rfl
theorem hs : ∀ t ∈ ([[98], [97], [98]] : List Tx), t.length < 18446744073709551616 := by decide
theorem hg : ∀ t ∈ ([[98], [97], [98]] : List Tx), Good 9 t := fun t ht => by
  simp at ht; rcases ht with rfl | rfl | rfl <;> exact ⟨by first | exact va | exact vb, by decide⟩
theorem d3 : decD [2, 1, 98, 1, 97, 0, 1, 1, 1, 0, 1] 3 9 = ([[98], [97], [98]], 0) := by
  have := decD_enc (l := [[98], [97], [98]]) (most := 9) (by decide) hs hg
  rw [e1] at this
  exact this
theorem b2 : put ([[98], [97]] : List Tx).length ++ (enc4 [[98], [97]] ++ [0, 1, 1, 1, 0, 1]) = [2, 1, 98, 1, 97, 0, 1, 1, 1, 0, 1] := by
  rw [enc4, enc4, enc4, show ([[98], [97]] : List Tx).length = 2 from rfl, show ([98] : Tx).length = 1 from rfl, show ([97] : Tx).length = 1 from rfl, q1, q2]
  rfl
theorem d2 : decD [2, 1, 98, 1, 97, 0, 1, 1, 1, 0, 1] 2 9 = ([], 5) := by
  have := decD_of (W := [[98], [97]]) (R := [0, 1, 1, 1, 0, 1]) (n := 2) (most := 9) (by decide) (by decide) (by decide) (fun t ht => by simp at ht; rcases ht with rfl | rfl; exact ⟨vb, by decide⟩; exact ⟨va, by decide⟩)
  rw [b2] at this
  rw [show (2 : Int) = ((2 : Nat) : Int) from rfl, this]
  rfl
theorem d1 : decD [1, 1, 97, 1, 1] 1 9 = ([], 5) := by
  have := decD_of (W := [[97]]) (R := [1, 1]) (n := 1) (most := 9) (by decide) (by decide) (by decide) (fun t ht => by simp at ht; rw [ht]; exact ⟨va, by decide⟩)
  rw [enc4, enc4, show ([[97]] : List Tx).length = 1 from rfl, show ([97] : Tx).length = 1 from rfl, q1] at this
  rw [show (1 : Int) = ((1 : Nat) : Int) from rfl]
  refine Eq.trans this ?_
  have h1 : decU [1, 1] ((1 : Nat) : Int) = ([1], 0) := rfl
  rw [h1, if_neg (by simp), if_neg (by decide +kernel)]
theorem de : decD [2, 1, 97, 1, 97, 0, 1, 1, 1] 2 9 = ([], 5) := by
  have := decD_of (W := [[97], [97]]) (R := [0, 1, 1, 1]) (n := 2) (most := 9) (by decide) (by decide) (by decide) (fun t ht => by simp at ht; rw [ht]; exact ⟨va, by decide⟩)
  rw [enc4, enc4, enc4, show ([[97], [97]] : List Tx).length = 2 from rfl, show ([97] : Tx).length = 1 from rfl, q1, q2] at this
  rw [show (2 : Int) = ((2 : Nat) : Int) from rfl]
  refine Eq.trans this ?_
  have h1 : decU [0, 1, 1, 1] ((2 : Nat) : Int) = ([0, 1], 0) := rfl
  rw [h1, if_neg (by simp), if_neg (by decide +kernel)]
theorem d0 : decD [2, 1, 98, 1, 97, 0, 1, 1, 1, 0, 1] 3 0 = ([], 10) := by
  have h := decD_bad (l := [[98], [97], [98]]) (most := 0) (by decide) hs (fun h => by have := (h [98] (by simp)).2; simp at this)
  rw [e1] at h
  have h2 : (decD [2, 1, 98, 1, 97, 0, 1, 1, 1, 0, 1] 3 0).2 = 10 := by
    rcases h with ⟨h, _⟩ | ⟨_, t, ht, hv⟩
    · exact h
    · simp at ht; rcases ht with rfl | rfl | rfl; exact absurd vb hv; exact absurd va hv; exact absurd vb hv
  refine Prod.ext (decD_err (by rw [h2]; decide)) h2
theorem k1 : pk [[98], [97]] [] [1, 1] = ([[97], [97]], true) := rfl
theorem k2 : pk [[98], [97]] [] [2] = ([], false) := rfl
theorem m1 : mayW [[98], [97]] [0, 1, 0] = true := by decide +kernel
theorem m0 : mayW [[98], [97]] [1, 0] = false := by decide +kernel
theorem ht : ∀ t ∈ ([[98], [97], [98]] : List Tx), t.length ≤ 100000 := by decide
theorem hw : ∀ t ∈ ([[98], [97]] : List Tx), t.length ≤ 100000 := by decide
end live8
end Go.Proofs.Ytiehmeheilfocaa
