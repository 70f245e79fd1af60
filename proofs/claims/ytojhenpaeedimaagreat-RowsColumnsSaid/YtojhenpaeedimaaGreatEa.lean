/-
 Contract of word.signs: how many bytes are signs, one behind the other, and how many signs.
-/
import Derived.Test.YtojhenpaeedimaaGreatBc
import Derived.Test.YtojhenpaeedimaaGreatMd
import Derived.WalkMore
import Derived.Deep.LoopGhost
namespace Go.Proofs.YtojhenpaeedimaaGreat
open Go.RowKit
open Wd
set_option maxRecDepth 100000
theorem ret_two {a b c d : Int} (h : a = c) (h' : b = d) : Ending.returned (.tuple #[.int .i64 a, .int .i64 b]) = .returned (.tuple #[.int .i64 c, .int .i64 d]) := by rw [h, h']
theorem head_drop {l : List UInt8} {k : Nat} {b : UInt8} (h : l[k]? = some b) : (l.drop k)[0]? = some b := by rw [List.getElem?_drop]; exact h
theorem chk_out {l : List UInt8} {k j m lo hi : Nat} (h : l.length ≤ k + j) : chk (l.drop k) lo hi j (m + 1) = false := by
 have : inr (l.drop k) j lo hi = false := inr_none (by rw [List.getElem?_drop]; exact List.getElem?_eq_none h)
 simp [chk, this]
theorem chk_off {l : List UInt8} {k j m lo hi : Nat} {c : UInt8} (h : l[k + j]? = some c) (hc : c.toNat < lo ∨ hi < c.toNat) : chk (l.drop k) lo hi j (m + 1) = false := by
 have : inr (l.drop k) j lo hi = false := by
  rw [inr_some (b := c) (by rw [List.getElem?_drop]; exact h), Bool.and_eq_false_iff, decide_eq_false_iff_not, decide_eq_false_iff_not]
  omega
 simp [chk, this]
theorem chk_on {l : List UInt8} {k j m lo hi : Nat} {c : UInt8} (h : l[k + j]? = some c) (h1 : lo ≤ c.toNat) (h2 : c.toNat ≤ hi) : chk (l.drop k) lo hi j (m + 1) = chk (l.drop k) 128 191 (j + 1) m := by
 have : inr (l.drop k) j lo hi = true := inr_iff.2 ⟨c, by rw [List.getElem?_drop]; exact h, h1, h2⟩
 simp [chk, this]
set_option maxHeartbeats 8000000 in
theorem signs_c (l : List UInt8) (hl : l.length ≤ 140737488351232) (w : World) :
  Calls Tryz.prog 226 #[.string (ba l)] w fun e w' => e = .returned (.tuple #[.int .i64 (ends l : Int), .int .i64 (cnt l : Int)]) ∧ w = w' := by
 have hs := ba_size l
 go_enter Tryz.func226, Tryz.ntmps226
 go_wp2
 go_step3
 go_wp2
 go_step3
 go_wp2
 go_loopg [2, 3] l.length (fun g e c wr => ∃ k n : Nat, e = .int .i64 (k : Int) ∧ c = .int .i64 (n : Int) ∧ k + g = l.length ∧ n ≤ k ∧ k + ends (l.drop k) = ends l ∧ n + cnt (l.drop k) = cnt l ∧ w = wr)
 case atStart => exact ⟨0, 0, rfl, rfl, by omega, by omega, by simp, by simp, rfl⟩
 case round =>
  obtain ⟨k, n, rfl, rfl, hkg, hnk, he, hc, rfl⟩ := hrel
  have HE := Lib.hid he
  have HC := Lib.hid hc
  clear he hc
  by_cases hlt : k < l.length
  ·obtain ⟨b, hb⟩ : ∃ b, l[k]? = some b := ⟨_, List.getElem?_eq_getElem hlt⟩
   have hix := index_ba hb (k : Int) rfl
   have HB := Lib.hid (head_drop hb)
   have hbb := b.toNat_lt
   clear hb
   have hcase : b.toNat ≤ 127 ∨ (128 ≤ b.toNat ∧ b.toNat ≤ 193) ∨ 245 ≤ b.toNat ∨ (194 ≤ b.toNat ∧ b.toNat ≤ 223) ∨ (224 ≤ b.toNat ∧ b.toNat ≤ 224) ∨ (237 ≤ b.toNat ∧ b.toNat ≤ 237) ∨ (225 ≤ b.toNat ∧ b.toNat ≤ 236) ∨ (238 ≤ b.toNat ∧ b.toNat ≤ 239) ∨ (240 ≤ b.toNat ∧ b.toNat ≤ 240) ∨ (241 ≤ b.toNat ∧ b.toNat ≤ 243) ∨ (244 ≤ b.toNat ∧ b.toNat ≤ 244) := by omega
   rcases hcase with h1 | ⟨h1, h2⟩ | h1 | ⟨h1, h2⟩ | ⟨h1, h2⟩ | ⟨h1, h2⟩ | ⟨h1, h2⟩ | ⟨h1, h2⟩ | ⟨h1, h2⟩ | ⟨h1, h2⟩ | ⟨h1, h2⟩
   ·obtain ⟨e1, e2⟩ := ends_step (sgn_ascii HB.out h1) (by omega)
    rw [List.drop_drop] at e1 e2
    have X := Lib.hid (And.intro e1 e2)
    clear e1 e2
    go_wp2
    go_roundg (gk - 1)
    case measure => omega
    case rel =>
     have a1 := HE.out
     have a2 := HC.out
     rw [X.out.1] at a1
     rw [X.out.2] at a2
     exact ⟨k + 1, n + 1, by go_num, by go_num, by omega, by omega, by omega, by omega, rfl⟩
   ·have X := Lib.hid (ends_stop (sgn_bad HB.out (.inl ⟨h1, h2⟩)))
    go_wp2
    try rw [Exit.noGoto_ret]
    go_ret2
    have a1 := HE.out
    have a2 := HC.out
    rw [X.out.1] at a1
    rw [X.out.2] at a2
    exact ⟨ret_two (by omega) (by omega), rfl⟩
   ·have X := Lib.hid (ends_stop (sgn_bad HB.out (.inr h1)))
    go_wp2
    try rw [Exit.noGoto_ret]
    go_ret2
    have a1 := HE.out
    have a2 := HC.out
    rw [X.out.1] at a1
    rw [X.out.2] at a2
    exact ⟨ret_two (by omega) (by omega), rfl⟩
   ·have hsg := sgn_lead HB.out (more := 1) (lo := 128) (hi := 191) (.inl ⟨h1, h2, rfl, rfl, rfl⟩)
    have HSG := Lib.hid hsg
    clear hsg
    have t1 : ((b.toNat : Int) == 224) = false := by simp; omega
    have t2 : ((b.toNat : Int) == 237) = false := by simp; omega
    have t3 : ((b.toNat : Int) == 240) = false := by simp; omega
    have t4 : ((b.toNat : Int) == 244) = false := by simp; omega
    have t5 : decide ((b.toNat : Int) ≤ 127) = false := by simp; omega
    have t6 : decide ((b.toNat : Int) ≤ 223) = true := by simp; omega
    have t7 : decide ((b.toNat : Int) ≤ 239) = true := by simp; omega
    have t8 : decide ((b.toNat : Int) ≤ 243) = true := by simp; omega
    have t9 : decide ((194 : Int) ≤ (b.toNat : Int)) = true := by simp; omega
    have t10 : decide ((225 : Int) ≤ (b.toNat : Int)) = false := by simp; omega
    have t11 : decide ((241 : Int) ≤ (b.toNat : Int)) = false := by simp; omega
    clear h1 h2
    go_wp2
    clear hbb hix
    go_loopg [8, 4, 5] 1 (fun g2 i lw hw wr => ∃ j lo hi : Nat, i = .int .i64 ((k : Int) + (j : Int)) ∧ lw = .int .u8 (lo : Int) ∧ hw = .int .u8 (hi : Int) ∧ j + g2 = 1 + 1 ∧ 1 ≤ j ∧ k + j ≤ l.length ∧ lo ≤ 255 ∧ hi ≤ 255 ∧ chk (l.drop k) lo hi j g2 = chk (l.drop k) 128 191 1 1 ∧ w = wr)
    case atStart => exact ⟨1, 128, 191, rfl, rfl, rfl, rfl, by omega, by omega, by omega, by omega, rfl, rfl⟩
    case round =>
     obtain ⟨j, lo, hi, rfl, rfl, rfl, hjg, hj1, hkj, hlo, hhi, hch, rfl⟩ := hrel
     have HCH := Lib.hid hch
     clear hch
     cases gk with
     | zero =>
      have hsg := HSG.out
      rw [← HCH.out, show chk (l.drop k) lo hi j 0 = true from rfl, if_pos rfl] at hsg
      obtain ⟨e1, e2⟩ := ends_step hsg (by omega)
      rw [List.drop_drop] at e1 e2
      have X := Lib.hid (And.intro e1 e2)
      have hd := (sgn_le (l.drop k)).1
      rw [hsg, List.length_drop] at hd
      clear e1 e2 hsg
      go_wp2
      go_roundg (l.length - (k + (1 + 1)))
      case measure => omega
      case rel =>
       have a1 := HE.out
       have a2 := HC.out
       rw [X.out.1] at a1
       rw [X.out.2] at a2
       exact ⟨k + (1 + 1), n + 1, by go_num, by go_num, by omega, by omega, by omega, by omega, rfl⟩
     | succ m =>
      by_cases hin : k + j < l.length
      ·obtain ⟨c, hc⟩ : ∃ c, l[k + j]? = some c := ⟨_, List.getElem?_eq_getElem hin⟩
       have hix2 := index_ba hc ((k : Int) + (j : Int)) (by omega)
       have hcc := c.toNat_lt
       have hend : ((k : Int) + (j : Int) == (l.length : Int)) = false := by simp; omega
       have HCJ := Lib.hid hc
       clear hc
       by_cases hoff : c.toNat < lo ∨ hi < c.toNat
       ·have hsg := HSG.out
        rw [← HCH.out, chk_off HCJ.out hoff] at hsg
        have X := Lib.hid (ends_stop hsg)
        clear hsg
        rcases hoff with h3 | h3
        all_goals
         go_wp2
         all_goals
          try rw [Exit.noGoto_ret]
          go_ret2
          have a1 := HE.out
          have a2 := HC.out
          rw [X.out.1] at a1
          rw [X.out.2] at a2
          exact ⟨ret_two (by omega) (by omega), rfl⟩
       ·have h3 : lo ≤ c.toNat := by omega
        have h4 : c.toNat ≤ hi := by omega
        clear hoff
        go_wp2
        go_roundg m
        case measure => omega
        case rel => exact ⟨j + 1, 128, 191, by go_num, rfl, rfl, by omega, by omega, by omega, by omega, by omega, by rw [← chk_on HCJ.out h3 h4, HCH.out], rfl⟩
      ·have hsg := HSG.out
       rw [← HCH.out, chk_out (by omega)] at hsg
       have X := Lib.hid (ends_stop hsg)
       have hend : ((k : Int) + (j : Int) == (l.length : Int)) = true := by simp; omega
       clear hsg
       go_wp2
       try rw [Exit.noGoto_ret]
       go_ret2
       have a1 := HE.out
       have a2 := HC.out
       rw [X.out.1] at a1
       rw [X.out.2] at a2
       exact ⟨ret_two (by omega) (by omega), rfl⟩
   ·have hsg := sgn_lead HB.out (more := 2) (lo := 160) (hi := 191) (.inr (.inl ⟨by omega, rfl, rfl, rfl⟩))
    have HSG := Lib.hid hsg
    clear hsg
    have t1 : ((b.toNat : Int) == 224) = true := by simp; omega
    have t2 : ((b.toNat : Int) == 237) = false := by simp; omega
    have t3 : ((b.toNat : Int) == 240) = false := by simp; omega
    have t4 : ((b.toNat : Int) == 244) = false := by simp; omega
    have t5 : decide ((b.toNat : Int) ≤ 127) = false := by simp; omega
    have t6 : decide ((b.toNat : Int) ≤ 223) = false := by simp; omega
    have t7 : decide ((b.toNat : Int) ≤ 239) = true := by simp; omega
    have t8 : decide ((b.toNat : Int) ≤ 243) = true := by simp; omega
    have t9 : decide ((194 : Int) ≤ (b.toNat : Int)) = true := by simp; omega
    have t10 : decide ((225 : Int) ≤ (b.toNat : Int)) = false := by simp; omega
    have t11 : decide ((241 : Int) ≤ (b.toNat : Int)) = false := by simp; omega
    clear h1 h2
    go_wp2
    clear hbb hix
    go_loopg [8, 4, 5] 2 (fun g2 i lw hw wr => ∃ j lo hi : Nat, i = .int .i64 ((k : Int) + (j : Int)) ∧ lw = .int .u8 (lo : Int) ∧ hw = .int .u8 (hi : Int) ∧ j + g2 = 2 + 1 ∧ 1 ≤ j ∧ k + j ≤ l.length ∧ lo ≤ 255 ∧ hi ≤ 255 ∧ chk (l.drop k) lo hi j g2 = chk (l.drop k) 160 191 1 2 ∧ w = wr)
    case atStart => exact ⟨1, 160, 191, rfl, rfl, rfl, rfl, by omega, by omega, by omega, by omega, rfl, rfl⟩
    case round =>
     obtain ⟨j, lo, hi, rfl, rfl, rfl, hjg, hj1, hkj, hlo, hhi, hch, rfl⟩ := hrel
     have HCH := Lib.hid hch
     clear hch
     cases gk with
     | zero =>
      have hsg := HSG.out
      rw [← HCH.out, show chk (l.drop k) lo hi j 0 = true from rfl, if_pos rfl] at hsg
      obtain ⟨e1, e2⟩ := ends_step hsg (by omega)
      rw [List.drop_drop] at e1 e2
      have X := Lib.hid (And.intro e1 e2)
      have hd := (sgn_le (l.drop k)).1
      rw [hsg, List.length_drop] at hd
      clear e1 e2 hsg
      go_wp2
      go_roundg (l.length - (k + (2 + 1)))
      case measure => omega
      case rel =>
       have a1 := HE.out
       have a2 := HC.out
       rw [X.out.1] at a1
       rw [X.out.2] at a2
       exact ⟨k + (2 + 1), n + 1, by go_num, by go_num, by omega, by omega, by omega, by omega, rfl⟩
     | succ m =>
      by_cases hin : k + j < l.length
      ·obtain ⟨c, hc⟩ : ∃ c, l[k + j]? = some c := ⟨_, List.getElem?_eq_getElem hin⟩
       have hix2 := index_ba hc ((k : Int) + (j : Int)) (by omega)
       have hcc := c.toNat_lt
       have hend : ((k : Int) + (j : Int) == (l.length : Int)) = false := by simp; omega
       have HCJ := Lib.hid hc
       clear hc
       by_cases hoff : c.toNat < lo ∨ hi < c.toNat
       ·have hsg := HSG.out
        rw [← HCH.out, chk_off HCJ.out hoff] at hsg
        have X := Lib.hid (ends_stop hsg)
        clear hsg
        rcases hoff with h3 | h3
        all_goals
         go_wp2
         all_goals
          try rw [Exit.noGoto_ret]
          go_ret2
          have a1 := HE.out
          have a2 := HC.out
          rw [X.out.1] at a1
          rw [X.out.2] at a2
          exact ⟨ret_two (by omega) (by omega), rfl⟩
       ·have h3 : lo ≤ c.toNat := by omega
        have h4 : c.toNat ≤ hi := by omega
        clear hoff
        go_wp2
        go_roundg m
        case measure => omega
        case rel => exact ⟨j + 1, 128, 191, by go_num, rfl, rfl, by omega, by omega, by omega, by omega, by omega, by rw [← chk_on HCJ.out h3 h4, HCH.out], rfl⟩
      ·have hsg := HSG.out
       rw [← HCH.out, chk_out (by omega)] at hsg
       have X := Lib.hid (ends_stop hsg)
       have hend : ((k : Int) + (j : Int) == (l.length : Int)) = true := by simp; omega
       clear hsg
       go_wp2
       try rw [Exit.noGoto_ret]
       go_ret2
       have a1 := HE.out
       have a2 := HC.out
       rw [X.out.1] at a1
       rw [X.out.2] at a2
       exact ⟨ret_two (by omega) (by omega), rfl⟩
   ·have hsg := sgn_lead HB.out (more := 2) (lo := 128) (hi := 159) (.inr (.inr (.inl ⟨by omega, rfl, rfl, rfl⟩)))
    have HSG := Lib.hid hsg
    clear hsg
    have t1 : ((b.toNat : Int) == 224) = false := by simp; omega
    have t2 : ((b.toNat : Int) == 237) = true := by simp; omega
    have t3 : ((b.toNat : Int) == 240) = false := by simp; omega
    have t4 : ((b.toNat : Int) == 244) = false := by simp; omega
    have t5 : decide ((b.toNat : Int) ≤ 127) = false := by simp; omega
    have t6 : decide ((b.toNat : Int) ≤ 223) = false := by simp; omega
    have t7 : decide ((b.toNat : Int) ≤ 239) = true := by simp; omega
    have t8 : decide ((b.toNat : Int) ≤ 243) = true := by simp; omega
    have t9 : decide ((194 : Int) ≤ (b.toNat : Int)) = true := by simp; omega
    have t10 : decide ((225 : Int) ≤ (b.toNat : Int)) = true := by simp; omega
    have t11 : decide ((241 : Int) ≤ (b.toNat : Int)) = false := by simp; omega
    clear h1 h2
    go_wp2
    clear hbb hix
    go_loopg [8, 4, 5] 2 (fun g2 i lw hw wr => ∃ j lo hi : Nat, i = .int .i64 ((k : Int) + (j : Int)) ∧ lw = .int .u8 (lo : Int) ∧ hw = .int .u8 (hi : Int) ∧ j + g2 = 2 + 1 ∧ 1 ≤ j ∧ k + j ≤ l.length ∧ lo ≤ 255 ∧ hi ≤ 255 ∧ chk (l.drop k) lo hi j g2 = chk (l.drop k) 128 159 1 2 ∧ w = wr)
    case atStart => exact ⟨1, 128, 159, rfl, rfl, rfl, rfl, by omega, by omega, by omega, by omega, rfl, rfl⟩
    case round =>
     obtain ⟨j, lo, hi, rfl, rfl, rfl, hjg, hj1, hkj, hlo, hhi, hch, rfl⟩ := hrel
     have HCH := Lib.hid hch
     clear hch
     cases gk with
     | zero =>
      have hsg := HSG.out
      rw [← HCH.out, show chk (l.drop k) lo hi j 0 = true from rfl, if_pos rfl] at hsg
      obtain ⟨e1, e2⟩ := ends_step hsg (by omega)
      rw [List.drop_drop] at e1 e2
      have X := Lib.hid (And.intro e1 e2)
      have hd := (sgn_le (l.drop k)).1
      rw [hsg, List.length_drop] at hd
      clear e1 e2 hsg
      go_wp2
      go_roundg (l.length - (k + (2 + 1)))
      case measure => omega
      case rel =>
       have a1 := HE.out
       have a2 := HC.out
       rw [X.out.1] at a1
       rw [X.out.2] at a2
       exact ⟨k + (2 + 1), n + 1, by go_num, by go_num, by omega, by omega, by omega, by omega, rfl⟩
     | succ m =>
      by_cases hin : k + j < l.length
      ·obtain ⟨c, hc⟩ : ∃ c, l[k + j]? = some c := ⟨_, List.getElem?_eq_getElem hin⟩
       have hix2 := index_ba hc ((k : Int) + (j : Int)) (by omega)
       have hcc := c.toNat_lt
       have hend : ((k : Int) + (j : Int) == (l.length : Int)) = false := by simp; omega
       have HCJ := Lib.hid hc
       clear hc
       by_cases hoff : c.toNat < lo ∨ hi < c.toNat
       ·have hsg := HSG.out
        rw [← HCH.out, chk_off HCJ.out hoff] at hsg
        have X := Lib.hid (ends_stop hsg)
        clear hsg
        rcases hoff with h3 | h3
        all_goals
         go_wp2
         all_goals
          try rw [Exit.noGoto_ret]
          go_ret2
          have a1 := HE.out
          have a2 := HC.out
          rw [X.out.1] at a1
          rw [X.out.2] at a2
          exact ⟨ret_two (by omega) (by omega), rfl⟩
       ·have h3 : lo ≤ c.toNat := by omega
        have h4 : c.toNat ≤ hi := by omega
        clear hoff
        go_wp2
        go_roundg m
        case measure => omega
        case rel => exact ⟨j + 1, 128, 191, by go_num, rfl, rfl, by omega, by omega, by omega, by omega, by omega, by rw [← chk_on HCJ.out h3 h4, HCH.out], rfl⟩
      ·have hsg := HSG.out
       rw [← HCH.out, chk_out (by omega)] at hsg
       have X := Lib.hid (ends_stop hsg)
       have hend : ((k : Int) + (j : Int) == (l.length : Int)) = true := by simp; omega
       clear hsg
       go_wp2
       try rw [Exit.noGoto_ret]
       go_ret2
       have a1 := HE.out
       have a2 := HC.out
       rw [X.out.1] at a1
       rw [X.out.2] at a2
       exact ⟨ret_two (by omega) (by omega), rfl⟩
   ·have hsg := sgn_lead HB.out (more := 2) (lo := 128) (hi := 191) (.inr (.inr (.inr (.inl ⟨by omega, by omega, by omega, rfl, rfl, rfl⟩))))
    have HSG := Lib.hid hsg
    clear hsg
    have t1 : ((b.toNat : Int) == 224) = false := by simp; omega
    have t2 : ((b.toNat : Int) == 237) = false := by simp; omega
    have t3 : ((b.toNat : Int) == 240) = false := by simp; omega
    have t4 : ((b.toNat : Int) == 244) = false := by simp; omega
    have t5 : decide ((b.toNat : Int) ≤ 127) = false := by simp; omega
    have t6 : decide ((b.toNat : Int) ≤ 223) = false := by simp; omega
    have t7 : decide ((b.toNat : Int) ≤ 239) = true := by simp; omega
    have t8 : decide ((b.toNat : Int) ≤ 243) = true := by simp; omega
    have t9 : decide ((194 : Int) ≤ (b.toNat : Int)) = true := by simp; omega
    have t10 : decide ((225 : Int) ≤ (b.toNat : Int)) = true := by simp; omega
    have t11 : decide ((241 : Int) ≤ (b.toNat : Int)) = false := by simp; omega
    clear h1 h2
    go_wp2
    clear hbb hix
    go_loopg [8, 4, 5] 2 (fun g2 i lw hw wr => ∃ j lo hi : Nat, i = .int .i64 ((k : Int) + (j : Int)) ∧ lw = .int .u8 (lo : Int) ∧ hw = .int .u8 (hi : Int) ∧ j + g2 = 2 + 1 ∧ 1 ≤ j ∧ k + j ≤ l.length ∧ lo ≤ 255 ∧ hi ≤ 255 ∧ chk (l.drop k) lo hi j g2 = chk (l.drop k) 128 191 1 2 ∧ w = wr)
    case atStart => exact ⟨1, 128, 191, rfl, rfl, rfl, rfl, by omega, by omega, by omega, by omega, rfl, rfl⟩
    case round =>
     obtain ⟨j, lo, hi, rfl, rfl, rfl, hjg, hj1, hkj, hlo, hhi, hch, rfl⟩ := hrel
     have HCH := Lib.hid hch
     clear hch
     cases gk with
     | zero =>
      have hsg := HSG.out
      rw [← HCH.out, show chk (l.drop k) lo hi j 0 = true from rfl, if_pos rfl] at hsg
      obtain ⟨e1, e2⟩ := ends_step hsg (by omega)
      rw [List.drop_drop] at e1 e2
      have X := Lib.hid (And.intro e1 e2)
      have hd := (sgn_le (l.drop k)).1
      rw [hsg, List.length_drop] at hd
      clear e1 e2 hsg
      go_wp2
      go_roundg (l.length - (k + (2 + 1)))
      case measure => omega
      case rel =>
       have a1 := HE.out
       have a2 := HC.out
       rw [X.out.1] at a1
       rw [X.out.2] at a2
       exact ⟨k + (2 + 1), n + 1, by go_num, by go_num, by omega, by omega, by omega, by omega, rfl⟩
     | succ m =>
      by_cases hin : k + j < l.length
      ·obtain ⟨c, hc⟩ : ∃ c, l[k + j]? = some c := ⟨_, List.getElem?_eq_getElem hin⟩
       have hix2 := index_ba hc ((k : Int) + (j : Int)) (by omega)
       have hcc := c.toNat_lt
       have hend : ((k : Int) + (j : Int) == (l.length : Int)) = false := by simp; omega
       have HCJ := Lib.hid hc
       clear hc
       by_cases hoff : c.toNat < lo ∨ hi < c.toNat
       ·have hsg := HSG.out
        rw [← HCH.out, chk_off HCJ.out hoff] at hsg
        have X := Lib.hid (ends_stop hsg)
        clear hsg
        rcases hoff with h3 | h3
        all_goals
         go_wp2
         all_goals
          try rw [Exit.noGoto_ret]
          go_ret2
          have a1 := HE.out
          have a2 := HC.out
          rw [X.out.1] at a1
          rw [X.out.2] at a2
          exact ⟨ret_two (by omega) (by omega), rfl⟩
       ·have h3 : lo ≤ c.toNat := by omega
        have h4 : c.toNat ≤ hi := by omega
        clear hoff
        go_wp2
        go_roundg m
        case measure => omega
        case rel => exact ⟨j + 1, 128, 191, by go_num, rfl, rfl, by omega, by omega, by omega, by omega, by omega, by rw [← chk_on HCJ.out h3 h4, HCH.out], rfl⟩
      ·have hsg := HSG.out
       rw [← HCH.out, chk_out (by omega)] at hsg
       have X := Lib.hid (ends_stop hsg)
       have hend : ((k : Int) + (j : Int) == (l.length : Int)) = true := by simp; omega
       clear hsg
       go_wp2
       try rw [Exit.noGoto_ret]
       go_ret2
       have a1 := HE.out
       have a2 := HC.out
       rw [X.out.1] at a1
       rw [X.out.2] at a2
       exact ⟨ret_two (by omega) (by omega), rfl⟩
   ·have hsg := sgn_lead HB.out (more := 2) (lo := 128) (hi := 191) (.inr (.inr (.inr (.inl ⟨by omega, by omega, by omega, rfl, rfl, rfl⟩))))
    have HSG := Lib.hid hsg
    clear hsg
    have t1 : ((b.toNat : Int) == 224) = false := by simp; omega
    have t2 : ((b.toNat : Int) == 237) = false := by simp; omega
    have t3 : ((b.toNat : Int) == 240) = false := by simp; omega
    have t4 : ((b.toNat : Int) == 244) = false := by simp; omega
    have t5 : decide ((b.toNat : Int) ≤ 127) = false := by simp; omega
    have t6 : decide ((b.toNat : Int) ≤ 223) = false := by simp; omega
    have t7 : decide ((b.toNat : Int) ≤ 239) = true := by simp; omega
    have t8 : decide ((b.toNat : Int) ≤ 243) = true := by simp; omega
    have t9 : decide ((194 : Int) ≤ (b.toNat : Int)) = true := by simp; omega
    have t10 : decide ((225 : Int) ≤ (b.toNat : Int)) = true := by simp; omega
    have t11 : decide ((241 : Int) ≤ (b.toNat : Int)) = false := by simp; omega
    clear h1 h2
    go_wp2
    clear hbb hix
    go_loopg [8, 4, 5] 2 (fun g2 i lw hw wr => ∃ j lo hi : Nat, i = .int .i64 ((k : Int) + (j : Int)) ∧ lw = .int .u8 (lo : Int) ∧ hw = .int .u8 (hi : Int) ∧ j + g2 = 2 + 1 ∧ 1 ≤ j ∧ k + j ≤ l.length ∧ lo ≤ 255 ∧ hi ≤ 255 ∧ chk (l.drop k) lo hi j g2 = chk (l.drop k) 128 191 1 2 ∧ w = wr)
    case atStart => exact ⟨1, 128, 191, rfl, rfl, rfl, rfl, by omega, by omega, by omega, by omega, rfl, rfl⟩
    case round =>
     obtain ⟨j, lo, hi, rfl, rfl, rfl, hjg, hj1, hkj, hlo, hhi, hch, rfl⟩ := hrel
     have HCH := Lib.hid hch
     clear hch
     cases gk with
     | zero =>
      have hsg := HSG.out
      rw [← HCH.out, show chk (l.drop k) lo hi j 0 = true from rfl, if_pos rfl] at hsg
      obtain ⟨e1, e2⟩ := ends_step hsg (by omega)
      rw [List.drop_drop] at e1 e2
      have X := Lib.hid (And.intro e1 e2)
      have hd := (sgn_le (l.drop k)).1
      rw [hsg, List.length_drop] at hd
      clear e1 e2 hsg
      go_wp2
      go_roundg (l.length - (k + (2 + 1)))
      case measure => omega
      case rel =>
       have a1 := HE.out
       have a2 := HC.out
       rw [X.out.1] at a1
       rw [X.out.2] at a2
       exact ⟨k + (2 + 1), n + 1, by go_num, by go_num, by omega, by omega, by omega, by omega, rfl⟩
     | succ m =>
      by_cases hin : k + j < l.length
      ·obtain ⟨c, hc⟩ : ∃ c, l[k + j]? = some c := ⟨_, List.getElem?_eq_getElem hin⟩
       have hix2 := index_ba hc ((k : Int) + (j : Int)) (by omega)
       have hcc := c.toNat_lt
       have hend : ((k : Int) + (j : Int) == (l.length : Int)) = false := by simp; omega
       have HCJ := Lib.hid hc
       clear hc
       by_cases hoff : c.toNat < lo ∨ hi < c.toNat
       ·have hsg := HSG.out
        rw [← HCH.out, chk_off HCJ.out hoff] at hsg
        have X := Lib.hid (ends_stop hsg)
        clear hsg
        rcases hoff with h3 | h3
        all_goals
         go_wp2
         all_goals
          try rw [Exit.noGoto_ret]
          go_ret2
          have a1 := HE.out
          have a2 := HC.out
          rw [X.out.1] at a1
          rw [X.out.2] at a2
          exact ⟨ret_two (by omega) (by omega), rfl⟩
       ·have h3 : lo ≤ c.toNat := by omega
        have h4 : c.toNat ≤ hi := by omega
        clear hoff
        go_wp2
        go_roundg m
        case measure => omega
        case rel => exact ⟨j + 1, 128, 191, by go_num, rfl, rfl, by omega, by omega, by omega, by omega, by omega, by rw [← chk_on HCJ.out h3 h4, HCH.out], rfl⟩
      ·have hsg := HSG.out
       rw [← HCH.out, chk_out (by omega)] at hsg
       have X := Lib.hid (ends_stop hsg)
       have hend : ((k : Int) + (j : Int) == (l.length : Int)) = true := by simp; omega
       clear hsg
       go_wp2
       try rw [Exit.noGoto_ret]
       go_ret2
       have a1 := HE.out
       have a2 := HC.out
       rw [X.out.1] at a1
       rw [X.out.2] at a2
       exact ⟨ret_two (by omega) (by omega), rfl⟩
   ·have hsg := sgn_lead HB.out (more := 3) (lo := 144) (hi := 191) (.inr (.inr (.inr (.inr (.inl ⟨by omega, rfl, rfl, rfl⟩)))))
    have HSG := Lib.hid hsg
    clear hsg
    have t1 : ((b.toNat : Int) == 224) = false := by simp; omega
    have t2 : ((b.toNat : Int) == 237) = false := by simp; omega
    have t3 : ((b.toNat : Int) == 240) = true := by simp; omega
    have t4 : ((b.toNat : Int) == 244) = false := by simp; omega
    have t5 : decide ((b.toNat : Int) ≤ 127) = false := by simp; omega
    have t6 : decide ((b.toNat : Int) ≤ 223) = false := by simp; omega
    have t7 : decide ((b.toNat : Int) ≤ 239) = false := by simp; omega
    have t8 : decide ((b.toNat : Int) ≤ 243) = true := by simp; omega
    have t9 : decide ((194 : Int) ≤ (b.toNat : Int)) = true := by simp; omega
    have t10 : decide ((225 : Int) ≤ (b.toNat : Int)) = true := by simp; omega
    have t11 : decide ((241 : Int) ≤ (b.toNat : Int)) = false := by simp; omega
    clear h1 h2
    go_wp2
    clear hbb hix
    go_loopg [8, 4, 5] 3 (fun g2 i lw hw wr => ∃ j lo hi : Nat, i = .int .i64 ((k : Int) + (j : Int)) ∧ lw = .int .u8 (lo : Int) ∧ hw = .int .u8 (hi : Int) ∧ j + g2 = 3 + 1 ∧ 1 ≤ j ∧ k + j ≤ l.length ∧ lo ≤ 255 ∧ hi ≤ 255 ∧ chk (l.drop k) lo hi j g2 = chk (l.drop k) 144 191 1 3 ∧ w = wr)
    case atStart => exact ⟨1, 144, 191, rfl, rfl, rfl, rfl, by omega, by omega, by omega, by omega, rfl, rfl⟩
    case round =>
     obtain ⟨j, lo, hi, rfl, rfl, rfl, hjg, hj1, hkj, hlo, hhi, hch, rfl⟩ := hrel
     have HCH := Lib.hid hch
     clear hch
     cases gk with
     | zero =>
      have hsg := HSG.out
      rw [← HCH.out, show chk (l.drop k) lo hi j 0 = true from rfl, if_pos rfl] at hsg
      obtain ⟨e1, e2⟩ := ends_step hsg (by omega)
      rw [List.drop_drop] at e1 e2
      have X := Lib.hid (And.intro e1 e2)
      have hd := (sgn_le (l.drop k)).1
      rw [hsg, List.length_drop] at hd
      clear e1 e2 hsg
      go_wp2
      go_roundg (l.length - (k + (3 + 1)))
      case measure => omega
      case rel =>
       have a1 := HE.out
       have a2 := HC.out
       rw [X.out.1] at a1
       rw [X.out.2] at a2
       exact ⟨k + (3 + 1), n + 1, by go_num, by go_num, by omega, by omega, by omega, by omega, rfl⟩
     | succ m =>
      by_cases hin : k + j < l.length
      ·obtain ⟨c, hc⟩ : ∃ c, l[k + j]? = some c := ⟨_, List.getElem?_eq_getElem hin⟩
       have hix2 := index_ba hc ((k : Int) + (j : Int)) (by omega)
       have hcc := c.toNat_lt
       have hend : ((k : Int) + (j : Int) == (l.length : Int)) = false := by simp; omega
       have HCJ := Lib.hid hc
       clear hc
       by_cases hoff : c.toNat < lo ∨ hi < c.toNat
       ·have hsg := HSG.out
        rw [← HCH.out, chk_off HCJ.out hoff] at hsg
        have X := Lib.hid (ends_stop hsg)
        clear hsg
        rcases hoff with h3 | h3
        all_goals
         go_wp2
         all_goals
          try rw [Exit.noGoto_ret]
          go_ret2
          have a1 := HE.out
          have a2 := HC.out
          rw [X.out.1] at a1
          rw [X.out.2] at a2
          exact ⟨ret_two (by omega) (by omega), rfl⟩
       ·have h3 : lo ≤ c.toNat := by omega
        have h4 : c.toNat ≤ hi := by omega
        clear hoff
        go_wp2
        go_roundg m
        case measure => omega
        case rel => exact ⟨j + 1, 128, 191, by go_num, rfl, rfl, by omega, by omega, by omega, by omega, by omega, by rw [← chk_on HCJ.out h3 h4, HCH.out], rfl⟩
      ·have hsg := HSG.out
       rw [← HCH.out, chk_out (by omega)] at hsg
       have X := Lib.hid (ends_stop hsg)
       have hend : ((k : Int) + (j : Int) == (l.length : Int)) = true := by simp; omega
       clear hsg
       go_wp2
       try rw [Exit.noGoto_ret]
       go_ret2
       have a1 := HE.out
       have a2 := HC.out
       rw [X.out.1] at a1
       rw [X.out.2] at a2
       exact ⟨ret_two (by omega) (by omega), rfl⟩
   ·have hsg := sgn_lead HB.out (more := 3) (lo := 128) (hi := 191) (.inr (.inr (.inr (.inr (.inr (.inl ⟨h1, h2, rfl, rfl, rfl⟩))))))
    have HSG := Lib.hid hsg
    clear hsg
    have t1 : ((b.toNat : Int) == 224) = false := by simp; omega
    have t2 : ((b.toNat : Int) == 237) = false := by simp; omega
    have t3 : ((b.toNat : Int) == 240) = false := by simp; omega
    have t4 : ((b.toNat : Int) == 244) = false := by simp; omega
    have t5 : decide ((b.toNat : Int) ≤ 127) = false := by simp; omega
    have t6 : decide ((b.toNat : Int) ≤ 223) = false := by simp; omega
    have t7 : decide ((b.toNat : Int) ≤ 239) = false := by simp; omega
    have t8 : decide ((b.toNat : Int) ≤ 243) = true := by simp; omega
    have t9 : decide ((194 : Int) ≤ (b.toNat : Int)) = true := by simp; omega
    have t10 : decide ((225 : Int) ≤ (b.toNat : Int)) = true := by simp; omega
    have t11 : decide ((241 : Int) ≤ (b.toNat : Int)) = true := by simp; omega
    clear h1 h2
    go_wp2
    clear hbb hix
    go_loopg [8, 4, 5] 3 (fun g2 i lw hw wr => ∃ j lo hi : Nat, i = .int .i64 ((k : Int) + (j : Int)) ∧ lw = .int .u8 (lo : Int) ∧ hw = .int .u8 (hi : Int) ∧ j + g2 = 3 + 1 ∧ 1 ≤ j ∧ k + j ≤ l.length ∧ lo ≤ 255 ∧ hi ≤ 255 ∧ chk (l.drop k) lo hi j g2 = chk (l.drop k) 128 191 1 3 ∧ w = wr)
    case atStart => exact ⟨1, 128, 191, rfl, rfl, rfl, rfl, by omega, by omega, by omega, by omega, rfl, rfl⟩
    case round =>
     obtain ⟨j, lo, hi, rfl, rfl, rfl, hjg, hj1, hkj, hlo, hhi, hch, rfl⟩ := hrel
     have HCH := Lib.hid hch
     clear hch
     cases gk with
     | zero =>
      have hsg := HSG.out
      rw [← HCH.out, show chk (l.drop k) lo hi j 0 = true from rfl, if_pos rfl] at hsg
      obtain ⟨e1, e2⟩ := ends_step hsg (by omega)
      rw [List.drop_drop] at e1 e2
      have X := Lib.hid (And.intro e1 e2)
      have hd := (sgn_le (l.drop k)).1
      rw [hsg, List.length_drop] at hd
      clear e1 e2 hsg
      go_wp2
      go_roundg (l.length - (k + (3 + 1)))
      case measure => omega
      case rel =>
       have a1 := HE.out
       have a2 := HC.out
       rw [X.out.1] at a1
       rw [X.out.2] at a2
       exact ⟨k + (3 + 1), n + 1, by go_num, by go_num, by omega, by omega, by omega, by omega, rfl⟩
     | succ m =>
      by_cases hin : k + j < l.length
      ·obtain ⟨c, hc⟩ : ∃ c, l[k + j]? = some c := ⟨_, List.getElem?_eq_getElem hin⟩
       have hix2 := index_ba hc ((k : Int) + (j : Int)) (by omega)
       have hcc := c.toNat_lt
       have hend : ((k : Int) + (j : Int) == (l.length : Int)) = false := by simp; omega
       have HCJ := Lib.hid hc
       clear hc
       by_cases hoff : c.toNat < lo ∨ hi < c.toNat
       ·have hsg := HSG.out
        rw [← HCH.out, chk_off HCJ.out hoff] at hsg
        have X := Lib.hid (ends_stop hsg)
        clear hsg
        rcases hoff with h3 | h3
        all_goals
         go_wp2
         all_goals
          try rw [Exit.noGoto_ret]
          go_ret2
          have a1 := HE.out
          have a2 := HC.out
          rw [X.out.1] at a1
          rw [X.out.2] at a2
          exact ⟨ret_two (by omega) (by omega), rfl⟩
       ·have h3 : lo ≤ c.toNat := by omega
        have h4 : c.toNat ≤ hi := by omega
        clear hoff
        go_wp2
        go_roundg m
        case measure => omega
        case rel => exact ⟨j + 1, 128, 191, by go_num, rfl, rfl, by omega, by omega, by omega, by omega, by omega, by rw [← chk_on HCJ.out h3 h4, HCH.out], rfl⟩
      ·have hsg := HSG.out
       rw [← HCH.out, chk_out (by omega)] at hsg
       have X := Lib.hid (ends_stop hsg)
       have hend : ((k : Int) + (j : Int) == (l.length : Int)) = true := by simp; omega
       clear hsg
       go_wp2
       try rw [Exit.noGoto_ret]
       go_ret2
       have a1 := HE.out
       have a2 := HC.out
       rw [X.out.1] at a1
       rw [X.out.2] at a2
       exact ⟨ret_two (by omega) (by omega), rfl⟩
   ·have hsg := sgn_lead HB.out (more := 3) (lo := 128) (hi := 143) (.inr (.inr (.inr (.inr (.inr (.inr ⟨by omega, rfl, rfl, rfl⟩))))))
    have HSG := Lib.hid hsg
    clear hsg
    have t1 : ((b.toNat : Int) == 224) = false := by simp; omega
    have t2 : ((b.toNat : Int) == 237) = false := by simp; omega
    have t3 : ((b.toNat : Int) == 240) = false := by simp; omega
    have t4 : ((b.toNat : Int) == 244) = true := by simp; omega
    have t5 : decide ((b.toNat : Int) ≤ 127) = false := by simp; omega
    have t6 : decide ((b.toNat : Int) ≤ 223) = false := by simp; omega
    have t7 : decide ((b.toNat : Int) ≤ 239) = false := by simp; omega
    have t8 : decide ((b.toNat : Int) ≤ 243) = false := by simp; omega
    have t9 : decide ((194 : Int) ≤ (b.toNat : Int)) = true := by simp; omega
    have t10 : decide ((225 : Int) ≤ (b.toNat : Int)) = true := by simp; omega
    have t11 : decide ((241 : Int) ≤ (b.toNat : Int)) = true := by simp; omega
    clear h1 h2
    go_wp2
    clear hbb hix
    go_loopg [8, 4, 5] 3 (fun g2 i lw hw wr => ∃ j lo hi : Nat, i = .int .i64 ((k : Int) + (j : Int)) ∧ lw = .int .u8 (lo : Int) ∧ hw = .int .u8 (hi : Int) ∧ j + g2 = 3 + 1 ∧ 1 ≤ j ∧ k + j ≤ l.length ∧ lo ≤ 255 ∧ hi ≤ 255 ∧ chk (l.drop k) lo hi j g2 = chk (l.drop k) 128 143 1 3 ∧ w = wr)
    case atStart => exact ⟨1, 128, 143, rfl, rfl, rfl, rfl, by omega, by omega, by omega, by omega, rfl, rfl⟩
    case round =>
     obtain ⟨j, lo, hi, rfl, rfl, rfl, hjg, hj1, hkj, hlo, hhi, hch, rfl⟩ := hrel
     have HCH := Lib.hid hch
     clear hch
     cases gk with
     | zero =>
      have hsg := HSG.out
      rw [← HCH.out, show chk (l.drop k) lo hi j 0 = true from rfl, if_pos rfl] at hsg
      obtain ⟨e1, e2⟩ := ends_step hsg (by omega)
      rw [List.drop_drop] at e1 e2
      have X := Lib.hid (And.intro e1 e2)
      have hd := (sgn_le (l.drop k)).1
      rw [hsg, List.length_drop] at hd
      clear e1 e2 hsg
      go_wp2
      go_roundg (l.length - (k + (3 + 1)))
      case measure => omega
      case rel =>
       have a1 := HE.out
       have a2 := HC.out
       rw [X.out.1] at a1
       rw [X.out.2] at a2
       exact ⟨k + (3 + 1), n + 1, by go_num, by go_num, by omega, by omega, by omega, by omega, rfl⟩
     | succ m =>
      by_cases hin : k + j < l.length
      ·obtain ⟨c, hc⟩ : ∃ c, l[k + j]? = some c := ⟨_, List.getElem?_eq_getElem hin⟩
       have hix2 := index_ba hc ((k : Int) + (j : Int)) (by omega)
       have hcc := c.toNat_lt
       have hend : ((k : Int) + (j : Int) == (l.length : Int)) = false := by simp; omega
       have HCJ := Lib.hid hc
       clear hc
       by_cases hoff : c.toNat < lo ∨ hi < c.toNat
       ·have hsg := HSG.out
        rw [← HCH.out, chk_off HCJ.out hoff] at hsg
        have X := Lib.hid (ends_stop hsg)
        clear hsg
        rcases hoff with h3 | h3
        all_goals
         go_wp2
         all_goals
          try rw [Exit.noGoto_ret]
          go_ret2
          have a1 := HE.out
          have a2 := HC.out
          rw [X.out.1] at a1
          rw [X.out.2] at a2
          exact ⟨ret_two (by omega) (by omega), rfl⟩
       ·have h3 : lo ≤ c.toNat := by omega
        have h4 : c.toNat ≤ hi := by omega
        clear hoff
        go_wp2
        go_roundg m
        case measure => omega
        case rel => exact ⟨j + 1, 128, 191, by go_num, rfl, rfl, by omega, by omega, by omega, by omega, by omega, by rw [← chk_on HCJ.out h3 h4, HCH.out], rfl⟩
      ·have hsg := HSG.out
       rw [← HCH.out, chk_out (by omega)] at hsg
       have X := Lib.hid (ends_stop hsg)
       have hend : ((k : Int) + (j : Int) == (l.length : Int)) = true := by simp; omega
       clear hsg
       go_wp2
       try rw [Exit.noGoto_ret]
       go_ret2
       have a1 := HE.out
       have a2 := HC.out
       rw [X.out.1] at a1
       rw [X.out.2] at a2
       exact ⟨ret_two (by omega) (by omega), rfl⟩
  ·have X := Lib.hid (ends_stop (l := l.drop k) (by rw [List.drop_eq_nil_of_le (by omega)]; exact sgn_nil))
   go_wp2
   try rw [Exit.noGoto_ret]
   go_ret2
   have a1 := HE.out
   have a2 := HC.out
   rw [X.out.1] at a1
   rw [X.out.2] at a2
   exact ⟨ret_two (by omega) (by omega), rfl⟩
end Go.Proofs.YtojhenpaeedimaaGreat
