/-
 Contract of word.signs: how many bytes are signs, one behind the other, and how many signs.
 Contracts of word's First, Valid, Count, Cut and Put.
 Contracts of the document's in and sign.
 Contracts of the document's First, Valid, Count, Cut and Put of layer 4.
-/
import Derived.Test.YtkobmnbjeppnaaaGreatBa
import Derived.WalkMore
import Derived.Deep.LoopGhost
section
namespace Go.Proofs.YtkobmnbjeppnaaaGreat
open Go.RowKit
open Wd
set_option maxRecDepth 100000
theorem ret_two {a b c d : Int} (h : a = c) (h' : b = d) : Ending.returned (.tuple #[.int .i64 a, .int .i64 b]) = .returned (.tuple #[.int .i64 c, .int .i64 d]) := by rw [h, h']
theorem head_drop {l : List UInt8} {k : Nat} {b : UInt8} (h : l[k]? = some b) : (l.drop k)[0]? = some b := by rw [List.getElem?_drop]; exact h
theorem chk_out {l : List UInt8} {k j m lo hi : Nat} (h : l.length ≤ k + j) : chk (l.drop k) lo hi j (m + 1) = false := by
 have : inr (l.drop k) j lo hi = false := inr_none (by rw [List.getElem?_drop]; exact List.getElem?_eq_none h)
 simp [chk, this]
theorem chk_off {l : List UInt8} {k j m lo hi : Nat} {c : UInt8} (h : l[k + j]? = some c) (hc : c.toNat < lo ∨ hi < c.toNat) : chk (l.drop k) lo hi j (m + 1) = false := by
 have : inr (l.drop k) j lo hi = false := by
  rw [inr_some (b := c) (by rw [List.getElem?_drop]; exact h), Bool.and_eq_false_iff, decide_eq_false_iff_not, decide_eq_false_iff_not]
  omega
 simp [chk, this]
theorem chk_on {l : List UInt8} {k j m lo hi : Nat} {c : UInt8} (h : l[k + j]? = some c) (h1 : lo ≤ c.toNat) (h2 : c.toNat ≤ hi) : chk (l.drop k) lo hi j (m + 1) = chk (l.drop k) 128 191 (j + 1) m := by
 have : inr (l.drop k) j lo hi = true := inr_iff.2 ⟨c, by rw [List.getElem?_drop]; exact h, h1, h2⟩
 simp [chk, this]
set_option maxHeartbeats 8000000 in
theorem signs_c (l : List UInt8) (hl : l.length ≤ 140737488351232) (w : World) :
  Calls Tryz.prog 81 #[.string (ba l)] w fun e w' => e = .returned (.tuple #[.int .i64 (ends l : Int), .int .i64 (cnt l : Int)]) ∧ w = w' := by
 have hs := ba_size l
 go_enter Tryz.func81, Tryz.ntmps81
 go_wp2
 go_step3
 go_wp2
 go_step3
 go_wp2
 go_loopg [2, 3] l.length (fun g e c wr => ∃ k n : Nat, e = .int .i64 (k : Int) ∧ c = .int .i64 (n : Int) ∧ k + g = l.length ∧ n ≤ k ∧ k + ends (l.drop k) = ends l ∧ n + cnt (l.drop k) = cnt l ∧ w = wr)
 case atStart => exact ⟨0, 0, rfl, rfl, by omega, by omega, by simp, by simp, rfl⟩
 case round =>
  obtain ⟨k, n, rfl, rfl, hkg, hnk, he, hc, rfl⟩ := hrel
  have HE := Lib.hid he
  have HC := Lib.hid hc
  clear he hc
  by_cases hlt : k < l.length
  ·obtain ⟨b, hb⟩ : ∃ b, l[k]? = some b := ⟨_, List.getElem?_eq_getElem hlt⟩
   have hix := index_ba hb (k : Int) rfl
   have HB := Lib.hid (head_drop hb)
   have hbb := b.toNat_lt
   clear hb
   have hcase : b.toNat ≤ 127 ∨ (128 ≤ b.toNat ∧ b.toNat ≤ 193) ∨ 245 ≤ b.toNat ∨ (194 ≤ b.toNat ∧ b.toNat ≤ 223) ∨ (224 ≤ b.toNat ∧ b.toNat ≤ 224) ∨ (237 ≤ b.toNat ∧ b.toNat ≤ 237) ∨ (225 ≤ b.toNat ∧ b.toNat ≤ 236) ∨ (238 ≤ b.toNat ∧ b.toNat ≤ 239) ∨ (240 ≤ b.toNat ∧ b.toNat ≤ 240) ∨ (241 ≤ b.toNat ∧ b.toNat ≤ 243) ∨ (244 ≤ b.toNat ∧ b.toNat ≤ 244) := by omega
   rcases hcase with h1 | ⟨h1, h2⟩ | h1 | ⟨h1, h2⟩ | ⟨h1, h2⟩ | ⟨h1, h2⟩ | ⟨h1, h2⟩ | ⟨h1, h2⟩ | ⟨h1, h2⟩ | ⟨h1, h2⟩ | ⟨h1, h2⟩
   ·obtain ⟨e1, e2⟩ := ends_step (sgn_ascii HB.out h1) (by omega)
    rw [List.drop_drop] at e1 e2
    have X := Lib.hid (And.intro e1 e2)
    clear e1 e2
    go_wp2
    go_roundg (gk - 1)
    case measure => omega
    case rel =>
     have a1 := HE.out
     have a2 := HC.out
     rw [X.out.1] at a1
     rw [X.out.2] at a2
     exact ⟨k + 1, n + 1, by go_num, by go_num, by omega, by omega, by omega, by omega, rfl⟩
   ·have X := Lib.hid (ends_stop (sgn_bad HB.out (.inl ⟨h1, h2⟩)))
    go_wp2
    try rw [Exit.noGoto_ret]
    go_ret2
    have a1 := HE.out
    have a2 := HC.out
    rw [X.out.1] at a1
    rw [X.out.2] at a2
    exact ⟨ret_two (by omega) (by omega), rfl⟩
   ·have X := Lib.hid (ends_stop (sgn_bad HB.out (.inr h1)))
    go_wp2
    try rw [Exit.noGoto_ret]
    go_ret2
    have a1 := HE.out
    have a2 := HC.out
    rw [X.out.1] at a1
    rw [X.out.2] at a2
    exact ⟨ret_two (by omega) (by omega), rfl⟩
   ·have hsg := sgn_lead HB.out (more := 1) (lo := 128) (hi := 191) (.inl ⟨h1, h2, rfl, rfl, rfl⟩)
    have HSG := Lib.hid hsg
    clear hsg
    have t1 : ((b.toNat : Int) == 224) = false := by simp; omega
    have t2 : ((b.toNat : Int) == 237) = false := by simp; omega
    have t3 : ((b.toNat : Int) == 240) = false := by simp; omega
    have t4 : ((b.toNat : Int) == 244) = false := by simp; omega
    have t5 : decide ((b.toNat : Int) ≤ 127) = false := by simp; omega
    have t6 : decide ((b.toNat : Int) ≤ 223) = true := by simp; omega
    have t7 : decide ((b.toNat : Int) ≤ 239) = true := by simp; omega
    have t8 : decide ((b.toNat : Int) ≤ 243) = true := by simp; omega
    have t9 : decide ((194 : Int) ≤ (b.toNat : Int)) = true := by simp; omega
    have t10 : decide ((225 : Int) ≤ (b.toNat : Int)) = false := by simp; omega
    have t11 : decide ((241 : Int) ≤ (b.toNat : Int)) = false := by simp; omega
    clear h1 h2
    go_wp2
    clear hbb hix
    go_loopg [8, 4, 5] 1 (fun g2 i lw hw wr => ∃ j lo hi : Nat, i = .int .i64 ((k : Int) + (j : Int)) ∧ lw = .int .u8 (lo : Int) ∧ hw = .int .u8 (hi : Int) ∧ j + g2 = 1 + 1 ∧ 1 ≤ j ∧ k + j ≤ l.length ∧ lo ≤ 255 ∧ hi ≤ 255 ∧ chk (l.drop k) lo hi j g2 = chk (l.drop k) 128 191 1 1 ∧ w = wr)
    case atStart => exact ⟨1, 128, 191, rfl, rfl, rfl, rfl, by omega, by omega, by omega, by omega, rfl, rfl⟩
    case round =>
     obtain ⟨j, lo, hi, rfl, rfl, rfl, hjg, hj1, hkj, hlo, hhi, hch, rfl⟩ := hrel
     have HCH := Lib.hid hch
     clear hch
     cases gk with
     | zero =>
      have hsg := HSG.out
      rw [← HCH.out, show chk (l.drop k) lo hi j 0 = true from rfl, if_pos rfl] at hsg
      obtain ⟨e1, e2⟩ := ends_step hsg (by omega)
      rw [List.drop_drop] at e1 e2
      have X := Lib.hid (And.intro e1 e2)
      have hd := (sgn_le (l.drop k)).1
      rw [hsg, List.length_drop] at hd
      clear e1 e2 hsg
      go_wp2
      go_roundg (l.length - (k + (1 + 1)))
      case measure => omega
      case rel =>
       have a1 := HE.out
       have a2 := HC.out
       rw [X.out.1] at a1
       rw [X.out.2] at a2
       exact ⟨k + (1 + 1), n + 1, by go_num, by go_num, by omega, by omega, by omega, by omega, rfl⟩
     | succ m =>
      by_cases hin : k + j < l.length
      ·obtain ⟨c, hc⟩ : ∃ c, l[k + j]? = some c := ⟨_, List.getElem?_eq_getElem hin⟩
       have hix2 := index_ba hc ((k : Int) + (j : Int)) (by omega)
       have hcc := c.toNat_lt
       have hend : ((k : Int) + (j : Int) == (l.length : Int)) = false := by simp; omega
       have HCJ := Lib.hid hc
       clear hc
       by_cases hoff : c.toNat < lo ∨ hi < c.toNat
       ·have hsg := HSG.out
        rw [← HCH.out, chk_off HCJ.out hoff] at hsg
        have X := Lib.hid (ends_stop hsg)
        clear hsg
        rcases hoff with h3 | h3
        all_goals
         go_wp2
         all_goals
          try rw [Exit.noGoto_ret]
          go_ret2
          have a1 := HE.out
          have a2 := HC.out
          rw [X.out.1] at a1
          rw [X.out.2] at a2
          exact ⟨ret_two (by omega) (by omega), rfl⟩
       ·have h3 : lo ≤ c.toNat := by omega
        have h4 : c.toNat ≤ hi := by omega
        clear hoff
        go_wp2
        go_roundg m
        case measure => omega
        case rel => exact ⟨j + 1, 128, 191, by go_num, rfl, rfl, by omega, by omega, by omega, by omega, by omega, by rw [← chk_on HCJ.out h3 h4, HCH.out], rfl⟩
      ·have hsg := HSG.out
       rw [← HCH.out, chk_out (by omega)] at hsg
       have X := Lib.hid (ends_stop hsg)
       have hend : ((k : Int) + (j : Int) == (l.length : Int)) = true := by simp; omega
       clear hsg
       go_wp2
       try rw [Exit.noGoto_ret]
       go_ret2
       have a1 := HE.out
       have a2 := HC.out
       rw [X.out.1] at a1
       rw [X.out.2] at a2
       exact ⟨ret_two (by omega) (by omega), rfl⟩
   ·have hsg := sgn_lead HB.out (more := 2) (lo := 160) (hi := 191) (.inr (.inl ⟨by omega, rfl, rfl, rfl⟩))
    have HSG := Lib.hid hsg
    clear hsg
    have t1 : ((b.toNat : Int) == 224) = true := by simp; omega
    have t2 : ((b.toNat : Int) == 237) = false := by simp; omega
    have t3 : ((b.toNat : Int) == 240) = false := by simp; omega
    have t4 : ((b.toNat : Int) == 244) = false := by simp; omega
    have t5 : decide ((b.toNat : Int) ≤ 127) = false := by simp; omega
    have t6 : decide ((b.toNat : Int) ≤ 223) = false := by simp; omega
    have t7 : decide ((b.toNat : Int) ≤ 239) = true := by simp; omega
    have t8 : decide ((b.toNat : Int) ≤ 243) = true := by simp; omega
    have t9 : decide ((194 : Int) ≤ (b.toNat : Int)) = true := by simp; omega
    have t10 : decide ((225 : Int) ≤ (b.toNat : Int)) = false := by simp; omega
    have t11 : decide ((241 : Int) ≤ (b.toNat : Int)) = false := by simp; omega
    clear h1 h2
    go_wp2
    clear hbb hix
    go_loopg [8, 4, 5] 2 (fun g2 i lw hw wr => ∃ j lo hi : Nat, i = .int .i64 ((k : Int) + (j : Int)) ∧ lw = .int .u8 (lo : Int) ∧ hw = .int .u8 (hi : Int) ∧ j + g2 = 2 + 1 ∧ 1 ≤ j ∧ k + j ≤ l.length ∧ lo ≤ 255 ∧ hi ≤ 255 ∧ chk (l.drop k) lo hi j g2 = chk (l.drop k) 160 191 1 2 ∧ w = wr)
    case atStart => exact ⟨1, 160, 191, rfl, rfl, rfl, rfl, by omega, by omega, by omega, by omega, rfl, rfl⟩
    case round =>
     obtain ⟨j, lo, hi, rfl, rfl, rfl, hjg, hj1, hkj, hlo, hhi, hch, rfl⟩ := hrel
     have HCH := Lib.hid hch
     clear hch
     cases gk with
     | zero =>
      have hsg := HSG.out
      rw [← HCH.out, show chk (l.drop k) lo hi j 0 = true from rfl, if_pos rfl] at hsg
      obtain ⟨e1, e2⟩ := ends_step hsg (by omega)
      rw [List.drop_drop] at e1 e2
      have X := Lib.hid (And.intro e1 e2)
      have hd := (sgn_le (l.drop k)).1
      rw [hsg, List.length_drop] at hd
      clear e1 e2 hsg
      go_wp2
      go_roundg (l.length - (k + (2 + 1)))
      case measure => omega
      case rel =>
       have a1 := HE.out
       have a2 := HC.out
       rw [X.out.1] at a1
       rw [X.out.2] at a2
       exact ⟨k + (2 + 1), n + 1, by go_num, by go_num, by omega, by omega, by omega, by omega, rfl⟩
     | succ m =>
      by_cases hin : k + j < l.length
      ·obtain ⟨c, hc⟩ : ∃ c, l[k + j]? = some c := ⟨_, List.getElem?_eq_getElem hin⟩
       have hix2 := index_ba hc ((k : Int) + (j : Int)) (by omega)
       have hcc := c.toNat_lt
       have hend : ((k : Int) + (j : Int) == (l.length : Int)) = false := by simp; omega
       have HCJ := Lib.hid hc
       clear hc
       by_cases hoff : c.toNat < lo ∨ hi < c.toNat
       ·have hsg := HSG.out
        rw [← HCH.out, chk_off HCJ.out hoff] at hsg
        have X := Lib.hid (ends_stop hsg)
        clear hsg
        rcases hoff with h3 | h3
        all_goals
         go_wp2
         all_goals
          try rw [Exit.noGoto_ret]
          go_ret2
          have a1 := HE.out
          have a2 := HC.out
          rw [X.out.1] at a1
          rw [X.out.2] at a2
          exact ⟨ret_two (by omega) (by omega), rfl⟩
       ·have h3 : lo ≤ c.toNat := by omega
        have h4 : c.toNat ≤ hi := by omega
        clear hoff
        go_wp2
        go_roundg m
        case measure => omega
        case rel => exact ⟨j + 1, 128, 191, by go_num, rfl, rfl, by omega, by omega, by omega, by omega, by omega, by rw [← chk_on HCJ.out h3 h4, HCH.out], rfl⟩
      ·have hsg := HSG.out
       rw [← HCH.out, chk_out (by omega)] at hsg
       have X := Lib.hid (ends_stop hsg)
       have hend : ((k : Int) + (j : Int) == (l.length : Int)) = true := by simp; omega
       clear hsg
       go_wp2
       try rw [Exit.noGoto_ret]
       go_ret2
       have a1 := HE.out
       have a2 := HC.out
       rw [X.out.1] at a1
       rw [X.out.2] at a2
       exact ⟨ret_two (by omega) (by omega), rfl⟩
   ·have hsg := sgn_lead HB.out (more := 2) (lo := 128) (hi := 159) (.inr (.inr (.inl ⟨by omega, rfl, rfl, rfl⟩)))
    have HSG := Lib.hid hsg
    clear hsg
    have t1 : ((b.toNat : Int) == 224) = false := by simp; omega
    have t2 : ((b.toNat : Int) == 237) = true := by simp; omega
    have t3 : ((b.toNat : Int) == 240) = false := by simp; omega
    have t4 : ((b.toNat : Int) == 244) = false := by simp; omega
    have t5 : decide ((b.toNat : Int) ≤ 127) = false := by simp; omega
    have t6 : decide ((b.toNat : Int) ≤ 223) = false := by simp; omega
    have t7 : decide ((b.toNat : Int) ≤ 239) = true := by simp; omega
    have t8 : decide ((b.toNat : Int) ≤ 243) = true := by simp; omega
    have t9 : decide ((194 : Int) ≤ (b.toNat : Int)) = true := by simp; omega
    have t10 : decide ((225 : Int) ≤ (b.toNat : Int)) = true := by simp; omega
    have t11 : decide ((241 : Int) ≤ (b.toNat : Int)) = false := by simp; omega
    clear h1 h2
    go_wp2
    clear hbb hix
    go_loopg [8, 4, 5] 2 (fun g2 i lw hw wr => ∃ j lo hi : Nat, i = .int .i64 ((k : Int) + (j : Int)) ∧ lw = .int .u8 (lo : Int) ∧ hw = .int .u8 (hi : Int) ∧ j + g2 = 2 + 1 ∧ 1 ≤ j ∧ k + j ≤ l.length ∧ lo ≤ 255 ∧ hi ≤ 255 ∧ chk (l.drop k) lo hi j g2 = chk (l.drop k) 128 159 1 2 ∧ w = wr)
    case atStart => exact ⟨1, 128, 159, rfl, rfl, rfl, rfl, by omega, by omega, by omega, by omega, rfl, rfl⟩
    case round =>
     obtain ⟨j, lo, hi, rfl, rfl, rfl, hjg, hj1, hkj, hlo, hhi, hch, rfl⟩ := hrel
     have HCH := Lib.hid hch
     clear hch
     cases gk with
     | zero =>
      have hsg := HSG.out
      rw [← HCH.out, show chk (l.drop k) lo hi j 0 = true from rfl, if_pos rfl] at hsg
      obtain ⟨e1, e2⟩ := ends_step hsg (by omega)
      rw [List.drop_drop] at e1 e2
      have X := Lib.hid (And.intro e1 e2)
      have hd := (sgn_le (l.drop k)).1
      rw [hsg, List.length_drop] at hd
      clear e1 e2 hsg
      go_wp2
      go_roundg (l.length - (k + (2 + 1)))
      case measure => omega
      case rel =>
       have a1 := HE.out
       have a2 := HC.out
       rw [X.out.1] at a1
       rw [X.out.2] at a2
       exact ⟨k + (2 + 1), n + 1, by go_num, by go_num, by omega, by omega, by omega, by omega, rfl⟩
     | succ m =>
      by_cases hin : k + j < l.length
      ·obtain ⟨c, hc⟩ : ∃ c, l[k + j]? = some c := ⟨_, List.getElem?_eq_getElem hin⟩
       have hix2 := index_ba hc ((k : Int) + (j : Int)) (by omega)
       have hcc := c.toNat_lt
       have hend : ((k : Int) + (j : Int) == (l.length : Int)) = false := by simp; omega
       have HCJ := Lib.hid hc
       clear hc
       by_cases hoff : c.toNat < lo ∨ hi < c.toNat
       ·have hsg := HSG.out
        rw [← HCH.out, chk_off HCJ.out hoff] at hsg
        have X := Lib.hid (ends_stop hsg)
        clear hsg
        rcases hoff with h3 | h3
        all_goals
         go_wp2
         all_goals
          try rw [Exit.noGoto_ret]
          go_ret2
          have a1 := HE.out
          have a2 := HC.out
          rw [X.out.1] at a1
          rw [X.out.2] at a2
          exact ⟨ret_two (by omega) (by omega), rfl⟩
       ·have h3 : lo ≤ c.toNat := by omega
        have h4 : c.toNat ≤ hi := by omega
        clear hoff
        go_wp2
        go_roundg m
        case measure => omega
        case rel => exact ⟨j + 1, 128, 191, by go_num, rfl, rfl, by omega, by omega, by omega, by omega, by omega, by rw [← chk_on HCJ.out h3 h4, HCH.out], rfl⟩
      ·have hsg := HSG.out
       rw [← HCH.out, chk_out (by omega)] at hsg
       have X := Lib.hid (ends_stop hsg)
       have hend : ((k : Int) + (j : Int) == (l.length : Int)) = true := by simp; omega
       clear hsg
       go_wp2
       try rw [Exit.noGoto_ret]
       go_ret2
       have a1 := HE.out
       have a2 := HC.out
       rw [X.out.1] at a1
       rw [X.out.2] at a2
       exact ⟨ret_two (by omega) (by omega), rfl⟩
   ·have hsg := sgn_lead HB.out (more := 2) (lo := 128) (hi := 191) (.inr (.inr (.inr (.inl ⟨by omega, by omega, by omega, rfl, rfl, rfl⟩))))
    have HSG := Lib.hid hsg
    clear hsg
    have t1 : ((b.toNat : Int) == 224) = false := by simp; omega
    have t2 : ((b.toNat : Int) == 237) = false := by simp; omega
    have t3 : ((b.toNat : Int) == 240) = false := by simp; omega
    have t4 : ((b.toNat : Int) == 244) = false := by simp; omega
    have t5 : decide ((b.toNat : Int) ≤ 127) = false := by simp; omega
    have t6 : decide ((b.toNat : Int) ≤ 223) = false := by simp; omega
    have t7 : decide ((b.toNat : Int) ≤ 239) = true := by simp; omega
    have t8 : decide ((b.toNat : Int) ≤ 243) = true := by simp; omega
    have t9 : decide ((194 : Int) ≤ (b.toNat : Int)) = true := by simp; omega
    have t10 : decide ((225 : Int) ≤ (b.toNat : Int)) = true := by simp; omega
    have t11 : decide ((241 : Int) ≤ (b.toNat : Int)) = false := by simp; omega
    clear h1 h2
    go_wp2
    clear hbb hix
    go_loopg [8, 4, 5] 2 (fun g2 i lw hw wr => ∃ j lo hi : Nat, i = .int .i64 ((k : Int) + (j : Int)) ∧ lw = .int .u8 (lo : Int) ∧ hw = .int .u8 (hi : Int) ∧ j + g2 = 2 + 1 ∧ 1 ≤ j ∧ k + j ≤ l.length ∧ lo ≤ 255 ∧ hi ≤ 255 ∧ chk (l.drop k) lo hi j g2 = chk (l.drop k) 128 191 1 2 ∧ w = wr)
    case atStart => exact ⟨1, 128, 191, rfl, rfl, rfl, rfl, by omega, by omega, by omega, by omega, rfl, rfl⟩
    case round =>
     obtain ⟨j, lo, hi, rfl, rfl, rfl, hjg, hj1, hkj, hlo, hhi, hch, rfl⟩ := hrel
     have HCH := Lib.hid hch
     clear hch
     cases gk with
     | zero =>
      have hsg := HSG.out
      rw [← HCH.out, show chk (l.drop k) lo hi j 0 = true from rfl, if_pos rfl] at hsg
      obtain ⟨e1, e2⟩ := ends_step hsg (by omega)
      rw [List.drop_drop] at e1 e2
      have X := Lib.hid (And.intro e1 e2)
      have hd := (sgn_le (l.drop k)).1
      rw [hsg, List.length_drop] at hd
      clear e1 e2 hsg
      go_wp2
      go_roundg (l.length - (k + (2 + 1)))
      case measure => omega
      case rel =>
       have a1 := HE.out
       have a2 := HC.out
       rw [X.out.1] at a1
       rw [X.out.2] at a2
       exact ⟨k + (2 + 1), n + 1, by go_num, by go_num, by omega, by omega, by omega, by omega, rfl⟩
     | succ m =>
      by_cases hin : k + j < l.length
      ·obtain ⟨c, hc⟩ : ∃ c, l[k + j]? = some c := ⟨_, List.getElem?_eq_getElem hin⟩
       have hix2 := index_ba hc ((k : Int) + (j : Int)) (by omega)
       have hcc := c.toNat_lt
       have hend : ((k : Int) + (j : Int) == (l.length : Int)) = false := by simp; omega
       have HCJ := Lib.hid hc
       clear hc
       by_cases hoff : c.toNat < lo ∨ hi < c.toNat
       ·have hsg := HSG.out
        rw [← HCH.out, chk_off HCJ.out hoff] at hsg
        have X := Lib.hid (ends_stop hsg)
        clear hsg
        rcases hoff with h3 | h3
        all_goals
         go_wp2
         all_goals
          try rw [Exit.noGoto_ret]
          go_ret2
          have a1 := HE.out
          have a2 := HC.out
          rw [X.out.1] at a1
          rw [X.out.2] at a2
          exact ⟨ret_two (by omega) (by omega), rfl⟩
       ·have h3 : lo ≤ c.toNat := by omega
        have h4 : c.toNat ≤ hi := by omega
        clear hoff
        go_wp2
        go_roundg m
        case measure => omega
        case rel => exact ⟨j + 1, 128, 191, by go_num, rfl, rfl, by omega, by omega, by omega, by omega, by omega, by rw [← chk_on HCJ.out h3 h4, HCH.out], rfl⟩
      ·have hsg := HSG.out
       rw [← HCH.out, chk_out (by omega)] at hsg
       have X := Lib.hid (ends_stop hsg)
       have hend : ((k : Int) + (j : Int) == (l.length : Int)) = true := by simp; omega
       clear hsg
       go_wp2
       try rw [Exit.noGoto_ret]
       go_ret2
       have a1 := HE.out
       have a2 := HC.out
       rw [X.out.1] at a1
       rw [X.out.2] at a2
       exact ⟨ret_two (by omega) (by omega), rfl⟩
   ·have hsg := sgn_lead HB.out (more := 2) (lo := 128) (hi := 191) (.inr (.inr (.inr (.inl ⟨by omega, by omega, by omega, rfl, rfl, rfl⟩))))
    have HSG := Lib.hid hsg
    clear hsg
    have t1 : ((b.toNat : Int) == 224) = false := by simp; omega
    have t2 : ((b.toNat : Int) == 237) = false := by simp; omega
    have t3 : ((b.toNat : Int) == 240) = false := by simp; omega
    have t4 : ((b.toNat : Int) == 244) = false := by simp; omega
    have t5 : decide ((b.toNat : Int) ≤ 127) = false := by simp; omega
    have t6 : decide ((b.toNat : Int) ≤ 223) = false := by simp; omega
    have t7 : decide ((b.toNat : Int) ≤ 239) = true := by simp; omega
    have t8 : decide ((b.toNat : Int) ≤ 243) = true := by simp; omega
    have t9 : decide ((194 : Int) ≤ (b.toNat : Int)) = true := by simp; omega
    have t10 : decide ((225 : Int) ≤ (b.toNat : Int)) = true := by simp; omega
    have t11 : decide ((241 : Int) ≤ (b.toNat : Int)) = false := by simp; omega
    clear h1 h2
    go_wp2
    clear hbb hix
    go_loopg [8, 4, 5] 2 (fun g2 i lw hw wr => ∃ j lo hi : Nat, i = .int .i64 ((k : Int) + (j : Int)) ∧ lw = .int .u8 (lo : Int) ∧ hw = .int .u8 (hi : Int) ∧ j + g2 = 2 + 1 ∧ 1 ≤ j ∧ k + j ≤ l.length ∧ lo ≤ 255 ∧ hi ≤ 255 ∧ chk (l.drop k) lo hi j g2 = chk (l.drop k) 128 191 1 2 ∧ w = wr)
    case atStart => exact ⟨1, 128, 191, rfl, rfl, rfl, rfl, by omega, by omega, by omega, by omega, rfl, rfl⟩
    case round =>
     obtain ⟨j, lo, hi, rfl, rfl, rfl, hjg, hj1, hkj, hlo, hhi, hch, rfl⟩ := hrel
     have HCH := Lib.hid hch
     clear hch
     cases gk with
     | zero =>
      have hsg := HSG.out
      rw [← HCH.out, show chk (l.drop k) lo hi j 0 = true from rfl, if_pos rfl] at hsg
      obtain ⟨e1, e2⟩ := ends_step hsg (by omega)
      rw [List.drop_drop] at e1 e2
      have X := Lib.hid (And.intro e1 e2)
      have hd := (sgn_le (l.drop k)).1
      rw [hsg, List.length_drop] at hd
      clear e1 e2 hsg
      go_wp2
      go_roundg (l.length - (k + (2 + 1)))
      case measure => omega
      case rel =>
       have a1 := HE.out
       have a2 := HC.out
       rw [X.out.1] at a1
       rw [X.out.2] at a2
       exact ⟨k + (2 + 1), n + 1, by go_num, by go_num, by omega, by omega, by omega, by omega, rfl⟩
     | succ m =>
      by_cases hin : k + j < l.length
      ·obtain ⟨c, hc⟩ : ∃ c, l[k + j]? = some c := ⟨_, List.getElem?_eq_getElem hin⟩
       have hix2 := index_ba hc ((k : Int) + (j : Int)) (by omega)
       have hcc := c.toNat_lt
       have hend : ((k : Int) + (j : Int) == (l.length : Int)) = false := by simp; omega
       have HCJ := Lib.hid hc
       clear hc
       by_cases hoff : c.toNat < lo ∨ hi < c.toNat
       ·have hsg := HSG.out
        rw [← HCH.out, chk_off HCJ.out hoff] at hsg
        have X := Lib.hid (ends_stop hsg)
        clear hsg
        rcases hoff with h3 | h3
        all_goals
         go_wp2
         all_goals
          try rw [Exit.noGoto_ret]
          go_ret2
          have a1 := HE.out
          have a2 := HC.out
          rw [X.out.1] at a1
          rw [X.out.2] at a2
          exact ⟨ret_two (by omega) (by omega), rfl⟩
       ·have h3 : lo ≤ c.toNat := by omega
        have h4 : c.toNat ≤ hi := by omega
        clear hoff
        go_wp2
        go_roundg m
        case measure => omega
        case rel => exact ⟨j + 1, 128, 191, by go_num, rfl, rfl, by omega, by omega, by omega, by omega, by omega, by rw [← chk_on HCJ.out h3 h4, HCH.out], rfl⟩
      ·have hsg := HSG.out
       rw [← HCH.out, chk_out (by omega)] at hsg
       have X := Lib.hid (ends_stop hsg)
       have hend : ((k : Int) + (j : Int) == (l.length : Int)) = true := by simp; omega
       clear hsg
       go_wp2
       try rw [Exit.noGoto_ret]
       go_ret2
       have a1 := HE.out
       have a2 := HC.out
       rw [X.out.1] at a1
       rw [X.out.2] at a2
       exact ⟨ret_two (by omega) (by omega), rfl⟩
   ·have hsg := sgn_lead HB.out (more := 3) (lo := 144) (hi := 191) (.inr (.inr (.inr (.inr (.inl ⟨by omega, rfl, rfl, rfl⟩)))))
    have HSG := Lib.hid hsg
    clear hsg
    have t1 : ((b.toNat : Int) == 224) = false := by simp; omega
    have t2 : ((b.toNat : Int) == 237) = false := by simp; omega
    have t3 : ((b.toNat : Int) == 240) = true := by simp; omega
    have t4 : ((b.toNat : Int) == 244) = false := by simp; omega
    have t5 : decide ((b.toNat : Int) ≤ 127) = false := by simp; omega
    have t6 : decide ((b.toNat : Int) ≤ 223) = false := by simp; omega
    have t7 : decide ((b.toNat : Int) ≤ 239) = false := by simp; omega
    have t8 : decide ((b.toNat : Int) ≤ 243) = true := by simp; omega
    have t9 : decide ((194 : Int) ≤ (b.toNat : Int)) = true := by simp; omega
    have t10 : decide ((225 : Int) ≤ (b.toNat : Int)) = true := by simp; omega
    have t11 : decide ((241 : Int) ≤ (b.toNat : Int)) = false := by simp; omega
    clear h1 h2
    go_wp2
    clear hbb hix
    go_loopg [8, 4, 5] 3 (fun g2 i lw hw wr => ∃ j lo hi : Nat, i = .int .i64 ((k : Int) + (j : Int)) ∧ lw = .int .u8 (lo : Int) ∧ hw = .int .u8 (hi : Int) ∧ j + g2 = 3 + 1 ∧ 1 ≤ j ∧ k + j ≤ l.length ∧ lo ≤ 255 ∧ hi ≤ 255 ∧ chk (l.drop k) lo hi j g2 = chk (l.drop k) 144 191 1 3 ∧ w = wr)
    case atStart => exact ⟨1, 144, 191, rfl, rfl, rfl, rfl, by omega, by omega, by omega, by omega, rfl, rfl⟩
    case round =>
     obtain ⟨j, lo, hi, rfl, rfl, rfl, hjg, hj1, hkj, hlo, hhi, hch, rfl⟩ := hrel
     have HCH := Lib.hid hch
     clear hch
     cases gk with
     | zero =>
      have hsg := HSG.out
      rw [← HCH.out, show chk (l.drop k) lo hi j 0 = true from rfl, if_pos rfl] at hsg
      obtain ⟨e1, e2⟩ := ends_step hsg (by omega)
      rw [List.drop_drop] at e1 e2
      have X := Lib.hid (And.intro e1 e2)
      have hd := (sgn_le (l.drop k)).1
      rw [hsg, List.length_drop] at hd
      clear e1 e2 hsg
      go_wp2
      go_roundg (l.length - (k + (3 + 1)))
      case measure => omega
      case rel =>
       have a1 := HE.out
       have a2 := HC.out
       rw [X.out.1] at a1
       rw [X.out.2] at a2
       exact ⟨k + (3 + 1), n + 1, by go_num, by go_num, by omega, by omega, by omega, by omega, rfl⟩
     | succ m =>
      by_cases hin : k + j < l.length
      ·obtain ⟨c, hc⟩ : ∃ c, l[k + j]? = some c := ⟨_, List.getElem?_eq_getElem hin⟩
       have hix2 := index_ba hc ((k : Int) + (j : Int)) (by omega)
       have hcc := c.toNat_lt
       have hend : ((k : Int) + (j : Int) == (l.length : Int)) = false := by simp; omega
       have HCJ := Lib.hid hc
       clear hc
       by_cases hoff : c.toNat < lo ∨ hi < c.toNat
       ·have hsg := HSG.out
        rw [← HCH.out, chk_off HCJ.out hoff] at hsg
        have X := Lib.hid (ends_stop hsg)
        clear hsg
        rcases hoff with h3 | h3
        all_goals
         go_wp2
         all_goals
          try rw [Exit.noGoto_ret]
          go_ret2
          have a1 := HE.out
          have a2 := HC.out
          rw [X.out.1] at a1
          rw [X.out.2] at a2
          exact ⟨ret_two (by omega) (by omega), rfl⟩
       ·have h3 : lo ≤ c.toNat := by omega
        have h4 : c.toNat ≤ hi := by omega
        clear hoff
        go_wp2
        go_roundg m
        case measure => omega
        case rel => exact ⟨j + 1, 128, 191, by go_num, rfl, rfl, by omega, by omega, by omega, by omega, by omega, by rw [← chk_on HCJ.out h3 h4, HCH.out], rfl⟩
      ·have hsg := HSG.out
       rw [← HCH.out, chk_out (by omega)] at hsg
       have X := Lib.hid (ends_stop hsg)
       have hend : ((k : Int) + (j : Int) == (l.length : Int)) = true := by simp; omega
       clear hsg
       go_wp2
       try rw [Exit.noGoto_ret]
       go_ret2
       have a1 := HE.out
       have a2 := HC.out
       rw [X.out.1] at a1
       rw [X.out.2] at a2
       exact ⟨ret_two (by omega) (by omega), rfl⟩
   ·have hsg := sgn_lead HB.out (more := 3) (lo := 128) (hi := 191) (.inr (.inr (.inr (.inr (.inr (.inl ⟨h1, h2, rfl, rfl, rfl⟩))))))
    have HSG := Lib.hid hsg
    clear hsg
    have t1 : ((b.toNat : Int) == 224) = false := by simp; omega
    have t2 : ((b.toNat : Int) == 237) = false := by simp; omega
    have t3 : ((b.toNat : Int) == 240) = false := by simp; omega
    have t4 : ((b.toNat : Int) == 244) = false := by simp; omega
    have t5 : decide ((b.toNat : Int) ≤ 127) = false := by simp; omega
    have t6 : decide ((b.toNat : Int) ≤ 223) = false := by simp; omega
    have t7 : decide ((b.toNat : Int) ≤ 239) = false := by simp; omega
    have t8 : decide ((b.toNat : Int) ≤ 243) = true := by simp; omega
    have t9 : decide ((194 : Int) ≤ (b.toNat : Int)) = true := by simp; omega
    have t10 : decide ((225 : Int) ≤ (b.toNat : Int)) = true := by simp; omega
    have t11 : decide ((241 : Int) ≤ (b.toNat : Int)) = true := by simp; omega
    clear h1 h2
    go_wp2
    clear hbb hix
    go_loopg [8, 4, 5] 3 (fun g2 i lw hw wr => ∃ j lo hi : Nat, i = .int .i64 ((k : Int) + (j : Int)) ∧ lw = .int .u8 (lo : Int) ∧ hw = .int .u8 (hi : Int) ∧ j + g2 = 3 + 1 ∧ 1 ≤ j ∧ k + j ≤ l.length ∧ lo ≤ 255 ∧ hi ≤ 255 ∧ chk (l.drop k) lo hi j g2 = chk (l.drop k) 128 191 1 3 ∧ w = wr)
    case atStart => exact ⟨1, 128, 191, rfl, rfl, rfl, rfl, by omega, by omega, by omega, by omega, rfl, rfl⟩
    case round =>
     obtain ⟨j, lo, hi, rfl, rfl, rfl, hjg, hj1, hkj, hlo, hhi, hch, rfl⟩ := hrel
     have HCH := Lib.hid hch
     clear hch
     cases gk with
     | zero =>
      have hsg := HSG.out
      rw [← HCH.out, show chk (l.drop k) lo hi j 0 = true from rfl, if_pos rfl] at hsg
      obtain ⟨e1, e2⟩ := ends_step hsg (by omega)
      rw [List.drop_drop] at e1 e2
      have X := Lib.hid (And.intro e1 e2)
      have hd := (sgn_le (l.drop k)).1
      rw [hsg, List.length_drop] at hd
      clear e1 e2 hsg
      go_wp2
      go_roundg (l.length - (k + (3 + 1)))
      case measure => omega
      case rel =>
       have a1 := HE.out
       have a2 := HC.out
       rw [X.out.1] at a1
       rw [X.out.2] at a2
       exact ⟨k + (3 + 1), n + 1, by go_num, by go_num, by omega, by omega, by omega, by omega, rfl⟩
     | succ m =>
      by_cases hin : k + j < l.length
      ·obtain ⟨c, hc⟩ : ∃ c, l[k + j]? = some c := ⟨_, List.getElem?_eq_getElem hin⟩
       have hix2 := index_ba hc ((k : Int) + (j : Int)) (by omega)
       have hcc := c.toNat_lt
       have hend : ((k : Int) + (j : Int) == (l.length : Int)) = false := by simp; omega
       have HCJ := Lib.hid hc
       clear hc
       by_cases hoff : c.toNat < lo ∨ hi < c.toNat
       ·have hsg := HSG.out
        rw [← HCH.out, chk_off HCJ.out hoff] at hsg
        have X := Lib.hid (ends_stop hsg)
        clear hsg
        rcases hoff with h3 | h3
        all_goals
         go_wp2
         all_goals
          try rw [Exit.noGoto_ret]
          go_ret2
          have a1 := HE.out
          have a2 := HC.out
          rw [X.out.1] at a1
          rw [X.out.2] at a2
          exact ⟨ret_two (by omega) (by omega), rfl⟩
       ·have h3 : lo ≤ c.toNat := by omega
        have h4 : c.toNat ≤ hi := by omega
        clear hoff
        go_wp2
        go_roundg m
        case measure => omega
        case rel => exact ⟨j + 1, 128, 191, by go_num, rfl, rfl, by omega, by omega, by omega, by omega, by omega, by rw [← chk_on HCJ.out h3 h4, HCH.out], rfl⟩
      ·have hsg := HSG.out
       rw [← HCH.out, chk_out (by omega)] at hsg
       have X := Lib.hid (ends_stop hsg)
       have hend : ((k : Int) + (j : Int) == (l.length : Int)) = true := by simp; omega
       clear hsg
       go_wp2
       try rw [Exit.noGoto_ret]
       go_ret2
       have a1 := HE.out
       have a2 := HC.out
       rw [X.out.1] at a1
       rw [X.out.2] at a2
       exact ⟨ret_two (by omega) (by omega), rfl⟩
   ·have hsg := sgn_lead HB.out (more := 3) (lo := 128) (hi := 143) (.inr (.inr (.inr (.inr (.inr (.inr ⟨by omega, rfl, rfl, rfl⟩))))))
    have HSG := Lib.hid hsg
    clear hsg
    have t1 : ((b.toNat : Int) == 224) = false := by simp; omega
    have t2 : ((b.toNat : Int) == 237) = false := by simp; omega
    have t3 : ((b.toNat : Int) == 240) = false := by simp; omega
    have t4 : ((b.toNat : Int) == 244) = true := by simp; omega
    have t5 : decide ((b.toNat : Int) ≤ 127) = false := by simp; omega
    have t6 : decide ((b.toNat : Int) ≤ 223) = false := by simp; omega
    have t7 : decide ((b.toNat : Int) ≤ 239) = false := by simp; omega
    have t8 : decide ((b.toNat : Int) ≤ 243) = false := by simp; omega
    have t9 : decide ((194 : Int) ≤ (b.toNat : Int)) = true := by simp; omega
    have t10 : decide ((225 : Int) ≤ (b.toNat : Int)) = true := by simp; omega
    have t11 : decide ((241 : Int) ≤ (b.toNat : Int)) = true := by simp; omega
    clear h1 h2
    go_wp2
    clear hbb hix
    go_loopg [8, 4, 5] 3 (fun g2 i lw hw wr => ∃ j lo hi : Nat, i = .int .i64 ((k : Int) + (j : Int)) ∧ lw = .int .u8 (lo : Int) ∧ hw = .int .u8 (hi : Int) ∧ j + g2 = 3 + 1 ∧ 1 ≤ j ∧ k + j ≤ l.length ∧ lo ≤ 255 ∧ hi ≤ 255 ∧ chk (l.drop k) lo hi j g2 = chk (l.drop k) 128 143 1 3 ∧ w = wr)
    case atStart => exact ⟨1, 128, 143, rfl, rfl, rfl, rfl, by omega, by omega, by omega, by omega, rfl, rfl⟩
    case round =>
     obtain ⟨j, lo, hi, rfl, rfl, rfl, hjg, hj1, hkj, hlo, hhi, hch, rfl⟩ := hrel
     have HCH := Lib.hid hch
     clear hch
     cases gk with
     | zero =>
      have hsg := HSG.out
      rw [← HCH.out, show chk (l.drop k) lo hi j 0 = true from rfl, if_pos rfl] at hsg
      obtain ⟨e1, e2⟩ := ends_step hsg (by omega)
      rw [List.drop_drop] at e1 e2
      have X := Lib.hid (And.intro e1 e2)
      have hd := (sgn_le (l.drop k)).1
      rw [hsg, List.length_drop] at hd
      clear e1 e2 hsg
      go_wp2
      go_roundg (l.length - (k + (3 + 1)))
      case measure => omega
      case rel =>
       have a1 := HE.out
       have a2 := HC.out
       rw [X.out.1] at a1
       rw [X.out.2] at a2
       exact ⟨k + (3 + 1), n + 1, by go_num, by go_num, by omega, by omega, by omega, by omega, rfl⟩
     | succ m =>
      by_cases hin : k + j < l.length
      ·obtain ⟨c, hc⟩ : ∃ c, l[k + j]? = some c := ⟨_, List.getElem?_eq_getElem hin⟩
       have hix2 := index_ba hc ((k : Int) + (j : Int)) (by omega)
       have hcc := c.toNat_lt
       have hend : ((k : Int) + (j : Int) == (l.length : Int)) = false := by simp; omega
       have HCJ := Lib.hid hc
       clear hc
       by_cases hoff : c.toNat < lo ∨ hi < c.toNat
       ·have hsg := HSG.out
        rw [← HCH.out, chk_off HCJ.out hoff] at hsg
        have X := Lib.hid (ends_stop hsg)
        clear hsg
        rcases hoff with h3 | h3
        all_goals
         go_wp2
         all_goals
          try rw [Exit.noGoto_ret]
          go_ret2
          have a1 := HE.out
          have a2 := HC.out
          rw [X.out.1] at a1
          rw [X.out.2] at a2
          exact ⟨ret_two (by omega) (by omega), rfl⟩
       ·have h3 : lo ≤ c.toNat := by omega
        have h4 : c.toNat ≤ hi := by omega
        clear hoff
        go_wp2
        go_roundg m
        case measure => omega
        case rel => exact ⟨j + 1, 128, 191, by go_num, rfl, rfl, by omega, by omega, by omega, by omega, by omega, by rw [← chk_on HCJ.out h3 h4, HCH.out], rfl⟩
      ·have hsg := HSG.out
       rw [← HCH.out, chk_out (by omega)] at hsg
       have X := Lib.hid (ends_stop hsg)
       have hend : ((k : Int) + (j : Int) == (l.length : Int)) = true := by simp; omega
       clear hsg
       go_wp2
       try rw [Exit.noGoto_ret]
       go_ret2
       have a1 := HE.out
       have a2 := HC.out
       rw [X.out.1] at a1
       rw [X.out.2] at a2
       exact ⟨ret_two (by omega) (by omega), rfl⟩
  ·have X := Lib.hid (ends_stop (l := l.drop k) (by rw [List.drop_eq_nil_of_le (by omega)]; exact sgn_nil))
   go_wp2
   try rw [Exit.noGoto_ret]
   go_ret2
   have a1 := HE.out
   have a2 := HC.out
   rw [X.out.1] at a1
   rw [X.out.2] at a2
   exact ⟨ret_two (by omega) (by omega), rfl⟩
end Go.Proofs.YtkobmnbjeppnaaaGreat
end
section
namespace Go.Proofs.YtkobmnbjeppnaaaGreat
open Go.RowKit
open Wd
set_option maxRecDepth 100000
/-- where the first bytes stand that begin with no sign -/
def fstV (l : List UInt8) : Nat := if valid l = true then 0 else ends l
theorem ret_ib {a c : Int} {b d : Bool} (h : a = c) (h' : b = d) : Ending.returned (.tuple #[.int .i64 a, .bool b]) = .returned (.tuple #[.int .i64 c, .bool d]) := by rw [h, h']
theorem ends_lt {l : List UInt8} (h : ¬ valid l = true) : ends l < l.length := by
 have h1 := (ends_le l).1
 have h2 : ¬ ends l = l.length := fun e => h (valid_iff.2 e)
 omega
theorem first_c (l : List UInt8) (hl : l.length ≤ 140737488351232) (w : World) :
  Calls Tryz.prog 58 #[.string (ba l)] w fun e w' => e = .returned (.tuple #[.int .i64 (fstV l : Int), .bool (!valid l)]) ∧ w = w' := by
 have hs := ba_size l
 by_cases hv : valid l = true
 ·have ht : (((ends l : Nat) : Int) == (l.length : Int)) = true := by rw [valid_iff.1 hv]; simp
  have HF : Hid (fstV l = 0 ∧ (!valid l) = false) := by unfold Hid fstV; rw [if_pos hv, hv]; exact ⟨rfl, rfl⟩
  clear hv
  go_enter Tryz.func58, Tryz.ntmps58
  go_wp2_with (go_at_call 81; refine (signs_c l hl _).mono ?_; rintro e wz ⟨rfl, rfl⟩)
  go_ret2
  exact ⟨ret_ib (by rw [HF.out.1]; rfl) (by rw [HF.out.2]), rfl⟩
 ·have h1 := ends_lt hv
  have ht : (((ends l : Nat) : Int) == (l.length : Int)) = false := by simp; omega
  have HF : Hid (fstV l = ends l ∧ (!valid l) = true) := by unfold Hid fstV; rw [if_neg hv]; exact ⟨rfl, by simpa using hv⟩
  clear hv h1
  go_enter Tryz.func58, Tryz.ntmps58
  go_wp2_with (go_at_call 81; refine (signs_c l hl _).mono ?_; rintro e wz ⟨rfl, rfl⟩)
  go_ret2
  exact ⟨ret_ib (by rw [HF.out.1]) (by rw [HF.out.2]), rfl⟩
theorem valid_c (l : List UInt8) (hl : l.length ≤ 140737488351232) (w : World) :
  Calls Tryz.prog 35 #[.string (ba l)] w fun e w' => e = .returned (.bool (valid l)) ∧ w = w' := by
 go_enter Tryz.func35, Tryz.ntmps35
 go_wp2_with (go_at_call 58; refine (first_c l hl _).mono ?_; rintro e wz ⟨rfl, rfl⟩)
 go_ret
 exact ⟨ret_bool (by simp), rfl⟩
end Go.Proofs.YtkobmnbjeppnaaaGreat
end
section
namespace Go.Proofs.YtkobmnbjeppnaaaGreat
open Go.RowKit
open Wd
set_option maxRecDepth 100000
theorem in_c (l : List UInt8) (_hl : l.length ≤ 140737488351232) (k j lo hi : Nat) (a p q : Int) (ha : a = (k : Int) + (j : Int)) (hp : p = (lo : Int)) (hq : q = (hi : Int)) (w : World) :
  Calls Tryz.prog 119 #[.string (ba l), .int .i64 a, .int .i64 p, .int .i64 q] w fun e w' => e = .returned (.bool (inr (l.drop k) j lo hi)) ∧ w = w' := by
 have hs := ba_size l
 subst hp hq
 obtain ⟨n, hn⟩ : ∃ n, n = k + j := ⟨_, rfl⟩
 obtain rfl : a = (n : Int) := by omega
 rw [inr_drop, ← hn]
 clear ha hn
 by_cases hlt : n < l.length
 ·obtain ⟨b, hb⟩ : ∃ b, l[n]? = some b := ⟨_, List.getElem?_eq_getElem hlt⟩
  have hix := index_ba hb (n : Int) rfl
  have HV := Lib.hid (inr_some (lo := lo) (hi := hi) hb)
  have hbb := b.toNat_lt
  clear hb
  by_cases h1 : lo ≤ b.toNat
  ·by_cases h2 : b.toNat ≤ hi
   ·have HW : Hid (inr l n lo hi = true) := by unfold Hid; rw [HV.out]; simp [h1, h2]
    go_enter Tryz.func119, Tryz.ntmps119
    go_wp2
    go_ret
    exact ⟨ret_bool (by rw [HW.out]), rfl⟩
   ·have HW : Hid (inr l n lo hi = false) := by unfold Hid; rw [HV.out]; simp [h2]
    go_enter Tryz.func119, Tryz.ntmps119
    go_wp2
    go_ret
    exact ⟨ret_bool (by rw [HW.out]), rfl⟩
  ·have HW : Hid (inr l n lo hi = false) := by unfold Hid; rw [HV.out]; simp [h1]
   go_enter Tryz.func119, Tryz.ntmps119
   go_wp2
   go_ret
   exact ⟨ret_bool (by rw [HW.out]), rfl⟩
 ·have HW : Hid (inr l n lo hi = false) := by unfold Hid; exact inr_none (List.getElem?_eq_none (by omega))
  go_enter Tryz.func119, Tryz.ntmps119
  go_wp2
  go_ret
  exact ⟨ret_bool (by rw [HW.out]), rfl⟩
theorem in_0_0_127 (l : List UInt8) (hl : l.length ≤ 140737488351232) (k : Nat) (L : List UInt8) (hL : L = l.drop k) (w : World) : Calls Tryz.prog 119 #[.string (ba l), .int .i64 (k : Int), .int .i64 0, .int .i64 127] w fun e w' => e = .returned (.bool (inr L 0 0 127)) ∧ w = w' := by subst hL; exact in_c l hl k 0 0 127 _ _ _ (by omega) rfl rfl w
theorem in_0_194_223 (l : List UInt8) (hl : l.length ≤ 140737488351232) (k : Nat) (L : List UInt8) (hL : L = l.drop k) (w : World) : Calls Tryz.prog 119 #[.string (ba l), .int .i64 (k : Int), .int .i64 194, .int .i64 223] w fun e w' => e = .returned (.bool (inr L 0 194 223)) ∧ w = w' := by subst hL; exact in_c l hl k 0 194 223 _ _ _ (by omega) rfl rfl w
theorem in_0_224_224 (l : List UInt8) (hl : l.length ≤ 140737488351232) (k : Nat) (L : List UInt8) (hL : L = l.drop k) (w : World) : Calls Tryz.prog 119 #[.string (ba l), .int .i64 (k : Int), .int .i64 224, .int .i64 224] w fun e w' => e = .returned (.bool (inr L 0 224 224)) ∧ w = w' := by subst hL; exact in_c l hl k 0 224 224 _ _ _ (by omega) rfl rfl w
theorem in_0_225_236 (l : List UInt8) (hl : l.length ≤ 140737488351232) (k : Nat) (L : List UInt8) (hL : L = l.drop k) (w : World) : Calls Tryz.prog 119 #[.string (ba l), .int .i64 (k : Int), .int .i64 225, .int .i64 236] w fun e w' => e = .returned (.bool (inr L 0 225 236)) ∧ w = w' := by subst hL; exact in_c l hl k 0 225 236 _ _ _ (by omega) rfl rfl w
theorem in_0_238_239 (l : List UInt8) (hl : l.length ≤ 140737488351232) (k : Nat) (L : List UInt8) (hL : L = l.drop k) (w : World) : Calls Tryz.prog 119 #[.string (ba l), .int .i64 (k : Int), .int .i64 238, .int .i64 239] w fun e w' => e = .returned (.bool (inr L 0 238 239)) ∧ w = w' := by subst hL; exact in_c l hl k 0 238 239 _ _ _ (by omega) rfl rfl w
theorem in_0_237_237 (l : List UInt8) (hl : l.length ≤ 140737488351232) (k : Nat) (L : List UInt8) (hL : L = l.drop k) (w : World) : Calls Tryz.prog 119 #[.string (ba l), .int .i64 (k : Int), .int .i64 237, .int .i64 237] w fun e w' => e = .returned (.bool (inr L 0 237 237)) ∧ w = w' := by subst hL; exact in_c l hl k 0 237 237 _ _ _ (by omega) rfl rfl w
theorem in_0_240_240 (l : List UInt8) (hl : l.length ≤ 140737488351232) (k : Nat) (L : List UInt8) (hL : L = l.drop k) (w : World) : Calls Tryz.prog 119 #[.string (ba l), .int .i64 (k : Int), .int .i64 240, .int .i64 240] w fun e w' => e = .returned (.bool (inr L 0 240 240)) ∧ w = w' := by subst hL; exact in_c l hl k 0 240 240 _ _ _ (by omega) rfl rfl w
theorem in_0_241_243 (l : List UInt8) (hl : l.length ≤ 140737488351232) (k : Nat) (L : List UInt8) (hL : L = l.drop k) (w : World) : Calls Tryz.prog 119 #[.string (ba l), .int .i64 (k : Int), .int .i64 241, .int .i64 243] w fun e w' => e = .returned (.bool (inr L 0 241 243)) ∧ w = w' := by subst hL; exact in_c l hl k 0 241 243 _ _ _ (by omega) rfl rfl w
theorem in_0_244_244 (l : List UInt8) (hl : l.length ≤ 140737488351232) (k : Nat) (L : List UInt8) (hL : L = l.drop k) (w : World) : Calls Tryz.prog 119 #[.string (ba l), .int .i64 (k : Int), .int .i64 244, .int .i64 244] w fun e w' => e = .returned (.bool (inr L 0 244 244)) ∧ w = w' := by subst hL; exact in_c l hl k 0 244 244 _ _ _ (by omega) rfl rfl w
theorem in_1_128_191 (l : List UInt8) (hl : l.length ≤ 140737488351232) (k : Nat) (L : List UInt8) (hL : L = l.drop k) (w : World) : Calls Tryz.prog 119 #[.string (ba l), .int .i64 ((k : Int) + 1), .int .i64 128, .int .i64 191] w fun e w' => e = .returned (.bool (inr L 1 128 191)) ∧ w = w' := by subst hL; exact in_c l hl k 1 128 191 _ _ _ (by omega) rfl rfl w
theorem in_1_160_191 (l : List UInt8) (hl : l.length ≤ 140737488351232) (k : Nat) (L : List UInt8) (hL : L = l.drop k) (w : World) : Calls Tryz.prog 119 #[.string (ba l), .int .i64 ((k : Int) + 1), .int .i64 160, .int .i64 191] w fun e w' => e = .returned (.bool (inr L 1 160 191)) ∧ w = w' := by subst hL; exact in_c l hl k 1 160 191 _ _ _ (by omega) rfl rfl w
theorem in_1_128_159 (l : List UInt8) (hl : l.length ≤ 140737488351232) (k : Nat) (L : List UInt8) (hL : L = l.drop k) (w : World) : Calls Tryz.prog 119 #[.string (ba l), .int .i64 ((k : Int) + 1), .int .i64 128, .int .i64 159] w fun e w' => e = .returned (.bool (inr L 1 128 159)) ∧ w = w' := by subst hL; exact in_c l hl k 1 128 159 _ _ _ (by omega) rfl rfl w
theorem in_1_144_191 (l : List UInt8) (hl : l.length ≤ 140737488351232) (k : Nat) (L : List UInt8) (hL : L = l.drop k) (w : World) : Calls Tryz.prog 119 #[.string (ba l), .int .i64 ((k : Int) + 1), .int .i64 144, .int .i64 191] w fun e w' => e = .returned (.bool (inr L 1 144 191)) ∧ w = w' := by subst hL; exact in_c l hl k 1 144 191 _ _ _ (by omega) rfl rfl w
theorem in_1_128_143 (l : List UInt8) (hl : l.length ≤ 140737488351232) (k : Nat) (L : List UInt8) (hL : L = l.drop k) (w : World) : Calls Tryz.prog 119 #[.string (ba l), .int .i64 ((k : Int) + 1), .int .i64 128, .int .i64 143] w fun e w' => e = .returned (.bool (inr L 1 128 143)) ∧ w = w' := by subst hL; exact in_c l hl k 1 128 143 _ _ _ (by omega) rfl rfl w
theorem in_2_128_191 (l : List UInt8) (hl : l.length ≤ 140737488351232) (k : Nat) (L : List UInt8) (hL : L = l.drop k) (w : World) : Calls Tryz.prog 119 #[.string (ba l), .int .i64 ((k : Int) + 2), .int .i64 128, .int .i64 191] w fun e w' => e = .returned (.bool (inr L 2 128 191)) ∧ w = w' := by subst hL; exact in_c l hl k 2 128 191 _ _ _ (by omega) rfl rfl w
theorem in_3_128_191 (l : List UInt8) (hl : l.length ≤ 140737488351232) (k : Nat) (L : List UInt8) (hL : L = l.drop k) (w : World) : Calls Tryz.prog 119 #[.string (ba l), .int .i64 ((k : Int) + 3), .int .i64 128, .int .i64 191] w fun e w' => e = .returned (.bool (inr L 3 128 191)) ∧ w = w' := by subst hL; exact in_c l hl k 3 128 191 _ _ _ (by omega) rfl rfl w
/-- what the first byte is, for the document's tests -/
theorem first_of (L : List UInt8) : L[0]? = none ∨ ∃ b : UInt8, L[0]? = some b := by
 cases h : L[0]? with
 | none => exact .inl rfl
 | some b => exact .inr ⟨b, rfl⟩
set_option maxHeartbeats 16000000 in
theorem sign_c (l : List UInt8) (hl : l.length ≤ 140737488351232) (k : Nat) (hk : k ≤ l.length) (w : World) :
  Calls Tryz.prog 82 #[.string (ba l), .int .i64 (k : Int)] w fun e w' => e = .returned (.int .i64 (sgn (l.drop k) : Int)) ∧ w = w' := by
 obtain ⟨L, hL⟩ : ∃ L, L = l.drop k := ⟨_, rfl⟩
 have HL := Lib.hid hL
 rw [← hL]
 clear hL
 rcases first_of L with h0 | ⟨b, h0⟩
 ·have hn : ∀ j a b, inr L j a b = false := fun j a b => inr_none (by rw [List.getElem?_eq_none_iff] at h0 ⊢; omega)
  have z0 := hn 0 0 127
  have z1 := hn 0 194 223
  have z2 := hn 0 224 224
  have z3 := hn 0 225 236
  have z4 := hn 0 238 239
  have z5 := hn 0 237 237
  have z6 := hn 0 240 240
  have z7 := hn 0 241 243
  have z8 := hn 0 244 244
  have y2 := hn 2 128 191
  clear hn
  obtain ⟨v, hv⟩ : ∃ v, sgn L = v := ⟨_, rfl⟩
  have hv2 := hv
  unfold sgn at hv2
  simp [*] at hv2
  subst hv2
  have HV := Lib.hid hv
  clear hv
  go_enter Tryz.func82, Tryz.ntmps82
  go_wp2_with (first | (go_at_call 119; (with_reducible refine (in_0_0_127 l hl k L HL.out _).mono ?_); rintro e wz ⟨rfl, rfl⟩) | (go_at_call 119; (with_reducible refine (in_0_194_223 l hl k L HL.out _).mono ?_); rintro e wz ⟨rfl, rfl⟩) | (go_at_call 119; (with_reducible refine (in_0_224_224 l hl k L HL.out _).mono ?_); rintro e wz ⟨rfl, rfl⟩) | (go_at_call 119; (with_reducible refine (in_0_225_236 l hl k L HL.out _).mono ?_); rintro e wz ⟨rfl, rfl⟩) | (go_at_call 119; (with_reducible refine (in_0_238_239 l hl k L HL.out _).mono ?_); rintro e wz ⟨rfl, rfl⟩) | (go_at_call 119; (with_reducible refine (in_0_237_237 l hl k L HL.out _).mono ?_); rintro e wz ⟨rfl, rfl⟩) | (go_at_call 119; (with_reducible refine (in_0_240_240 l hl k L HL.out _).mono ?_); rintro e wz ⟨rfl, rfl⟩) | (go_at_call 119; (with_reducible refine (in_0_241_243 l hl k L HL.out _).mono ?_); rintro e wz ⟨rfl, rfl⟩) | (go_at_call 119; (with_reducible refine (in_0_244_244 l hl k L HL.out _).mono ?_); rintro e wz ⟨rfl, rfl⟩) | (go_at_call 119; (with_reducible refine (in_1_128_191 l hl k L HL.out _).mono ?_); rintro e wz ⟨rfl, rfl⟩) | (go_at_call 119; (with_reducible refine (in_1_160_191 l hl k L HL.out _).mono ?_); rintro e wz ⟨rfl, rfl⟩) | (go_at_call 119; (with_reducible refine (in_1_128_159 l hl k L HL.out _).mono ?_); rintro e wz ⟨rfl, rfl⟩) | (go_at_call 119; (with_reducible refine (in_1_144_191 l hl k L HL.out _).mono ?_); rintro e wz ⟨rfl, rfl⟩) | (go_at_call 119; (with_reducible refine (in_1_128_143 l hl k L HL.out _).mono ?_); rintro e wz ⟨rfl, rfl⟩) | (go_at_call 119; (with_reducible refine (in_2_128_191 l hl k L HL.out _).mono ?_); rintro e wz ⟨rfl, rfl⟩) | (go_at_call 119; (with_reducible refine (in_3_128_191 l hl k L HL.out _).mono ?_); rintro e wz ⟨rfl, rfl⟩))
  go_ret
  exact ⟨ret_int (by rw [HV.out]; rfl), rfl⟩
 ·have hbb := b.toNat_lt
  have off : ∀ c d, (d < b.toNat ∨ b.toNat < c) → inr L 0 c d = false := by
   intro c d hcd
   rw [inr_some h0, Bool.and_eq_false_iff, decide_eq_false_iff_not, decide_eq_false_iff_not]
   omega
  have on : ∀ c d, c ≤ b.toNat → b.toNat ≤ d → inr L 0 c d = true := fun c d h1 h2 => inr_iff.2 ⟨b, h0, h1, h2⟩
  have hcase : (0 ≤ b.toNat ∧ b.toNat ≤ 127) ∨ (194 ≤ b.toNat ∧ b.toNat ≤ 223) ∨ (224 ≤ b.toNat ∧ b.toNat ≤ 224) ∨ (225 ≤ b.toNat ∧ b.toNat ≤ 236) ∨ (238 ≤ b.toNat ∧ b.toNat ≤ 239) ∨ (237 ≤ b.toNat ∧ b.toNat ≤ 237) ∨ (240 ≤ b.toNat ∧ b.toNat ≤ 240) ∨ (241 ≤ b.toNat ∧ b.toNat ≤ 243) ∨ (244 ≤ b.toNat ∧ b.toNat ≤ 244) ∨ (128 ≤ b.toNat ∧ b.toNat ≤ 193 ∨ 245 ≤ b.toNat) := by omega
  rcases hcase with ⟨h1, h2⟩ | ⟨h1, h2⟩ | ⟨h1, h2⟩ | ⟨h1, h2⟩ | ⟨h1, h2⟩ | ⟨h1, h2⟩ | ⟨h1, h2⟩ | ⟨h1, h2⟩ | ⟨h1, h2⟩ | h1
  ·have z0 := on 0 127 (by omega) (by omega)
   have z1 := off 194 223 (by omega)
   have z2 := off 224 224 (by omega)
   have z3 := off 225 236 (by omega)
   have z4 := off 238 239 (by omega)
   have z5 := off 237 237 (by omega)
   have z6 := off 240 240 (by omega)
   have z7 := off 241 243 (by omega)
   have z8 := off 244 244 (by omega)
   clear on off h1 h2 hbb h0
   obtain ⟨v, hv⟩ : ∃ v, sgn L = v := ⟨_, rfl⟩
   have hv2 := hv
   unfold sgn at hv2
   simp [*] at hv2
   subst hv2
   have HV := Lib.hid hv
   clear hv
   go_enter Tryz.func82, Tryz.ntmps82
   go_wp2_with (first | (go_at_call 119; (with_reducible refine (in_0_0_127 l hl k L HL.out _).mono ?_); rintro e wz ⟨rfl, rfl⟩) | (go_at_call 119; (with_reducible refine (in_0_194_223 l hl k L HL.out _).mono ?_); rintro e wz ⟨rfl, rfl⟩) | (go_at_call 119; (with_reducible refine (in_0_224_224 l hl k L HL.out _).mono ?_); rintro e wz ⟨rfl, rfl⟩) | (go_at_call 119; (with_reducible refine (in_0_225_236 l hl k L HL.out _).mono ?_); rintro e wz ⟨rfl, rfl⟩) | (go_at_call 119; (with_reducible refine (in_0_238_239 l hl k L HL.out _).mono ?_); rintro e wz ⟨rfl, rfl⟩) | (go_at_call 119; (with_reducible refine (in_0_237_237 l hl k L HL.out _).mono ?_); rintro e wz ⟨rfl, rfl⟩) | (go_at_call 119; (with_reducible refine (in_0_240_240 l hl k L HL.out _).mono ?_); rintro e wz ⟨rfl, rfl⟩) | (go_at_call 119; (with_reducible refine (in_0_241_243 l hl k L HL.out _).mono ?_); rintro e wz ⟨rfl, rfl⟩) | (go_at_call 119; (with_reducible refine (in_0_244_244 l hl k L HL.out _).mono ?_); rintro e wz ⟨rfl, rfl⟩) | (go_at_call 119; (with_reducible refine (in_1_128_191 l hl k L HL.out _).mono ?_); rintro e wz ⟨rfl, rfl⟩) | (go_at_call 119; (with_reducible refine (in_1_160_191 l hl k L HL.out _).mono ?_); rintro e wz ⟨rfl, rfl⟩) | (go_at_call 119; (with_reducible refine (in_1_128_159 l hl k L HL.out _).mono ?_); rintro e wz ⟨rfl, rfl⟩) | (go_at_call 119; (with_reducible refine (in_1_144_191 l hl k L HL.out _).mono ?_); rintro e wz ⟨rfl, rfl⟩) | (go_at_call 119; (with_reducible refine (in_1_128_143 l hl k L HL.out _).mono ?_); rintro e wz ⟨rfl, rfl⟩) | (go_at_call 119; (with_reducible refine (in_2_128_191 l hl k L HL.out _).mono ?_); rintro e wz ⟨rfl, rfl⟩) | (go_at_call 119; (with_reducible refine (in_3_128_191 l hl k L HL.out _).mono ?_); rintro e wz ⟨rfl, rfl⟩))
   go_ret
   exact ⟨ret_int (by rw [HV.out]; rfl), rfl⟩
  ·have z0 := off 0 127 (by omega)
   have z1 := on 194 223 (by omega) (by omega)
   have z2 := off 224 224 (by omega)
   have z3 := off 225 236 (by omega)
   have z4 := off 238 239 (by omega)
   have z5 := off 237 237 (by omega)
   have z6 := off 240 240 (by omega)
   have z7 := off 241 243 (by omega)
   have z8 := off 244 244 (by omega)
   clear on off h1 h2 hbb h0
   cases y1 : inr L 1 128 191 with
   | true =>
    obtain ⟨v, hv⟩ : ∃ v, sgn L = v := ⟨_, rfl⟩
    have hv2 := hv
    unfold sgn at hv2
    simp [*] at hv2
    subst hv2
    have HV := Lib.hid hv
    clear hv
    go_enter Tryz.func82, Tryz.ntmps82
    go_wp2_with (first | (go_at_call 119; (with_reducible refine (in_0_0_127 l hl k L HL.out _).mono ?_); rintro e wz ⟨rfl, rfl⟩) | (go_at_call 119; (with_reducible refine (in_0_194_223 l hl k L HL.out _).mono ?_); rintro e wz ⟨rfl, rfl⟩) | (go_at_call 119; (with_reducible refine (in_0_224_224 l hl k L HL.out _).mono ?_); rintro e wz ⟨rfl, rfl⟩) | (go_at_call 119; (with_reducible refine (in_0_225_236 l hl k L HL.out _).mono ?_); rintro e wz ⟨rfl, rfl⟩) | (go_at_call 119; (with_reducible refine (in_0_238_239 l hl k L HL.out _).mono ?_); rintro e wz ⟨rfl, rfl⟩) | (go_at_call 119; (with_reducible refine (in_0_237_237 l hl k L HL.out _).mono ?_); rintro e wz ⟨rfl, rfl⟩) | (go_at_call 119; (with_reducible refine (in_0_240_240 l hl k L HL.out _).mono ?_); rintro e wz ⟨rfl, rfl⟩) | (go_at_call 119; (with_reducible refine (in_0_241_243 l hl k L HL.out _).mono ?_); rintro e wz ⟨rfl, rfl⟩) | (go_at_call 119; (with_reducible refine (in_0_244_244 l hl k L HL.out _).mono ?_); rintro e wz ⟨rfl, rfl⟩) | (go_at_call 119; (with_reducible refine (in_1_128_191 l hl k L HL.out _).mono ?_); rintro e wz ⟨rfl, rfl⟩) | (go_at_call 119; (with_reducible refine (in_1_160_191 l hl k L HL.out _).mono ?_); rintro e wz ⟨rfl, rfl⟩) | (go_at_call 119; (with_reducible refine (in_1_128_159 l hl k L HL.out _).mono ?_); rintro e wz ⟨rfl, rfl⟩) | (go_at_call 119; (with_reducible refine (in_1_144_191 l hl k L HL.out _).mono ?_); rintro e wz ⟨rfl, rfl⟩) | (go_at_call 119; (with_reducible refine (in_1_128_143 l hl k L HL.out _).mono ?_); rintro e wz ⟨rfl, rfl⟩) | (go_at_call 119; (with_reducible refine (in_2_128_191 l hl k L HL.out _).mono ?_); rintro e wz ⟨rfl, rfl⟩) | (go_at_call 119; (with_reducible refine (in_3_128_191 l hl k L HL.out _).mono ?_); rintro e wz ⟨rfl, rfl⟩))
    go_ret
    exact ⟨ret_int (by rw [HV.out]; rfl), rfl⟩
   | false =>
    cases y2 : inr L 2 128 191 with
    | false =>
     obtain ⟨v, hv⟩ : ∃ v, sgn L = v := ⟨_, rfl⟩
     have hv2 := hv
     unfold sgn at hv2
     simp [*] at hv2
     subst hv2
     have HV := Lib.hid hv
     clear hv
     go_enter Tryz.func82, Tryz.ntmps82
     go_wp2_with (first | (go_at_call 119; (with_reducible refine (in_0_0_127 l hl k L HL.out _).mono ?_); rintro e wz ⟨rfl, rfl⟩) | (go_at_call 119; (with_reducible refine (in_0_194_223 l hl k L HL.out _).mono ?_); rintro e wz ⟨rfl, rfl⟩) | (go_at_call 119; (with_reducible refine (in_0_224_224 l hl k L HL.out _).mono ?_); rintro e wz ⟨rfl, rfl⟩) | (go_at_call 119; (with_reducible refine (in_0_225_236 l hl k L HL.out _).mono ?_); rintro e wz ⟨rfl, rfl⟩) | (go_at_call 119; (with_reducible refine (in_0_238_239 l hl k L HL.out _).mono ?_); rintro e wz ⟨rfl, rfl⟩) | (go_at_call 119; (with_reducible refine (in_0_237_237 l hl k L HL.out _).mono ?_); rintro e wz ⟨rfl, rfl⟩) | (go_at_call 119; (with_reducible refine (in_0_240_240 l hl k L HL.out _).mono ?_); rintro e wz ⟨rfl, rfl⟩) | (go_at_call 119; (with_reducible refine (in_0_241_243 l hl k L HL.out _).mono ?_); rintro e wz ⟨rfl, rfl⟩) | (go_at_call 119; (with_reducible refine (in_0_244_244 l hl k L HL.out _).mono ?_); rintro e wz ⟨rfl, rfl⟩) | (go_at_call 119; (with_reducible refine (in_1_128_191 l hl k L HL.out _).mono ?_); rintro e wz ⟨rfl, rfl⟩) | (go_at_call 119; (with_reducible refine (in_1_160_191 l hl k L HL.out _).mono ?_); rintro e wz ⟨rfl, rfl⟩) | (go_at_call 119; (with_reducible refine (in_1_128_159 l hl k L HL.out _).mono ?_); rintro e wz ⟨rfl, rfl⟩) | (go_at_call 119; (with_reducible refine (in_1_144_191 l hl k L HL.out _).mono ?_); rintro e wz ⟨rfl, rfl⟩) | (go_at_call 119; (with_reducible refine (in_1_128_143 l hl k L HL.out _).mono ?_); rintro e wz ⟨rfl, rfl⟩) | (go_at_call 119; (with_reducible refine (in_2_128_191 l hl k L HL.out _).mono ?_); rintro e wz ⟨rfl, rfl⟩) | (go_at_call 119; (with_reducible refine (in_3_128_191 l hl k L HL.out _).mono ?_); rintro e wz ⟨rfl, rfl⟩))
     go_ret
     exact ⟨ret_int (by rw [HV.out]; rfl), rfl⟩
    | true =>
     cases y3 : inr L 3 128 191 with
     | false =>
      obtain ⟨v, hv⟩ : ∃ v, sgn L = v := ⟨_, rfl⟩
      have hv2 := hv
      unfold sgn at hv2
      simp [*] at hv2
      subst hv2
      have HV := Lib.hid hv
      clear hv
      go_enter Tryz.func82, Tryz.ntmps82
      go_wp2_with (first | (go_at_call 119; (with_reducible refine (in_0_0_127 l hl k L HL.out _).mono ?_); rintro e wz ⟨rfl, rfl⟩) | (go_at_call 119; (with_reducible refine (in_0_194_223 l hl k L HL.out _).mono ?_); rintro e wz ⟨rfl, rfl⟩) | (go_at_call 119; (with_reducible refine (in_0_224_224 l hl k L HL.out _).mono ?_); rintro e wz ⟨rfl, rfl⟩) | (go_at_call 119; (with_reducible refine (in_0_225_236 l hl k L HL.out _).mono ?_); rintro e wz ⟨rfl, rfl⟩) | (go_at_call 119; (with_reducible refine (in_0_238_239 l hl k L HL.out _).mono ?_); rintro e wz ⟨rfl, rfl⟩) | (go_at_call 119; (with_reducible refine (in_0_237_237 l hl k L HL.out _).mono ?_); rintro e wz ⟨rfl, rfl⟩) | (go_at_call 119; (with_reducible refine (in_0_240_240 l hl k L HL.out _).mono ?_); rintro e wz ⟨rfl, rfl⟩) | (go_at_call 119; (with_reducible refine (in_0_241_243 l hl k L HL.out _).mono ?_); rintro e wz ⟨rfl, rfl⟩) | (go_at_call 119; (with_reducible refine (in_0_244_244 l hl k L HL.out _).mono ?_); rintro e wz ⟨rfl, rfl⟩) | (go_at_call 119; (with_reducible refine (in_1_128_191 l hl k L HL.out _).mono ?_); rintro e wz ⟨rfl, rfl⟩) | (go_at_call 119; (with_reducible refine (in_1_160_191 l hl k L HL.out _).mono ?_); rintro e wz ⟨rfl, rfl⟩) | (go_at_call 119; (with_reducible refine (in_1_128_159 l hl k L HL.out _).mono ?_); rintro e wz ⟨rfl, rfl⟩) | (go_at_call 119; (with_reducible refine (in_1_144_191 l hl k L HL.out _).mono ?_); rintro e wz ⟨rfl, rfl⟩) | (go_at_call 119; (with_reducible refine (in_1_128_143 l hl k L HL.out _).mono ?_); rintro e wz ⟨rfl, rfl⟩) | (go_at_call 119; (with_reducible refine (in_2_128_191 l hl k L HL.out _).mono ?_); rintro e wz ⟨rfl, rfl⟩) | (go_at_call 119; (with_reducible refine (in_3_128_191 l hl k L HL.out _).mono ?_); rintro e wz ⟨rfl, rfl⟩))
      go_ret
      exact ⟨ret_int (by rw [HV.out]; rfl), rfl⟩
     | true =>
      obtain ⟨v, hv⟩ : ∃ v, sgn L = v := ⟨_, rfl⟩
      have hv2 := hv
      unfold sgn at hv2
      simp [*] at hv2
      subst hv2
      have HV := Lib.hid hv
      clear hv
      go_enter Tryz.func82, Tryz.ntmps82
      go_wp2_with (first | (go_at_call 119; (with_reducible refine (in_0_0_127 l hl k L HL.out _).mono ?_); rintro e wz ⟨rfl, rfl⟩) | (go_at_call 119; (with_reducible refine (in_0_194_223 l hl k L HL.out _).mono ?_); rintro e wz ⟨rfl, rfl⟩) | (go_at_call 119; (with_reducible refine (in_0_224_224 l hl k L HL.out _).mono ?_); rintro e wz ⟨rfl, rfl⟩) | (go_at_call 119; (with_reducible refine (in_0_225_236 l hl k L HL.out _).mono ?_); rintro e wz ⟨rfl, rfl⟩) | (go_at_call 119; (with_reducible refine (in_0_238_239 l hl k L HL.out _).mono ?_); rintro e wz ⟨rfl, rfl⟩) | (go_at_call 119; (with_reducible refine (in_0_237_237 l hl k L HL.out _).mono ?_); rintro e wz ⟨rfl, rfl⟩) | (go_at_call 119; (with_reducible refine (in_0_240_240 l hl k L HL.out _).mono ?_); rintro e wz ⟨rfl, rfl⟩) | (go_at_call 119; (with_reducible refine (in_0_241_243 l hl k L HL.out _).mono ?_); rintro e wz ⟨rfl, rfl⟩) | (go_at_call 119; (with_reducible refine (in_0_244_244 l hl k L HL.out _).mono ?_); rintro e wz ⟨rfl, rfl⟩) | (go_at_call 119; (with_reducible refine (in_1_128_191 l hl k L HL.out _).mono ?_); rintro e wz ⟨rfl, rfl⟩) | (go_at_call 119; (with_reducible refine (in_1_160_191 l hl k L HL.out _).mono ?_); rintro e wz ⟨rfl, rfl⟩) | (go_at_call 119; (with_reducible refine (in_1_128_159 l hl k L HL.out _).mono ?_); rintro e wz ⟨rfl, rfl⟩) | (go_at_call 119; (with_reducible refine (in_1_144_191 l hl k L HL.out _).mono ?_); rintro e wz ⟨rfl, rfl⟩) | (go_at_call 119; (with_reducible refine (in_1_128_143 l hl k L HL.out _).mono ?_); rintro e wz ⟨rfl, rfl⟩) | (go_at_call 119; (with_reducible refine (in_2_128_191 l hl k L HL.out _).mono ?_); rintro e wz ⟨rfl, rfl⟩) | (go_at_call 119; (with_reducible refine (in_3_128_191 l hl k L HL.out _).mono ?_); rintro e wz ⟨rfl, rfl⟩))
      go_ret
      exact ⟨ret_int (by rw [HV.out]; rfl), rfl⟩
  ·have z0 := off 0 127 (by omega)
   have z1 := off 194 223 (by omega)
   have z2 := on 224 224 (by omega) (by omega)
   have z3 := off 225 236 (by omega)
   have z4 := off 238 239 (by omega)
   have z5 := off 237 237 (by omega)
   have z6 := off 240 240 (by omega)
   have z7 := off 241 243 (by omega)
   have z8 := off 244 244 (by omega)
   clear on off h1 h2 hbb h0
   cases y2 : inr L 2 128 191 with
   | false =>
    obtain ⟨v, hv⟩ : ∃ v, sgn L = v := ⟨_, rfl⟩
    have hv2 := hv
    unfold sgn at hv2
    simp [*] at hv2
    subst hv2
    have HV := Lib.hid hv
    clear hv
    go_enter Tryz.func82, Tryz.ntmps82
    go_wp2_with (first | (go_at_call 119; (with_reducible refine (in_0_0_127 l hl k L HL.out _).mono ?_); rintro e wz ⟨rfl, rfl⟩) | (go_at_call 119; (with_reducible refine (in_0_194_223 l hl k L HL.out _).mono ?_); rintro e wz ⟨rfl, rfl⟩) | (go_at_call 119; (with_reducible refine (in_0_224_224 l hl k L HL.out _).mono ?_); rintro e wz ⟨rfl, rfl⟩) | (go_at_call 119; (with_reducible refine (in_0_225_236 l hl k L HL.out _).mono ?_); rintro e wz ⟨rfl, rfl⟩) | (go_at_call 119; (with_reducible refine (in_0_238_239 l hl k L HL.out _).mono ?_); rintro e wz ⟨rfl, rfl⟩) | (go_at_call 119; (with_reducible refine (in_0_237_237 l hl k L HL.out _).mono ?_); rintro e wz ⟨rfl, rfl⟩) | (go_at_call 119; (with_reducible refine (in_0_240_240 l hl k L HL.out _).mono ?_); rintro e wz ⟨rfl, rfl⟩) | (go_at_call 119; (with_reducible refine (in_0_241_243 l hl k L HL.out _).mono ?_); rintro e wz ⟨rfl, rfl⟩) | (go_at_call 119; (with_reducible refine (in_0_244_244 l hl k L HL.out _).mono ?_); rintro e wz ⟨rfl, rfl⟩) | (go_at_call 119; (with_reducible refine (in_1_128_191 l hl k L HL.out _).mono ?_); rintro e wz ⟨rfl, rfl⟩) | (go_at_call 119; (with_reducible refine (in_1_160_191 l hl k L HL.out _).mono ?_); rintro e wz ⟨rfl, rfl⟩) | (go_at_call 119; (with_reducible refine (in_1_128_159 l hl k L HL.out _).mono ?_); rintro e wz ⟨rfl, rfl⟩) | (go_at_call 119; (with_reducible refine (in_1_144_191 l hl k L HL.out _).mono ?_); rintro e wz ⟨rfl, rfl⟩) | (go_at_call 119; (with_reducible refine (in_1_128_143 l hl k L HL.out _).mono ?_); rintro e wz ⟨rfl, rfl⟩) | (go_at_call 119; (with_reducible refine (in_2_128_191 l hl k L HL.out _).mono ?_); rintro e wz ⟨rfl, rfl⟩) | (go_at_call 119; (with_reducible refine (in_3_128_191 l hl k L HL.out _).mono ?_); rintro e wz ⟨rfl, rfl⟩))
    go_ret
    exact ⟨ret_int (by rw [HV.out]; rfl), rfl⟩
   | true =>
    cases y1 : inr L 1 160 191 with
    | true =>
     obtain ⟨v, hv⟩ : ∃ v, sgn L = v := ⟨_, rfl⟩
     have hv2 := hv
     unfold sgn at hv2
     simp [*] at hv2
     subst hv2
     have HV := Lib.hid hv
     clear hv
     go_enter Tryz.func82, Tryz.ntmps82
     go_wp2_with (first | (go_at_call 119; (with_reducible refine (in_0_0_127 l hl k L HL.out _).mono ?_); rintro e wz ⟨rfl, rfl⟩) | (go_at_call 119; (with_reducible refine (in_0_194_223 l hl k L HL.out _).mono ?_); rintro e wz ⟨rfl, rfl⟩) | (go_at_call 119; (with_reducible refine (in_0_224_224 l hl k L HL.out _).mono ?_); rintro e wz ⟨rfl, rfl⟩) | (go_at_call 119; (with_reducible refine (in_0_225_236 l hl k L HL.out _).mono ?_); rintro e wz ⟨rfl, rfl⟩) | (go_at_call 119; (with_reducible refine (in_0_238_239 l hl k L HL.out _).mono ?_); rintro e wz ⟨rfl, rfl⟩) | (go_at_call 119; (with_reducible refine (in_0_237_237 l hl k L HL.out _).mono ?_); rintro e wz ⟨rfl, rfl⟩) | (go_at_call 119; (with_reducible refine (in_0_240_240 l hl k L HL.out _).mono ?_); rintro e wz ⟨rfl, rfl⟩) | (go_at_call 119; (with_reducible refine (in_0_241_243 l hl k L HL.out _).mono ?_); rintro e wz ⟨rfl, rfl⟩) | (go_at_call 119; (with_reducible refine (in_0_244_244 l hl k L HL.out _).mono ?_); rintro e wz ⟨rfl, rfl⟩) | (go_at_call 119; (with_reducible refine (in_1_128_191 l hl k L HL.out _).mono ?_); rintro e wz ⟨rfl, rfl⟩) | (go_at_call 119; (with_reducible refine (in_1_160_191 l hl k L HL.out _).mono ?_); rintro e wz ⟨rfl, rfl⟩) | (go_at_call 119; (with_reducible refine (in_1_128_159 l hl k L HL.out _).mono ?_); rintro e wz ⟨rfl, rfl⟩) | (go_at_call 119; (with_reducible refine (in_1_144_191 l hl k L HL.out _).mono ?_); rintro e wz ⟨rfl, rfl⟩) | (go_at_call 119; (with_reducible refine (in_1_128_143 l hl k L HL.out _).mono ?_); rintro e wz ⟨rfl, rfl⟩) | (go_at_call 119; (with_reducible refine (in_2_128_191 l hl k L HL.out _).mono ?_); rintro e wz ⟨rfl, rfl⟩) | (go_at_call 119; (with_reducible refine (in_3_128_191 l hl k L HL.out _).mono ?_); rintro e wz ⟨rfl, rfl⟩))
     go_ret
     exact ⟨ret_int (by rw [HV.out]; rfl), rfl⟩
    | false =>
     cases y3 : inr L 3 128 191 with
     | false =>
      obtain ⟨v, hv⟩ : ∃ v, sgn L = v := ⟨_, rfl⟩
      have hv2 := hv
      unfold sgn at hv2
      simp [*] at hv2
      subst hv2
      have HV := Lib.hid hv
      clear hv
      go_enter Tryz.func82, Tryz.ntmps82
      go_wp2_with (first | (go_at_call 119; (with_reducible refine (in_0_0_127 l hl k L HL.out _).mono ?_); rintro e wz ⟨rfl, rfl⟩) | (go_at_call 119; (with_reducible refine (in_0_194_223 l hl k L HL.out _).mono ?_); rintro e wz ⟨rfl, rfl⟩) | (go_at_call 119; (with_reducible refine (in_0_224_224 l hl k L HL.out _).mono ?_); rintro e wz ⟨rfl, rfl⟩) | (go_at_call 119; (with_reducible refine (in_0_225_236 l hl k L HL.out _).mono ?_); rintro e wz ⟨rfl, rfl⟩) | (go_at_call 119; (with_reducible refine (in_0_238_239 l hl k L HL.out _).mono ?_); rintro e wz ⟨rfl, rfl⟩) | (go_at_call 119; (with_reducible refine (in_0_237_237 l hl k L HL.out _).mono ?_); rintro e wz ⟨rfl, rfl⟩) | (go_at_call 119; (with_reducible refine (in_0_240_240 l hl k L HL.out _).mono ?_); rintro e wz ⟨rfl, rfl⟩) | (go_at_call 119; (with_reducible refine (in_0_241_243 l hl k L HL.out _).mono ?_); rintro e wz ⟨rfl, rfl⟩) | (go_at_call 119; (with_reducible refine (in_0_244_244 l hl k L HL.out _).mono ?_); rintro e wz ⟨rfl, rfl⟩) | (go_at_call 119; (with_reducible refine (in_1_128_191 l hl k L HL.out _).mono ?_); rintro e wz ⟨rfl, rfl⟩) | (go_at_call 119; (with_reducible refine (in_1_160_191 l hl k L HL.out _).mono ?_); rintro e wz ⟨rfl, rfl⟩) | (go_at_call 119; (with_reducible refine (in_1_128_159 l hl k L HL.out _).mono ?_); rintro e wz ⟨rfl, rfl⟩) | (go_at_call 119; (with_reducible refine (in_1_144_191 l hl k L HL.out _).mono ?_); rintro e wz ⟨rfl, rfl⟩) | (go_at_call 119; (with_reducible refine (in_1_128_143 l hl k L HL.out _).mono ?_); rintro e wz ⟨rfl, rfl⟩) | (go_at_call 119; (with_reducible refine (in_2_128_191 l hl k L HL.out _).mono ?_); rintro e wz ⟨rfl, rfl⟩) | (go_at_call 119; (with_reducible refine (in_3_128_191 l hl k L HL.out _).mono ?_); rintro e wz ⟨rfl, rfl⟩))
      go_ret
      exact ⟨ret_int (by rw [HV.out]; rfl), rfl⟩
     | true =>
      obtain ⟨v, hv⟩ : ∃ v, sgn L = v := ⟨_, rfl⟩
      have hv2 := hv
      unfold sgn at hv2
      simp [*] at hv2
      subst hv2
      have HV := Lib.hid hv
      clear hv
      go_enter Tryz.func82, Tryz.ntmps82
      go_wp2_with (first | (go_at_call 119; (with_reducible refine (in_0_0_127 l hl k L HL.out _).mono ?_); rintro e wz ⟨rfl, rfl⟩) | (go_at_call 119; (with_reducible refine (in_0_194_223 l hl k L HL.out _).mono ?_); rintro e wz ⟨rfl, rfl⟩) | (go_at_call 119; (with_reducible refine (in_0_224_224 l hl k L HL.out _).mono ?_); rintro e wz ⟨rfl, rfl⟩) | (go_at_call 119; (with_reducible refine (in_0_225_236 l hl k L HL.out _).mono ?_); rintro e wz ⟨rfl, rfl⟩) | (go_at_call 119; (with_reducible refine (in_0_238_239 l hl k L HL.out _).mono ?_); rintro e wz ⟨rfl, rfl⟩) | (go_at_call 119; (with_reducible refine (in_0_237_237 l hl k L HL.out _).mono ?_); rintro e wz ⟨rfl, rfl⟩) | (go_at_call 119; (with_reducible refine (in_0_240_240 l hl k L HL.out _).mono ?_); rintro e wz ⟨rfl, rfl⟩) | (go_at_call 119; (with_reducible refine (in_0_241_243 l hl k L HL.out _).mono ?_); rintro e wz ⟨rfl, rfl⟩) | (go_at_call 119; (with_reducible refine (in_0_244_244 l hl k L HL.out _).mono ?_); rintro e wz ⟨rfl, rfl⟩) | (go_at_call 119; (with_reducible refine (in_1_128_191 l hl k L HL.out _).mono ?_); rintro e wz ⟨rfl, rfl⟩) | (go_at_call 119; (with_reducible refine (in_1_160_191 l hl k L HL.out _).mono ?_); rintro e wz ⟨rfl, rfl⟩) | (go_at_call 119; (with_reducible refine (in_1_128_159 l hl k L HL.out _).mono ?_); rintro e wz ⟨rfl, rfl⟩) | (go_at_call 119; (with_reducible refine (in_1_144_191 l hl k L HL.out _).mono ?_); rintro e wz ⟨rfl, rfl⟩) | (go_at_call 119; (with_reducible refine (in_1_128_143 l hl k L HL.out _).mono ?_); rintro e wz ⟨rfl, rfl⟩) | (go_at_call 119; (with_reducible refine (in_2_128_191 l hl k L HL.out _).mono ?_); rintro e wz ⟨rfl, rfl⟩) | (go_at_call 119; (with_reducible refine (in_3_128_191 l hl k L HL.out _).mono ?_); rintro e wz ⟨rfl, rfl⟩))
      go_ret
      exact ⟨ret_int (by rw [HV.out]; rfl), rfl⟩
  ·have z0 := off 0 127 (by omega)
   have z1 := off 194 223 (by omega)
   have z2 := off 224 224 (by omega)
   have z3 := on 225 236 (by omega) (by omega)
   have z4 := off 238 239 (by omega)
   have z5 := off 237 237 (by omega)
   have z6 := off 240 240 (by omega)
   have z7 := off 241 243 (by omega)
   have z8 := off 244 244 (by omega)
   clear on off h1 h2 hbb h0
   cases y2 : inr L 2 128 191 with
   | false =>
    obtain ⟨v, hv⟩ : ∃ v, sgn L = v := ⟨_, rfl⟩
    have hv2 := hv
    unfold sgn at hv2
    simp [*] at hv2
    subst hv2
    have HV := Lib.hid hv
    clear hv
    go_enter Tryz.func82, Tryz.ntmps82
    go_wp2_with (first | (go_at_call 119; (with_reducible refine (in_0_0_127 l hl k L HL.out _).mono ?_); rintro e wz ⟨rfl, rfl⟩) | (go_at_call 119; (with_reducible refine (in_0_194_223 l hl k L HL.out _).mono ?_); rintro e wz ⟨rfl, rfl⟩) | (go_at_call 119; (with_reducible refine (in_0_224_224 l hl k L HL.out _).mono ?_); rintro e wz ⟨rfl, rfl⟩) | (go_at_call 119; (with_reducible refine (in_0_225_236 l hl k L HL.out _).mono ?_); rintro e wz ⟨rfl, rfl⟩) | (go_at_call 119; (with_reducible refine (in_0_238_239 l hl k L HL.out _).mono ?_); rintro e wz ⟨rfl, rfl⟩) | (go_at_call 119; (with_reducible refine (in_0_237_237 l hl k L HL.out _).mono ?_); rintro e wz ⟨rfl, rfl⟩) | (go_at_call 119; (with_reducible refine (in_0_240_240 l hl k L HL.out _).mono ?_); rintro e wz ⟨rfl, rfl⟩) | (go_at_call 119; (with_reducible refine (in_0_241_243 l hl k L HL.out _).mono ?_); rintro e wz ⟨rfl, rfl⟩) | (go_at_call 119; (with_reducible refine (in_0_244_244 l hl k L HL.out _).mono ?_); rintro e wz ⟨rfl, rfl⟩) | (go_at_call 119; (with_reducible refine (in_1_128_191 l hl k L HL.out _).mono ?_); rintro e wz ⟨rfl, rfl⟩) | (go_at_call 119; (with_reducible refine (in_1_160_191 l hl k L HL.out _).mono ?_); rintro e wz ⟨rfl, rfl⟩) | (go_at_call 119; (with_reducible refine (in_1_128_159 l hl k L HL.out _).mono ?_); rintro e wz ⟨rfl, rfl⟩) | (go_at_call 119; (with_reducible refine (in_1_144_191 l hl k L HL.out _).mono ?_); rintro e wz ⟨rfl, rfl⟩) | (go_at_call 119; (with_reducible refine (in_1_128_143 l hl k L HL.out _).mono ?_); rintro e wz ⟨rfl, rfl⟩) | (go_at_call 119; (with_reducible refine (in_2_128_191 l hl k L HL.out _).mono ?_); rintro e wz ⟨rfl, rfl⟩) | (go_at_call 119; (with_reducible refine (in_3_128_191 l hl k L HL.out _).mono ?_); rintro e wz ⟨rfl, rfl⟩))
    go_ret
    exact ⟨ret_int (by rw [HV.out]; rfl), rfl⟩
   | true =>
    cases y1 : inr L 1 128 191 with
    | true =>
     obtain ⟨v, hv⟩ : ∃ v, sgn L = v := ⟨_, rfl⟩
     have hv2 := hv
     unfold sgn at hv2
     simp [*] at hv2
     subst hv2
     have HV := Lib.hid hv
     clear hv
     go_enter Tryz.func82, Tryz.ntmps82
     go_wp2_with (first | (go_at_call 119; (with_reducible refine (in_0_0_127 l hl k L HL.out _).mono ?_); rintro e wz ⟨rfl, rfl⟩) | (go_at_call 119; (with_reducible refine (in_0_194_223 l hl k L HL.out _).mono ?_); rintro e wz ⟨rfl, rfl⟩) | (go_at_call 119; (with_reducible refine (in_0_224_224 l hl k L HL.out _).mono ?_); rintro e wz ⟨rfl, rfl⟩) | (go_at_call 119; (with_reducible refine (in_0_225_236 l hl k L HL.out _).mono ?_); rintro e wz ⟨rfl, rfl⟩) | (go_at_call 119; (with_reducible refine (in_0_238_239 l hl k L HL.out _).mono ?_); rintro e wz ⟨rfl, rfl⟩) | (go_at_call 119; (with_reducible refine (in_0_237_237 l hl k L HL.out _).mono ?_); rintro e wz ⟨rfl, rfl⟩) | (go_at_call 119; (with_reducible refine (in_0_240_240 l hl k L HL.out _).mono ?_); rintro e wz ⟨rfl, rfl⟩) | (go_at_call 119; (with_reducible refine (in_0_241_243 l hl k L HL.out _).mono ?_); rintro e wz ⟨rfl, rfl⟩) | (go_at_call 119; (with_reducible refine (in_0_244_244 l hl k L HL.out _).mono ?_); rintro e wz ⟨rfl, rfl⟩) | (go_at_call 119; (with_reducible refine (in_1_128_191 l hl k L HL.out _).mono ?_); rintro e wz ⟨rfl, rfl⟩) | (go_at_call 119; (with_reducible refine (in_1_160_191 l hl k L HL.out _).mono ?_); rintro e wz ⟨rfl, rfl⟩) | (go_at_call 119; (with_reducible refine (in_1_128_159 l hl k L HL.out _).mono ?_); rintro e wz ⟨rfl, rfl⟩) | (go_at_call 119; (with_reducible refine (in_1_144_191 l hl k L HL.out _).mono ?_); rintro e wz ⟨rfl, rfl⟩) | (go_at_call 119; (with_reducible refine (in_1_128_143 l hl k L HL.out _).mono ?_); rintro e wz ⟨rfl, rfl⟩) | (go_at_call 119; (with_reducible refine (in_2_128_191 l hl k L HL.out _).mono ?_); rintro e wz ⟨rfl, rfl⟩) | (go_at_call 119; (with_reducible refine (in_3_128_191 l hl k L HL.out _).mono ?_); rintro e wz ⟨rfl, rfl⟩))
     go_ret
     exact ⟨ret_int (by rw [HV.out]; rfl), rfl⟩
    | false =>
     cases y3 : inr L 3 128 191 with
     | false =>
      obtain ⟨v, hv⟩ : ∃ v, sgn L = v := ⟨_, rfl⟩
      have hv2 := hv
      unfold sgn at hv2
      simp [*] at hv2
      subst hv2
      have HV := Lib.hid hv
      clear hv
      go_enter Tryz.func82, Tryz.ntmps82
      go_wp2_with (first | (go_at_call 119; (with_reducible refine (in_0_0_127 l hl k L HL.out _).mono ?_); rintro e wz ⟨rfl, rfl⟩) | (go_at_call 119; (with_reducible refine (in_0_194_223 l hl k L HL.out _).mono ?_); rintro e wz ⟨rfl, rfl⟩) | (go_at_call 119; (with_reducible refine (in_0_224_224 l hl k L HL.out _).mono ?_); rintro e wz ⟨rfl, rfl⟩) | (go_at_call 119; (with_reducible refine (in_0_225_236 l hl k L HL.out _).mono ?_); rintro e wz ⟨rfl, rfl⟩) | (go_at_call 119; (with_reducible refine (in_0_238_239 l hl k L HL.out _).mono ?_); rintro e wz ⟨rfl, rfl⟩) | (go_at_call 119; (with_reducible refine (in_0_237_237 l hl k L HL.out _).mono ?_); rintro e wz ⟨rfl, rfl⟩) | (go_at_call 119; (with_reducible refine (in_0_240_240 l hl k L HL.out _).mono ?_); rintro e wz ⟨rfl, rfl⟩) | (go_at_call 119; (with_reducible refine (in_0_241_243 l hl k L HL.out _).mono ?_); rintro e wz ⟨rfl, rfl⟩) | (go_at_call 119; (with_reducible refine (in_0_244_244 l hl k L HL.out _).mono ?_); rintro e wz ⟨rfl, rfl⟩) | (go_at_call 119; (with_reducible refine (in_1_128_191 l hl k L HL.out _).mono ?_); rintro e wz ⟨rfl, rfl⟩) | (go_at_call 119; (with_reducible refine (in_1_160_191 l hl k L HL.out _).mono ?_); rintro e wz ⟨rfl, rfl⟩) | (go_at_call 119; (with_reducible refine (in_1_128_159 l hl k L HL.out _).mono ?_); rintro e wz ⟨rfl, rfl⟩) | (go_at_call 119; (with_reducible refine (in_1_144_191 l hl k L HL.out _).mono ?_); rintro e wz ⟨rfl, rfl⟩) | (go_at_call 119; (with_reducible refine (in_1_128_143 l hl k L HL.out _).mono ?_); rintro e wz ⟨rfl, rfl⟩) | (go_at_call 119; (with_reducible refine (in_2_128_191 l hl k L HL.out _).mono ?_); rintro e wz ⟨rfl, rfl⟩) | (go_at_call 119; (with_reducible refine (in_3_128_191 l hl k L HL.out _).mono ?_); rintro e wz ⟨rfl, rfl⟩))
      go_ret
      exact ⟨ret_int (by rw [HV.out]; rfl), rfl⟩
     | true =>
      obtain ⟨v, hv⟩ : ∃ v, sgn L = v := ⟨_, rfl⟩
      have hv2 := hv
      unfold sgn at hv2
      simp [*] at hv2
      subst hv2
      have HV := Lib.hid hv
      clear hv
      go_enter Tryz.func82, Tryz.ntmps82
      go_wp2_with (first | (go_at_call 119; (with_reducible refine (in_0_0_127 l hl k L HL.out _).mono ?_); rintro e wz ⟨rfl, rfl⟩) | (go_at_call 119; (with_reducible refine (in_0_194_223 l hl k L HL.out _).mono ?_); rintro e wz ⟨rfl, rfl⟩) | (go_at_call 119; (with_reducible refine (in_0_224_224 l hl k L HL.out _).mono ?_); rintro e wz ⟨rfl, rfl⟩) | (go_at_call 119; (with_reducible refine (in_0_225_236 l hl k L HL.out _).mono ?_); rintro e wz ⟨rfl, rfl⟩) | (go_at_call 119; (with_reducible refine (in_0_238_239 l hl k L HL.out _).mono ?_); rintro e wz ⟨rfl, rfl⟩) | (go_at_call 119; (with_reducible refine (in_0_237_237 l hl k L HL.out _).mono ?_); rintro e wz ⟨rfl, rfl⟩) | (go_at_call 119; (with_reducible refine (in_0_240_240 l hl k L HL.out _).mono ?_); rintro e wz ⟨rfl, rfl⟩) | (go_at_call 119; (with_reducible refine (in_0_241_243 l hl k L HL.out _).mono ?_); rintro e wz ⟨rfl, rfl⟩) | (go_at_call 119; (with_reducible refine (in_0_244_244 l hl k L HL.out _).mono ?_); rintro e wz ⟨rfl, rfl⟩) | (go_at_call 119; (with_reducible refine (in_1_128_191 l hl k L HL.out _).mono ?_); rintro e wz ⟨rfl, rfl⟩) | (go_at_call 119; (with_reducible refine (in_1_160_191 l hl k L HL.out _).mono ?_); rintro e wz ⟨rfl, rfl⟩) | (go_at_call 119; (with_reducible refine (in_1_128_159 l hl k L HL.out _).mono ?_); rintro e wz ⟨rfl, rfl⟩) | (go_at_call 119; (with_reducible refine (in_1_144_191 l hl k L HL.out _).mono ?_); rintro e wz ⟨rfl, rfl⟩) | (go_at_call 119; (with_reducible refine (in_1_128_143 l hl k L HL.out _).mono ?_); rintro e wz ⟨rfl, rfl⟩) | (go_at_call 119; (with_reducible refine (in_2_128_191 l hl k L HL.out _).mono ?_); rintro e wz ⟨rfl, rfl⟩) | (go_at_call 119; (with_reducible refine (in_3_128_191 l hl k L HL.out _).mono ?_); rintro e wz ⟨rfl, rfl⟩))
      go_ret
      exact ⟨ret_int (by rw [HV.out]; rfl), rfl⟩
  ·have z0 := off 0 127 (by omega)
   have z1 := off 194 223 (by omega)
   have z2 := off 224 224 (by omega)
   have z3 := off 225 236 (by omega)
   have z4 := on 238 239 (by omega) (by omega)
   have z5 := off 237 237 (by omega)
   have z6 := off 240 240 (by omega)
   have z7 := off 241 243 (by omega)
   have z8 := off 244 244 (by omega)
   clear on off h1 h2 hbb h0
   cases y2 : inr L 2 128 191 with
   | false =>
    obtain ⟨v, hv⟩ : ∃ v, sgn L = v := ⟨_, rfl⟩
    have hv2 := hv
    unfold sgn at hv2
    simp [*] at hv2
    subst hv2
    have HV := Lib.hid hv
    clear hv
    go_enter Tryz.func82, Tryz.ntmps82
    go_wp2_with (first | (go_at_call 119; (with_reducible refine (in_0_0_127 l hl k L HL.out _).mono ?_); rintro e wz ⟨rfl, rfl⟩) | (go_at_call 119; (with_reducible refine (in_0_194_223 l hl k L HL.out _).mono ?_); rintro e wz ⟨rfl, rfl⟩) | (go_at_call 119; (with_reducible refine (in_0_224_224 l hl k L HL.out _).mono ?_); rintro e wz ⟨rfl, rfl⟩) | (go_at_call 119; (with_reducible refine (in_0_225_236 l hl k L HL.out _).mono ?_); rintro e wz ⟨rfl, rfl⟩) | (go_at_call 119; (with_reducible refine (in_0_238_239 l hl k L HL.out _).mono ?_); rintro e wz ⟨rfl, rfl⟩) | (go_at_call 119; (with_reducible refine (in_0_237_237 l hl k L HL.out _).mono ?_); rintro e wz ⟨rfl, rfl⟩) | (go_at_call 119; (with_reducible refine (in_0_240_240 l hl k L HL.out _).mono ?_); rintro e wz ⟨rfl, rfl⟩) | (go_at_call 119; (with_reducible refine (in_0_241_243 l hl k L HL.out _).mono ?_); rintro e wz ⟨rfl, rfl⟩) | (go_at_call 119; (with_reducible refine (in_0_244_244 l hl k L HL.out _).mono ?_); rintro e wz ⟨rfl, rfl⟩) | (go_at_call 119; (with_reducible refine (in_1_128_191 l hl k L HL.out _).mono ?_); rintro e wz ⟨rfl, rfl⟩) | (go_at_call 119; (with_reducible refine (in_1_160_191 l hl k L HL.out _).mono ?_); rintro e wz ⟨rfl, rfl⟩) | (go_at_call 119; (with_reducible refine (in_1_128_159 l hl k L HL.out _).mono ?_); rintro e wz ⟨rfl, rfl⟩) | (go_at_call 119; (with_reducible refine (in_1_144_191 l hl k L HL.out _).mono ?_); rintro e wz ⟨rfl, rfl⟩) | (go_at_call 119; (with_reducible refine (in_1_128_143 l hl k L HL.out _).mono ?_); rintro e wz ⟨rfl, rfl⟩) | (go_at_call 119; (with_reducible refine (in_2_128_191 l hl k L HL.out _).mono ?_); rintro e wz ⟨rfl, rfl⟩) | (go_at_call 119; (with_reducible refine (in_3_128_191 l hl k L HL.out _).mono ?_); rintro e wz ⟨rfl, rfl⟩))
    go_ret
    exact ⟨ret_int (by rw [HV.out]; rfl), rfl⟩
   | true =>
    cases y1 : inr L 1 128 191 with
    | true =>
     obtain ⟨v, hv⟩ : ∃ v, sgn L = v := ⟨_, rfl⟩
     have hv2 := hv
     unfold sgn at hv2
     simp [*] at hv2
     subst hv2
     have HV := Lib.hid hv
     clear hv
     go_enter Tryz.func82, Tryz.ntmps82
     go_wp2_with (first | (go_at_call 119; (with_reducible refine (in_0_0_127 l hl k L HL.out _).mono ?_); rintro e wz ⟨rfl, rfl⟩) | (go_at_call 119; (with_reducible refine (in_0_194_223 l hl k L HL.out _).mono ?_); rintro e wz ⟨rfl, rfl⟩) | (go_at_call 119; (with_reducible refine (in_0_224_224 l hl k L HL.out _).mono ?_); rintro e wz ⟨rfl, rfl⟩) | (go_at_call 119; (with_reducible refine (in_0_225_236 l hl k L HL.out _).mono ?_); rintro e wz ⟨rfl, rfl⟩) | (go_at_call 119; (with_reducible refine (in_0_238_239 l hl k L HL.out _).mono ?_); rintro e wz ⟨rfl, rfl⟩) | (go_at_call 119; (with_reducible refine (in_0_237_237 l hl k L HL.out _).mono ?_); rintro e wz ⟨rfl, rfl⟩) | (go_at_call 119; (with_reducible refine (in_0_240_240 l hl k L HL.out _).mono ?_); rintro e wz ⟨rfl, rfl⟩) | (go_at_call 119; (with_reducible refine (in_0_241_243 l hl k L HL.out _).mono ?_); rintro e wz ⟨rfl, rfl⟩) | (go_at_call 119; (with_reducible refine (in_0_244_244 l hl k L HL.out _).mono ?_); rintro e wz ⟨rfl, rfl⟩) | (go_at_call 119; (with_reducible refine (in_1_128_191 l hl k L HL.out _).mono ?_); rintro e wz ⟨rfl, rfl⟩) | (go_at_call 119; (with_reducible refine (in_1_160_191 l hl k L HL.out _).mono ?_); rintro e wz ⟨rfl, rfl⟩) | (go_at_call 119; (with_reducible refine (in_1_128_159 l hl k L HL.out _).mono ?_); rintro e wz ⟨rfl, rfl⟩) | (go_at_call 119; (with_reducible refine (in_1_144_191 l hl k L HL.out _).mono ?_); rintro e wz ⟨rfl, rfl⟩) | (go_at_call 119; (with_reducible refine (in_1_128_143 l hl k L HL.out _).mono ?_); rintro e wz ⟨rfl, rfl⟩) | (go_at_call 119; (with_reducible refine (in_2_128_191 l hl k L HL.out _).mono ?_); rintro e wz ⟨rfl, rfl⟩) | (go_at_call 119; (with_reducible refine (in_3_128_191 l hl k L HL.out _).mono ?_); rintro e wz ⟨rfl, rfl⟩))
     go_ret
     exact ⟨ret_int (by rw [HV.out]; rfl), rfl⟩
    | false =>
     cases y3 : inr L 3 128 191 with
     | false =>
      obtain ⟨v, hv⟩ : ∃ v, sgn L = v := ⟨_, rfl⟩
      have hv2 := hv
      unfold sgn at hv2
      simp [*] at hv2
      subst hv2
      have HV := Lib.hid hv
      clear hv
      go_enter Tryz.func82, Tryz.ntmps82
      go_wp2_with (first | (go_at_call 119; (with_reducible refine (in_0_0_127 l hl k L HL.out _).mono ?_); rintro e wz ⟨rfl, rfl⟩) | (go_at_call 119; (with_reducible refine (in_0_194_223 l hl k L HL.out _).mono ?_); rintro e wz ⟨rfl, rfl⟩) | (go_at_call 119; (with_reducible refine (in_0_224_224 l hl k L HL.out _).mono ?_); rintro e wz ⟨rfl, rfl⟩) | (go_at_call 119; (with_reducible refine (in_0_225_236 l hl k L HL.out _).mono ?_); rintro e wz ⟨rfl, rfl⟩) | (go_at_call 119; (with_reducible refine (in_0_238_239 l hl k L HL.out _).mono ?_); rintro e wz ⟨rfl, rfl⟩) | (go_at_call 119; (with_reducible refine (in_0_237_237 l hl k L HL.out _).mono ?_); rintro e wz ⟨rfl, rfl⟩) | (go_at_call 119; (with_reducible refine (in_0_240_240 l hl k L HL.out _).mono ?_); rintro e wz ⟨rfl, rfl⟩) | (go_at_call 119; (with_reducible refine (in_0_241_243 l hl k L HL.out _).mono ?_); rintro e wz ⟨rfl, rfl⟩) | (go_at_call 119; (with_reducible refine (in_0_244_244 l hl k L HL.out _).mono ?_); rintro e wz ⟨rfl, rfl⟩) | (go_at_call 119; (with_reducible refine (in_1_128_191 l hl k L HL.out _).mono ?_); rintro e wz ⟨rfl, rfl⟩) | (go_at_call 119; (with_reducible refine (in_1_160_191 l hl k L HL.out _).mono ?_); rintro e wz ⟨rfl, rfl⟩) | (go_at_call 119; (with_reducible refine (in_1_128_159 l hl k L HL.out _).mono ?_); rintro e wz ⟨rfl, rfl⟩) | (go_at_call 119; (with_reducible refine (in_1_144_191 l hl k L HL.out _).mono ?_); rintro e wz ⟨rfl, rfl⟩) | (go_at_call 119; (with_reducible refine (in_1_128_143 l hl k L HL.out _).mono ?_); rintro e wz ⟨rfl, rfl⟩) | (go_at_call 119; (with_reducible refine (in_2_128_191 l hl k L HL.out _).mono ?_); rintro e wz ⟨rfl, rfl⟩) | (go_at_call 119; (with_reducible refine (in_3_128_191 l hl k L HL.out _).mono ?_); rintro e wz ⟨rfl, rfl⟩))
      go_ret
      exact ⟨ret_int (by rw [HV.out]; rfl), rfl⟩
     | true =>
      obtain ⟨v, hv⟩ : ∃ v, sgn L = v := ⟨_, rfl⟩
      have hv2 := hv
      unfold sgn at hv2
      simp [*] at hv2
      subst hv2
      have HV := Lib.hid hv
      clear hv
      go_enter Tryz.func82, Tryz.ntmps82
      go_wp2_with (first | (go_at_call 119; (with_reducible refine (in_0_0_127 l hl k L HL.out _).mono ?_); rintro e wz ⟨rfl, rfl⟩) | (go_at_call 119; (with_reducible refine (in_0_194_223 l hl k L HL.out _).mono ?_); rintro e wz ⟨rfl, rfl⟩) | (go_at_call 119; (with_reducible refine (in_0_224_224 l hl k L HL.out _).mono ?_); rintro e wz ⟨rfl, rfl⟩) | (go_at_call 119; (with_reducible refine (in_0_225_236 l hl k L HL.out _).mono ?_); rintro e wz ⟨rfl, rfl⟩) | (go_at_call 119; (with_reducible refine (in_0_238_239 l hl k L HL.out _).mono ?_); rintro e wz ⟨rfl, rfl⟩) | (go_at_call 119; (with_reducible refine (in_0_237_237 l hl k L HL.out _).mono ?_); rintro e wz ⟨rfl, rfl⟩) | (go_at_call 119; (with_reducible refine (in_0_240_240 l hl k L HL.out _).mono ?_); rintro e wz ⟨rfl, rfl⟩) | (go_at_call 119; (with_reducible refine (in_0_241_243 l hl k L HL.out _).mono ?_); rintro e wz ⟨rfl, rfl⟩) | (go_at_call 119; (with_reducible refine (in_0_244_244 l hl k L HL.out _).mono ?_); rintro e wz ⟨rfl, rfl⟩) | (go_at_call 119; (with_reducible refine (in_1_128_191 l hl k L HL.out _).mono ?_); rintro e wz ⟨rfl, rfl⟩) | (go_at_call 119; (with_reducible refine (in_1_160_191 l hl k L HL.out _).mono ?_); rintro e wz ⟨rfl, rfl⟩) | (go_at_call 119; (with_reducible refine (in_1_128_159 l hl k L HL.out _).mono ?_); rintro e wz ⟨rfl, rfl⟩) | (go_at_call 119; (with_reducible refine (in_1_144_191 l hl k L HL.out _).mono ?_); rintro e wz ⟨rfl, rfl⟩) | (go_at_call 119; (with_reducible refine (in_1_128_143 l hl k L HL.out _).mono ?_); rintro e wz ⟨rfl, rfl⟩) | (go_at_call 119; (with_reducible refine (in_2_128_191 l hl k L HL.out _).mono ?_); rintro e wz ⟨rfl, rfl⟩) | (go_at_call 119; (with_reducible refine (in_3_128_191 l hl k L HL.out _).mono ?_); rintro e wz ⟨rfl, rfl⟩))
      go_ret
      exact ⟨ret_int (by rw [HV.out]; rfl), rfl⟩
  ·have z0 := off 0 127 (by omega)
   have z1 := off 194 223 (by omega)
   have z2 := off 224 224 (by omega)
   have z3 := off 225 236 (by omega)
   have z4 := off 238 239 (by omega)
   have z5 := on 237 237 (by omega) (by omega)
   have z6 := off 240 240 (by omega)
   have z7 := off 241 243 (by omega)
   have z8 := off 244 244 (by omega)
   clear on off h1 h2 hbb h0
   cases y2 : inr L 2 128 191 with
   | false =>
    obtain ⟨v, hv⟩ : ∃ v, sgn L = v := ⟨_, rfl⟩
    have hv2 := hv
    unfold sgn at hv2
    simp [*] at hv2
    subst hv2
    have HV := Lib.hid hv
    clear hv
    go_enter Tryz.func82, Tryz.ntmps82
    go_wp2_with (first | (go_at_call 119; (with_reducible refine (in_0_0_127 l hl k L HL.out _).mono ?_); rintro e wz ⟨rfl, rfl⟩) | (go_at_call 119; (with_reducible refine (in_0_194_223 l hl k L HL.out _).mono ?_); rintro e wz ⟨rfl, rfl⟩) | (go_at_call 119; (with_reducible refine (in_0_224_224 l hl k L HL.out _).mono ?_); rintro e wz ⟨rfl, rfl⟩) | (go_at_call 119; (with_reducible refine (in_0_225_236 l hl k L HL.out _).mono ?_); rintro e wz ⟨rfl, rfl⟩) | (go_at_call 119; (with_reducible refine (in_0_238_239 l hl k L HL.out _).mono ?_); rintro e wz ⟨rfl, rfl⟩) | (go_at_call 119; (with_reducible refine (in_0_237_237 l hl k L HL.out _).mono ?_); rintro e wz ⟨rfl, rfl⟩) | (go_at_call 119; (with_reducible refine (in_0_240_240 l hl k L HL.out _).mono ?_); rintro e wz ⟨rfl, rfl⟩) | (go_at_call 119; (with_reducible refine (in_0_241_243 l hl k L HL.out _).mono ?_); rintro e wz ⟨rfl, rfl⟩) | (go_at_call 119; (with_reducible refine (in_0_244_244 l hl k L HL.out _).mono ?_); rintro e wz ⟨rfl, rfl⟩) | (go_at_call 119; (with_reducible refine (in_1_128_191 l hl k L HL.out _).mono ?_); rintro e wz ⟨rfl, rfl⟩) | (go_at_call 119; (with_reducible refine (in_1_160_191 l hl k L HL.out _).mono ?_); rintro e wz ⟨rfl, rfl⟩) | (go_at_call 119; (with_reducible refine (in_1_128_159 l hl k L HL.out _).mono ?_); rintro e wz ⟨rfl, rfl⟩) | (go_at_call 119; (with_reducible refine (in_1_144_191 l hl k L HL.out _).mono ?_); rintro e wz ⟨rfl, rfl⟩) | (go_at_call 119; (with_reducible refine (in_1_128_143 l hl k L HL.out _).mono ?_); rintro e wz ⟨rfl, rfl⟩) | (go_at_call 119; (with_reducible refine (in_2_128_191 l hl k L HL.out _).mono ?_); rintro e wz ⟨rfl, rfl⟩) | (go_at_call 119; (with_reducible refine (in_3_128_191 l hl k L HL.out _).mono ?_); rintro e wz ⟨rfl, rfl⟩))
    go_ret
    exact ⟨ret_int (by rw [HV.out]; rfl), rfl⟩
   | true =>
    cases y1 : inr L 1 128 159 with
    | true =>
     obtain ⟨v, hv⟩ : ∃ v, sgn L = v := ⟨_, rfl⟩
     have hv2 := hv
     unfold sgn at hv2
     simp [*] at hv2
     subst hv2
     have HV := Lib.hid hv
     clear hv
     go_enter Tryz.func82, Tryz.ntmps82
     go_wp2_with (first | (go_at_call 119; (with_reducible refine (in_0_0_127 l hl k L HL.out _).mono ?_); rintro e wz ⟨rfl, rfl⟩) | (go_at_call 119; (with_reducible refine (in_0_194_223 l hl k L HL.out _).mono ?_); rintro e wz ⟨rfl, rfl⟩) | (go_at_call 119; (with_reducible refine (in_0_224_224 l hl k L HL.out _).mono ?_); rintro e wz ⟨rfl, rfl⟩) | (go_at_call 119; (with_reducible refine (in_0_225_236 l hl k L HL.out _).mono ?_); rintro e wz ⟨rfl, rfl⟩) | (go_at_call 119; (with_reducible refine (in_0_238_239 l hl k L HL.out _).mono ?_); rintro e wz ⟨rfl, rfl⟩) | (go_at_call 119; (with_reducible refine (in_0_237_237 l hl k L HL.out _).mono ?_); rintro e wz ⟨rfl, rfl⟩) | (go_at_call 119; (with_reducible refine (in_0_240_240 l hl k L HL.out _).mono ?_); rintro e wz ⟨rfl, rfl⟩) | (go_at_call 119; (with_reducible refine (in_0_241_243 l hl k L HL.out _).mono ?_); rintro e wz ⟨rfl, rfl⟩) | (go_at_call 119; (with_reducible refine (in_0_244_244 l hl k L HL.out _).mono ?_); rintro e wz ⟨rfl, rfl⟩) | (go_at_call 119; (with_reducible refine (in_1_128_191 l hl k L HL.out _).mono ?_); rintro e wz ⟨rfl, rfl⟩) | (go_at_call 119; (with_reducible refine (in_1_160_191 l hl k L HL.out _).mono ?_); rintro e wz ⟨rfl, rfl⟩) | (go_at_call 119; (with_reducible refine (in_1_128_159 l hl k L HL.out _).mono ?_); rintro e wz ⟨rfl, rfl⟩) | (go_at_call 119; (with_reducible refine (in_1_144_191 l hl k L HL.out _).mono ?_); rintro e wz ⟨rfl, rfl⟩) | (go_at_call 119; (with_reducible refine (in_1_128_143 l hl k L HL.out _).mono ?_); rintro e wz ⟨rfl, rfl⟩) | (go_at_call 119; (with_reducible refine (in_2_128_191 l hl k L HL.out _).mono ?_); rintro e wz ⟨rfl, rfl⟩) | (go_at_call 119; (with_reducible refine (in_3_128_191 l hl k L HL.out _).mono ?_); rintro e wz ⟨rfl, rfl⟩))
     go_ret
     exact ⟨ret_int (by rw [HV.out]; rfl), rfl⟩
    | false =>
     cases y3 : inr L 3 128 191 with
     | false =>
      obtain ⟨v, hv⟩ : ∃ v, sgn L = v := ⟨_, rfl⟩
      have hv2 := hv
      unfold sgn at hv2
      simp [*] at hv2
      subst hv2
      have HV := Lib.hid hv
      clear hv
      go_enter Tryz.func82, Tryz.ntmps82
      go_wp2_with (first | (go_at_call 119; (with_reducible refine (in_0_0_127 l hl k L HL.out _).mono ?_); rintro e wz ⟨rfl, rfl⟩) | (go_at_call 119; (with_reducible refine (in_0_194_223 l hl k L HL.out _).mono ?_); rintro e wz ⟨rfl, rfl⟩) | (go_at_call 119; (with_reducible refine (in_0_224_224 l hl k L HL.out _).mono ?_); rintro e wz ⟨rfl, rfl⟩) | (go_at_call 119; (with_reducible refine (in_0_225_236 l hl k L HL.out _).mono ?_); rintro e wz ⟨rfl, rfl⟩) | (go_at_call 119; (with_reducible refine (in_0_238_239 l hl k L HL.out _).mono ?_); rintro e wz ⟨rfl, rfl⟩) | (go_at_call 119; (with_reducible refine (in_0_237_237 l hl k L HL.out _).mono ?_); rintro e wz ⟨rfl, rfl⟩) | (go_at_call 119; (with_reducible refine (in_0_240_240 l hl k L HL.out _).mono ?_); rintro e wz ⟨rfl, rfl⟩) | (go_at_call 119; (with_reducible refine (in_0_241_243 l hl k L HL.out _).mono ?_); rintro e wz ⟨rfl, rfl⟩) | (go_at_call 119; (with_reducible refine (in_0_244_244 l hl k L HL.out _).mono ?_); rintro e wz ⟨rfl, rfl⟩) | (go_at_call 119; (with_reducible refine (in_1_128_191 l hl k L HL.out _).mono ?_); rintro e wz ⟨rfl, rfl⟩) | (go_at_call 119; (with_reducible refine (in_1_160_191 l hl k L HL.out _).mono ?_); rintro e wz ⟨rfl, rfl⟩) | (go_at_call 119; (with_reducible refine (in_1_128_159 l hl k L HL.out _).mono ?_); rintro e wz ⟨rfl, rfl⟩) | (go_at_call 119; (with_reducible refine (in_1_144_191 l hl k L HL.out _).mono ?_); rintro e wz ⟨rfl, rfl⟩) | (go_at_call 119; (with_reducible refine (in_1_128_143 l hl k L HL.out _).mono ?_); rintro e wz ⟨rfl, rfl⟩) | (go_at_call 119; (with_reducible refine (in_2_128_191 l hl k L HL.out _).mono ?_); rintro e wz ⟨rfl, rfl⟩) | (go_at_call 119; (with_reducible refine (in_3_128_191 l hl k L HL.out _).mono ?_); rintro e wz ⟨rfl, rfl⟩))
      go_ret
      exact ⟨ret_int (by rw [HV.out]; rfl), rfl⟩
     | true =>
      obtain ⟨v, hv⟩ : ∃ v, sgn L = v := ⟨_, rfl⟩
      have hv2 := hv
      unfold sgn at hv2
      simp [*] at hv2
      subst hv2
      have HV := Lib.hid hv
      clear hv
      go_enter Tryz.func82, Tryz.ntmps82
      go_wp2_with (first | (go_at_call 119; (with_reducible refine (in_0_0_127 l hl k L HL.out _).mono ?_); rintro e wz ⟨rfl, rfl⟩) | (go_at_call 119; (with_reducible refine (in_0_194_223 l hl k L HL.out _).mono ?_); rintro e wz ⟨rfl, rfl⟩) | (go_at_call 119; (with_reducible refine (in_0_224_224 l hl k L HL.out _).mono ?_); rintro e wz ⟨rfl, rfl⟩) | (go_at_call 119; (with_reducible refine (in_0_225_236 l hl k L HL.out _).mono ?_); rintro e wz ⟨rfl, rfl⟩) | (go_at_call 119; (with_reducible refine (in_0_238_239 l hl k L HL.out _).mono ?_); rintro e wz ⟨rfl, rfl⟩) | (go_at_call 119; (with_reducible refine (in_0_237_237 l hl k L HL.out _).mono ?_); rintro e wz ⟨rfl, rfl⟩) | (go_at_call 119; (with_reducible refine (in_0_240_240 l hl k L HL.out _).mono ?_); rintro e wz ⟨rfl, rfl⟩) | (go_at_call 119; (with_reducible refine (in_0_241_243 l hl k L HL.out _).mono ?_); rintro e wz ⟨rfl, rfl⟩) | (go_at_call 119; (with_reducible refine (in_0_244_244 l hl k L HL.out _).mono ?_); rintro e wz ⟨rfl, rfl⟩) | (go_at_call 119; (with_reducible refine (in_1_128_191 l hl k L HL.out _).mono ?_); rintro e wz ⟨rfl, rfl⟩) | (go_at_call 119; (with_reducible refine (in_1_160_191 l hl k L HL.out _).mono ?_); rintro e wz ⟨rfl, rfl⟩) | (go_at_call 119; (with_reducible refine (in_1_128_159 l hl k L HL.out _).mono ?_); rintro e wz ⟨rfl, rfl⟩) | (go_at_call 119; (with_reducible refine (in_1_144_191 l hl k L HL.out _).mono ?_); rintro e wz ⟨rfl, rfl⟩) | (go_at_call 119; (with_reducible refine (in_1_128_143 l hl k L HL.out _).mono ?_); rintro e wz ⟨rfl, rfl⟩) | (go_at_call 119; (with_reducible refine (in_2_128_191 l hl k L HL.out _).mono ?_); rintro e wz ⟨rfl, rfl⟩) | (go_at_call 119; (with_reducible refine (in_3_128_191 l hl k L HL.out _).mono ?_); rintro e wz ⟨rfl, rfl⟩))
      go_ret
      exact ⟨ret_int (by rw [HV.out]; rfl), rfl⟩
  ·have z0 := off 0 127 (by omega)
   have z1 := off 194 223 (by omega)
   have z2 := off 224 224 (by omega)
   have z3 := off 225 236 (by omega)
   have z4 := off 238 239 (by omega)
   have z5 := off 237 237 (by omega)
   have z6 := on 240 240 (by omega) (by omega)
   have z7 := off 241 243 (by omega)
   have z8 := off 244 244 (by omega)
   clear on off h1 h2 hbb h0
   cases y2 : inr L 2 128 191 with
   | false =>
    obtain ⟨v, hv⟩ : ∃ v, sgn L = v := ⟨_, rfl⟩
    have hv2 := hv
    unfold sgn at hv2
    simp [*] at hv2
    subst hv2
    have HV := Lib.hid hv
    clear hv
    go_enter Tryz.func82, Tryz.ntmps82
    go_wp2_with (first | (go_at_call 119; (with_reducible refine (in_0_0_127 l hl k L HL.out _).mono ?_); rintro e wz ⟨rfl, rfl⟩) | (go_at_call 119; (with_reducible refine (in_0_194_223 l hl k L HL.out _).mono ?_); rintro e wz ⟨rfl, rfl⟩) | (go_at_call 119; (with_reducible refine (in_0_224_224 l hl k L HL.out _).mono ?_); rintro e wz ⟨rfl, rfl⟩) | (go_at_call 119; (with_reducible refine (in_0_225_236 l hl k L HL.out _).mono ?_); rintro e wz ⟨rfl, rfl⟩) | (go_at_call 119; (with_reducible refine (in_0_238_239 l hl k L HL.out _).mono ?_); rintro e wz ⟨rfl, rfl⟩) | (go_at_call 119; (with_reducible refine (in_0_237_237 l hl k L HL.out _).mono ?_); rintro e wz ⟨rfl, rfl⟩) | (go_at_call 119; (with_reducible refine (in_0_240_240 l hl k L HL.out _).mono ?_); rintro e wz ⟨rfl, rfl⟩) | (go_at_call 119; (with_reducible refine (in_0_241_243 l hl k L HL.out _).mono ?_); rintro e wz ⟨rfl, rfl⟩) | (go_at_call 119; (with_reducible refine (in_0_244_244 l hl k L HL.out _).mono ?_); rintro e wz ⟨rfl, rfl⟩) | (go_at_call 119; (with_reducible refine (in_1_128_191 l hl k L HL.out _).mono ?_); rintro e wz ⟨rfl, rfl⟩) | (go_at_call 119; (with_reducible refine (in_1_160_191 l hl k L HL.out _).mono ?_); rintro e wz ⟨rfl, rfl⟩) | (go_at_call 119; (with_reducible refine (in_1_128_159 l hl k L HL.out _).mono ?_); rintro e wz ⟨rfl, rfl⟩) | (go_at_call 119; (with_reducible refine (in_1_144_191 l hl k L HL.out _).mono ?_); rintro e wz ⟨rfl, rfl⟩) | (go_at_call 119; (with_reducible refine (in_1_128_143 l hl k L HL.out _).mono ?_); rintro e wz ⟨rfl, rfl⟩) | (go_at_call 119; (with_reducible refine (in_2_128_191 l hl k L HL.out _).mono ?_); rintro e wz ⟨rfl, rfl⟩) | (go_at_call 119; (with_reducible refine (in_3_128_191 l hl k L HL.out _).mono ?_); rintro e wz ⟨rfl, rfl⟩))
    go_ret
    exact ⟨ret_int (by rw [HV.out]; rfl), rfl⟩
   | true =>
    cases y3 : inr L 3 128 191 with
    | false =>
     obtain ⟨v, hv⟩ : ∃ v, sgn L = v := ⟨_, rfl⟩
     have hv2 := hv
     unfold sgn at hv2
     simp [*] at hv2
     subst hv2
     have HV := Lib.hid hv
     clear hv
     go_enter Tryz.func82, Tryz.ntmps82
     go_wp2_with (first | (go_at_call 119; (with_reducible refine (in_0_0_127 l hl k L HL.out _).mono ?_); rintro e wz ⟨rfl, rfl⟩) | (go_at_call 119; (with_reducible refine (in_0_194_223 l hl k L HL.out _).mono ?_); rintro e wz ⟨rfl, rfl⟩) | (go_at_call 119; (with_reducible refine (in_0_224_224 l hl k L HL.out _).mono ?_); rintro e wz ⟨rfl, rfl⟩) | (go_at_call 119; (with_reducible refine (in_0_225_236 l hl k L HL.out _).mono ?_); rintro e wz ⟨rfl, rfl⟩) | (go_at_call 119; (with_reducible refine (in_0_238_239 l hl k L HL.out _).mono ?_); rintro e wz ⟨rfl, rfl⟩) | (go_at_call 119; (with_reducible refine (in_0_237_237 l hl k L HL.out _).mono ?_); rintro e wz ⟨rfl, rfl⟩) | (go_at_call 119; (with_reducible refine (in_0_240_240 l hl k L HL.out _).mono ?_); rintro e wz ⟨rfl, rfl⟩) | (go_at_call 119; (with_reducible refine (in_0_241_243 l hl k L HL.out _).mono ?_); rintro e wz ⟨rfl, rfl⟩) | (go_at_call 119; (with_reducible refine (in_0_244_244 l hl k L HL.out _).mono ?_); rintro e wz ⟨rfl, rfl⟩) | (go_at_call 119; (with_reducible refine (in_1_128_191 l hl k L HL.out _).mono ?_); rintro e wz ⟨rfl, rfl⟩) | (go_at_call 119; (with_reducible refine (in_1_160_191 l hl k L HL.out _).mono ?_); rintro e wz ⟨rfl, rfl⟩) | (go_at_call 119; (with_reducible refine (in_1_128_159 l hl k L HL.out _).mono ?_); rintro e wz ⟨rfl, rfl⟩) | (go_at_call 119; (with_reducible refine (in_1_144_191 l hl k L HL.out _).mono ?_); rintro e wz ⟨rfl, rfl⟩) | (go_at_call 119; (with_reducible refine (in_1_128_143 l hl k L HL.out _).mono ?_); rintro e wz ⟨rfl, rfl⟩) | (go_at_call 119; (with_reducible refine (in_2_128_191 l hl k L HL.out _).mono ?_); rintro e wz ⟨rfl, rfl⟩) | (go_at_call 119; (with_reducible refine (in_3_128_191 l hl k L HL.out _).mono ?_); rintro e wz ⟨rfl, rfl⟩))
     go_ret
     exact ⟨ret_int (by rw [HV.out]; rfl), rfl⟩
    | true =>
     cases y1 : inr L 1 144 191 with
     | false =>
      obtain ⟨v, hv⟩ : ∃ v, sgn L = v := ⟨_, rfl⟩
      have hv2 := hv
      unfold sgn at hv2
      simp [*] at hv2
      subst hv2
      have HV := Lib.hid hv
      clear hv
      go_enter Tryz.func82, Tryz.ntmps82
      go_wp2_with (first | (go_at_call 119; (with_reducible refine (in_0_0_127 l hl k L HL.out _).mono ?_); rintro e wz ⟨rfl, rfl⟩) | (go_at_call 119; (with_reducible refine (in_0_194_223 l hl k L HL.out _).mono ?_); rintro e wz ⟨rfl, rfl⟩) | (go_at_call 119; (with_reducible refine (in_0_224_224 l hl k L HL.out _).mono ?_); rintro e wz ⟨rfl, rfl⟩) | (go_at_call 119; (with_reducible refine (in_0_225_236 l hl k L HL.out _).mono ?_); rintro e wz ⟨rfl, rfl⟩) | (go_at_call 119; (with_reducible refine (in_0_238_239 l hl k L HL.out _).mono ?_); rintro e wz ⟨rfl, rfl⟩) | (go_at_call 119; (with_reducible refine (in_0_237_237 l hl k L HL.out _).mono ?_); rintro e wz ⟨rfl, rfl⟩) | (go_at_call 119; (with_reducible refine (in_0_240_240 l hl k L HL.out _).mono ?_); rintro e wz ⟨rfl, rfl⟩) | (go_at_call 119; (with_reducible refine (in_0_241_243 l hl k L HL.out _).mono ?_); rintro e wz ⟨rfl, rfl⟩) | (go_at_call 119; (with_reducible refine (in_0_244_244 l hl k L HL.out _).mono ?_); rintro e wz ⟨rfl, rfl⟩) | (go_at_call 119; (with_reducible refine (in_1_128_191 l hl k L HL.out _).mono ?_); rintro e wz ⟨rfl, rfl⟩) | (go_at_call 119; (with_reducible refine (in_1_160_191 l hl k L HL.out _).mono ?_); rintro e wz ⟨rfl, rfl⟩) | (go_at_call 119; (with_reducible refine (in_1_128_159 l hl k L HL.out _).mono ?_); rintro e wz ⟨rfl, rfl⟩) | (go_at_call 119; (with_reducible refine (in_1_144_191 l hl k L HL.out _).mono ?_); rintro e wz ⟨rfl, rfl⟩) | (go_at_call 119; (with_reducible refine (in_1_128_143 l hl k L HL.out _).mono ?_); rintro e wz ⟨rfl, rfl⟩) | (go_at_call 119; (with_reducible refine (in_2_128_191 l hl k L HL.out _).mono ?_); rintro e wz ⟨rfl, rfl⟩) | (go_at_call 119; (with_reducible refine (in_3_128_191 l hl k L HL.out _).mono ?_); rintro e wz ⟨rfl, rfl⟩))
      go_ret
      exact ⟨ret_int (by rw [HV.out]; rfl), rfl⟩
     | true =>
      obtain ⟨v, hv⟩ : ∃ v, sgn L = v := ⟨_, rfl⟩
      have hv2 := hv
      unfold sgn at hv2
      simp [*] at hv2
      subst hv2
      have HV := Lib.hid hv
      clear hv
      go_enter Tryz.func82, Tryz.ntmps82
      go_wp2_with (first | (go_at_call 119; (with_reducible refine (in_0_0_127 l hl k L HL.out _).mono ?_); rintro e wz ⟨rfl, rfl⟩) | (go_at_call 119; (with_reducible refine (in_0_194_223 l hl k L HL.out _).mono ?_); rintro e wz ⟨rfl, rfl⟩) | (go_at_call 119; (with_reducible refine (in_0_224_224 l hl k L HL.out _).mono ?_); rintro e wz ⟨rfl, rfl⟩) | (go_at_call 119; (with_reducible refine (in_0_225_236 l hl k L HL.out _).mono ?_); rintro e wz ⟨rfl, rfl⟩) | (go_at_call 119; (with_reducible refine (in_0_238_239 l hl k L HL.out _).mono ?_); rintro e wz ⟨rfl, rfl⟩) | (go_at_call 119; (with_reducible refine (in_0_237_237 l hl k L HL.out _).mono ?_); rintro e wz ⟨rfl, rfl⟩) | (go_at_call 119; (with_reducible refine (in_0_240_240 l hl k L HL.out _).mono ?_); rintro e wz ⟨rfl, rfl⟩) | (go_at_call 119; (with_reducible refine (in_0_241_243 l hl k L HL.out _).mono ?_); rintro e wz ⟨rfl, rfl⟩) | (go_at_call 119; (with_reducible refine (in_0_244_244 l hl k L HL.out _).mono ?_); rintro e wz ⟨rfl, rfl⟩) | (go_at_call 119; (with_reducible refine (in_1_128_191 l hl k L HL.out _).mono ?_); rintro e wz ⟨rfl, rfl⟩) | (go_at_call 119; (with_reducible refine (in_1_160_191 l hl k L HL.out _).mono ?_); rintro e wz ⟨rfl, rfl⟩) | (go_at_call 119; (with_reducible refine (in_1_128_159 l hl k L HL.out _).mono ?_); rintro e wz ⟨rfl, rfl⟩) | (go_at_call 119; (with_reducible refine (in_1_144_191 l hl k L HL.out _).mono ?_); rintro e wz ⟨rfl, rfl⟩) | (go_at_call 119; (with_reducible refine (in_1_128_143 l hl k L HL.out _).mono ?_); rintro e wz ⟨rfl, rfl⟩) | (go_at_call 119; (with_reducible refine (in_2_128_191 l hl k L HL.out _).mono ?_); rintro e wz ⟨rfl, rfl⟩) | (go_at_call 119; (with_reducible refine (in_3_128_191 l hl k L HL.out _).mono ?_); rintro e wz ⟨rfl, rfl⟩))
      go_ret
      exact ⟨ret_int (by rw [HV.out]; rfl), rfl⟩
  ·have z0 := off 0 127 (by omega)
   have z1 := off 194 223 (by omega)
   have z2 := off 224 224 (by omega)
   have z3 := off 225 236 (by omega)
   have z4 := off 238 239 (by omega)
   have z5 := off 237 237 (by omega)
   have z6 := off 240 240 (by omega)
   have z7 := on 241 243 (by omega) (by omega)
   have z8 := off 244 244 (by omega)
   clear on off h1 h2 hbb h0
   cases y2 : inr L 2 128 191 with
   | false =>
    obtain ⟨v, hv⟩ : ∃ v, sgn L = v := ⟨_, rfl⟩
    have hv2 := hv
    unfold sgn at hv2
    simp [*] at hv2
    subst hv2
    have HV := Lib.hid hv
    clear hv
    go_enter Tryz.func82, Tryz.ntmps82
    go_wp2_with (first | (go_at_call 119; (with_reducible refine (in_0_0_127 l hl k L HL.out _).mono ?_); rintro e wz ⟨rfl, rfl⟩) | (go_at_call 119; (with_reducible refine (in_0_194_223 l hl k L HL.out _).mono ?_); rintro e wz ⟨rfl, rfl⟩) | (go_at_call 119; (with_reducible refine (in_0_224_224 l hl k L HL.out _).mono ?_); rintro e wz ⟨rfl, rfl⟩) | (go_at_call 119; (with_reducible refine (in_0_225_236 l hl k L HL.out _).mono ?_); rintro e wz ⟨rfl, rfl⟩) | (go_at_call 119; (with_reducible refine (in_0_238_239 l hl k L HL.out _).mono ?_); rintro e wz ⟨rfl, rfl⟩) | (go_at_call 119; (with_reducible refine (in_0_237_237 l hl k L HL.out _).mono ?_); rintro e wz ⟨rfl, rfl⟩) | (go_at_call 119; (with_reducible refine (in_0_240_240 l hl k L HL.out _).mono ?_); rintro e wz ⟨rfl, rfl⟩) | (go_at_call 119; (with_reducible refine (in_0_241_243 l hl k L HL.out _).mono ?_); rintro e wz ⟨rfl, rfl⟩) | (go_at_call 119; (with_reducible refine (in_0_244_244 l hl k L HL.out _).mono ?_); rintro e wz ⟨rfl, rfl⟩) | (go_at_call 119; (with_reducible refine (in_1_128_191 l hl k L HL.out _).mono ?_); rintro e wz ⟨rfl, rfl⟩) | (go_at_call 119; (with_reducible refine (in_1_160_191 l hl k L HL.out _).mono ?_); rintro e wz ⟨rfl, rfl⟩) | (go_at_call 119; (with_reducible refine (in_1_128_159 l hl k L HL.out _).mono ?_); rintro e wz ⟨rfl, rfl⟩) | (go_at_call 119; (with_reducible refine (in_1_144_191 l hl k L HL.out _).mono ?_); rintro e wz ⟨rfl, rfl⟩) | (go_at_call 119; (with_reducible refine (in_1_128_143 l hl k L HL.out _).mono ?_); rintro e wz ⟨rfl, rfl⟩) | (go_at_call 119; (with_reducible refine (in_2_128_191 l hl k L HL.out _).mono ?_); rintro e wz ⟨rfl, rfl⟩) | (go_at_call 119; (with_reducible refine (in_3_128_191 l hl k L HL.out _).mono ?_); rintro e wz ⟨rfl, rfl⟩))
    go_ret
    exact ⟨ret_int (by rw [HV.out]; rfl), rfl⟩
   | true =>
    cases y3 : inr L 3 128 191 with
    | false =>
     obtain ⟨v, hv⟩ : ∃ v, sgn L = v := ⟨_, rfl⟩
     have hv2 := hv
     unfold sgn at hv2
     simp [*] at hv2
     subst hv2
     have HV := Lib.hid hv
     clear hv
     go_enter Tryz.func82, Tryz.ntmps82
     go_wp2_with (first | (go_at_call 119; (with_reducible refine (in_0_0_127 l hl k L HL.out _).mono ?_); rintro e wz ⟨rfl, rfl⟩) | (go_at_call 119; (with_reducible refine (in_0_194_223 l hl k L HL.out _).mono ?_); rintro e wz ⟨rfl, rfl⟩) | (go_at_call 119; (with_reducible refine (in_0_224_224 l hl k L HL.out _).mono ?_); rintro e wz ⟨rfl, rfl⟩) | (go_at_call 119; (with_reducible refine (in_0_225_236 l hl k L HL.out _).mono ?_); rintro e wz ⟨rfl, rfl⟩) | (go_at_call 119; (with_reducible refine (in_0_238_239 l hl k L HL.out _).mono ?_); rintro e wz ⟨rfl, rfl⟩) | (go_at_call 119; (with_reducible refine (in_0_237_237 l hl k L HL.out _).mono ?_); rintro e wz ⟨rfl, rfl⟩) | (go_at_call 119; (with_reducible refine (in_0_240_240 l hl k L HL.out _).mono ?_); rintro e wz ⟨rfl, rfl⟩) | (go_at_call 119; (with_reducible refine (in_0_241_243 l hl k L HL.out _).mono ?_); rintro e wz ⟨rfl, rfl⟩) | (go_at_call 119; (with_reducible refine (in_0_244_244 l hl k L HL.out _).mono ?_); rintro e wz ⟨rfl, rfl⟩) | (go_at_call 119; (with_reducible refine (in_1_128_191 l hl k L HL.out _).mono ?_); rintro e wz ⟨rfl, rfl⟩) | (go_at_call 119; (with_reducible refine (in_1_160_191 l hl k L HL.out _).mono ?_); rintro e wz ⟨rfl, rfl⟩) | (go_at_call 119; (with_reducible refine (in_1_128_159 l hl k L HL.out _).mono ?_); rintro e wz ⟨rfl, rfl⟩) | (go_at_call 119; (with_reducible refine (in_1_144_191 l hl k L HL.out _).mono ?_); rintro e wz ⟨rfl, rfl⟩) | (go_at_call 119; (with_reducible refine (in_1_128_143 l hl k L HL.out _).mono ?_); rintro e wz ⟨rfl, rfl⟩) | (go_at_call 119; (with_reducible refine (in_2_128_191 l hl k L HL.out _).mono ?_); rintro e wz ⟨rfl, rfl⟩) | (go_at_call 119; (with_reducible refine (in_3_128_191 l hl k L HL.out _).mono ?_); rintro e wz ⟨rfl, rfl⟩))
     go_ret
     exact ⟨ret_int (by rw [HV.out]; rfl), rfl⟩
    | true =>
     cases y1 : inr L 1 128 191 with
     | false =>
      obtain ⟨v, hv⟩ : ∃ v, sgn L = v := ⟨_, rfl⟩
      have hv2 := hv
      unfold sgn at hv2
      simp [*] at hv2
      subst hv2
      have HV := Lib.hid hv
      clear hv
      go_enter Tryz.func82, Tryz.ntmps82
      go_wp2_with (first | (go_at_call 119; (with_reducible refine (in_0_0_127 l hl k L HL.out _).mono ?_); rintro e wz ⟨rfl, rfl⟩) | (go_at_call 119; (with_reducible refine (in_0_194_223 l hl k L HL.out _).mono ?_); rintro e wz ⟨rfl, rfl⟩) | (go_at_call 119; (with_reducible refine (in_0_224_224 l hl k L HL.out _).mono ?_); rintro e wz ⟨rfl, rfl⟩) | (go_at_call 119; (with_reducible refine (in_0_225_236 l hl k L HL.out _).mono ?_); rintro e wz ⟨rfl, rfl⟩) | (go_at_call 119; (with_reducible refine (in_0_238_239 l hl k L HL.out _).mono ?_); rintro e wz ⟨rfl, rfl⟩) | (go_at_call 119; (with_reducible refine (in_0_237_237 l hl k L HL.out _).mono ?_); rintro e wz ⟨rfl, rfl⟩) | (go_at_call 119; (with_reducible refine (in_0_240_240 l hl k L HL.out _).mono ?_); rintro e wz ⟨rfl, rfl⟩) | (go_at_call 119; (with_reducible refine (in_0_241_243 l hl k L HL.out _).mono ?_); rintro e wz ⟨rfl, rfl⟩) | (go_at_call 119; (with_reducible refine (in_0_244_244 l hl k L HL.out _).mono ?_); rintro e wz ⟨rfl, rfl⟩) | (go_at_call 119; (with_reducible refine (in_1_128_191 l hl k L HL.out _).mono ?_); rintro e wz ⟨rfl, rfl⟩) | (go_at_call 119; (with_reducible refine (in_1_160_191 l hl k L HL.out _).mono ?_); rintro e wz ⟨rfl, rfl⟩) | (go_at_call 119; (with_reducible refine (in_1_128_159 l hl k L HL.out _).mono ?_); rintro e wz ⟨rfl, rfl⟩) | (go_at_call 119; (with_reducible refine (in_1_144_191 l hl k L HL.out _).mono ?_); rintro e wz ⟨rfl, rfl⟩) | (go_at_call 119; (with_reducible refine (in_1_128_143 l hl k L HL.out _).mono ?_); rintro e wz ⟨rfl, rfl⟩) | (go_at_call 119; (with_reducible refine (in_2_128_191 l hl k L HL.out _).mono ?_); rintro e wz ⟨rfl, rfl⟩) | (go_at_call 119; (with_reducible refine (in_3_128_191 l hl k L HL.out _).mono ?_); rintro e wz ⟨rfl, rfl⟩))
      go_ret
      exact ⟨ret_int (by rw [HV.out]; rfl), rfl⟩
     | true =>
      obtain ⟨v, hv⟩ : ∃ v, sgn L = v := ⟨_, rfl⟩
      have hv2 := hv
      unfold sgn at hv2
      simp [*] at hv2
      subst hv2
      have HV := Lib.hid hv
      clear hv
      go_enter Tryz.func82, Tryz.ntmps82
      go_wp2_with (first | (go_at_call 119; (with_reducible refine (in_0_0_127 l hl k L HL.out _).mono ?_); rintro e wz ⟨rfl, rfl⟩) | (go_at_call 119; (with_reducible refine (in_0_194_223 l hl k L HL.out _).mono ?_); rintro e wz ⟨rfl, rfl⟩) | (go_at_call 119; (with_reducible refine (in_0_224_224 l hl k L HL.out _).mono ?_); rintro e wz ⟨rfl, rfl⟩) | (go_at_call 119; (with_reducible refine (in_0_225_236 l hl k L HL.out _).mono ?_); rintro e wz ⟨rfl, rfl⟩) | (go_at_call 119; (with_reducible refine (in_0_238_239 l hl k L HL.out _).mono ?_); rintro e wz ⟨rfl, rfl⟩) | (go_at_call 119; (with_reducible refine (in_0_237_237 l hl k L HL.out _).mono ?_); rintro e wz ⟨rfl, rfl⟩) | (go_at_call 119; (with_reducible refine (in_0_240_240 l hl k L HL.out _).mono ?_); rintro e wz ⟨rfl, rfl⟩) | (go_at_call 119; (with_reducible refine (in_0_241_243 l hl k L HL.out _).mono ?_); rintro e wz ⟨rfl, rfl⟩) | (go_at_call 119; (with_reducible refine (in_0_244_244 l hl k L HL.out _).mono ?_); rintro e wz ⟨rfl, rfl⟩) | (go_at_call 119; (with_reducible refine (in_1_128_191 l hl k L HL.out _).mono ?_); rintro e wz ⟨rfl, rfl⟩) | (go_at_call 119; (with_reducible refine (in_1_160_191 l hl k L HL.out _).mono ?_); rintro e wz ⟨rfl, rfl⟩) | (go_at_call 119; (with_reducible refine (in_1_128_159 l hl k L HL.out _).mono ?_); rintro e wz ⟨rfl, rfl⟩) | (go_at_call 119; (with_reducible refine (in_1_144_191 l hl k L HL.out _).mono ?_); rintro e wz ⟨rfl, rfl⟩) | (go_at_call 119; (with_reducible refine (in_1_128_143 l hl k L HL.out _).mono ?_); rintro e wz ⟨rfl, rfl⟩) | (go_at_call 119; (with_reducible refine (in_2_128_191 l hl k L HL.out _).mono ?_); rintro e wz ⟨rfl, rfl⟩) | (go_at_call 119; (with_reducible refine (in_3_128_191 l hl k L HL.out _).mono ?_); rintro e wz ⟨rfl, rfl⟩))
      go_ret
      exact ⟨ret_int (by rw [HV.out]; rfl), rfl⟩
  ·have z0 := off 0 127 (by omega)
   have z1 := off 194 223 (by omega)
   have z2 := off 224 224 (by omega)
   have z3 := off 225 236 (by omega)
   have z4 := off 238 239 (by omega)
   have z5 := off 237 237 (by omega)
   have z6 := off 240 240 (by omega)
   have z7 := off 241 243 (by omega)
   have z8 := on 244 244 (by omega) (by omega)
   clear on off h1 h2 hbb h0
   cases y2 : inr L 2 128 191 with
   | false =>
    obtain ⟨v, hv⟩ : ∃ v, sgn L = v := ⟨_, rfl⟩
    have hv2 := hv
    unfold sgn at hv2
    simp [*] at hv2
    subst hv2
    have HV := Lib.hid hv
    clear hv
    go_enter Tryz.func82, Tryz.ntmps82
    go_wp2_with (first | (go_at_call 119; (with_reducible refine (in_0_0_127 l hl k L HL.out _).mono ?_); rintro e wz ⟨rfl, rfl⟩) | (go_at_call 119; (with_reducible refine (in_0_194_223 l hl k L HL.out _).mono ?_); rintro e wz ⟨rfl, rfl⟩) | (go_at_call 119; (with_reducible refine (in_0_224_224 l hl k L HL.out _).mono ?_); rintro e wz ⟨rfl, rfl⟩) | (go_at_call 119; (with_reducible refine (in_0_225_236 l hl k L HL.out _).mono ?_); rintro e wz ⟨rfl, rfl⟩) | (go_at_call 119; (with_reducible refine (in_0_238_239 l hl k L HL.out _).mono ?_); rintro e wz ⟨rfl, rfl⟩) | (go_at_call 119; (with_reducible refine (in_0_237_237 l hl k L HL.out _).mono ?_); rintro e wz ⟨rfl, rfl⟩) | (go_at_call 119; (with_reducible refine (in_0_240_240 l hl k L HL.out _).mono ?_); rintro e wz ⟨rfl, rfl⟩) | (go_at_call 119; (with_reducible refine (in_0_241_243 l hl k L HL.out _).mono ?_); rintro e wz ⟨rfl, rfl⟩) | (go_at_call 119; (with_reducible refine (in_0_244_244 l hl k L HL.out _).mono ?_); rintro e wz ⟨rfl, rfl⟩) | (go_at_call 119; (with_reducible refine (in_1_128_191 l hl k L HL.out _).mono ?_); rintro e wz ⟨rfl, rfl⟩) | (go_at_call 119; (with_reducible refine (in_1_160_191 l hl k L HL.out _).mono ?_); rintro e wz ⟨rfl, rfl⟩) | (go_at_call 119; (with_reducible refine (in_1_128_159 l hl k L HL.out _).mono ?_); rintro e wz ⟨rfl, rfl⟩) | (go_at_call 119; (with_reducible refine (in_1_144_191 l hl k L HL.out _).mono ?_); rintro e wz ⟨rfl, rfl⟩) | (go_at_call 119; (with_reducible refine (in_1_128_143 l hl k L HL.out _).mono ?_); rintro e wz ⟨rfl, rfl⟩) | (go_at_call 119; (with_reducible refine (in_2_128_191 l hl k L HL.out _).mono ?_); rintro e wz ⟨rfl, rfl⟩) | (go_at_call 119; (with_reducible refine (in_3_128_191 l hl k L HL.out _).mono ?_); rintro e wz ⟨rfl, rfl⟩))
    go_ret
    exact ⟨ret_int (by rw [HV.out]; rfl), rfl⟩
   | true =>
    cases y3 : inr L 3 128 191 with
    | false =>
     obtain ⟨v, hv⟩ : ∃ v, sgn L = v := ⟨_, rfl⟩
     have hv2 := hv
     unfold sgn at hv2
     simp [*] at hv2
     subst hv2
     have HV := Lib.hid hv
     clear hv
     go_enter Tryz.func82, Tryz.ntmps82
     go_wp2_with (first | (go_at_call 119; (with_reducible refine (in_0_0_127 l hl k L HL.out _).mono ?_); rintro e wz ⟨rfl, rfl⟩) | (go_at_call 119; (with_reducible refine (in_0_194_223 l hl k L HL.out _).mono ?_); rintro e wz ⟨rfl, rfl⟩) | (go_at_call 119; (with_reducible refine (in_0_224_224 l hl k L HL.out _).mono ?_); rintro e wz ⟨rfl, rfl⟩) | (go_at_call 119; (with_reducible refine (in_0_225_236 l hl k L HL.out _).mono ?_); rintro e wz ⟨rfl, rfl⟩) | (go_at_call 119; (with_reducible refine (in_0_238_239 l hl k L HL.out _).mono ?_); rintro e wz ⟨rfl, rfl⟩) | (go_at_call 119; (with_reducible refine (in_0_237_237 l hl k L HL.out _).mono ?_); rintro e wz ⟨rfl, rfl⟩) | (go_at_call 119; (with_reducible refine (in_0_240_240 l hl k L HL.out _).mono ?_); rintro e wz ⟨rfl, rfl⟩) | (go_at_call 119; (with_reducible refine (in_0_241_243 l hl k L HL.out _).mono ?_); rintro e wz ⟨rfl, rfl⟩) | (go_at_call 119; (with_reducible refine (in_0_244_244 l hl k L HL.out _).mono ?_); rintro e wz ⟨rfl, rfl⟩) | (go_at_call 119; (with_reducible refine (in_1_128_191 l hl k L HL.out _).mono ?_); rintro e wz ⟨rfl, rfl⟩) | (go_at_call 119; (with_reducible refine (in_1_160_191 l hl k L HL.out _).mono ?_); rintro e wz ⟨rfl, rfl⟩) | (go_at_call 119; (with_reducible refine (in_1_128_159 l hl k L HL.out _).mono ?_); rintro e wz ⟨rfl, rfl⟩) | (go_at_call 119; (with_reducible refine (in_1_144_191 l hl k L HL.out _).mono ?_); rintro e wz ⟨rfl, rfl⟩) | (go_at_call 119; (with_reducible refine (in_1_128_143 l hl k L HL.out _).mono ?_); rintro e wz ⟨rfl, rfl⟩) | (go_at_call 119; (with_reducible refine (in_2_128_191 l hl k L HL.out _).mono ?_); rintro e wz ⟨rfl, rfl⟩) | (go_at_call 119; (with_reducible refine (in_3_128_191 l hl k L HL.out _).mono ?_); rintro e wz ⟨rfl, rfl⟩))
     go_ret
     exact ⟨ret_int (by rw [HV.out]; rfl), rfl⟩
    | true =>
     cases y1 : inr L 1 128 143 with
     | false =>
      obtain ⟨v, hv⟩ : ∃ v, sgn L = v := ⟨_, rfl⟩
      have hv2 := hv
      unfold sgn at hv2
      simp [*] at hv2
      subst hv2
      have HV := Lib.hid hv
      clear hv
      go_enter Tryz.func82, Tryz.ntmps82
      go_wp2_with (first | (go_at_call 119; (with_reducible refine (in_0_0_127 l hl k L HL.out _).mono ?_); rintro e wz ⟨rfl, rfl⟩) | (go_at_call 119; (with_reducible refine (in_0_194_223 l hl k L HL.out _).mono ?_); rintro e wz ⟨rfl, rfl⟩) | (go_at_call 119; (with_reducible refine (in_0_224_224 l hl k L HL.out _).mono ?_); rintro e wz ⟨rfl, rfl⟩) | (go_at_call 119; (with_reducible refine (in_0_225_236 l hl k L HL.out _).mono ?_); rintro e wz ⟨rfl, rfl⟩) | (go_at_call 119; (with_reducible refine (in_0_238_239 l hl k L HL.out _).mono ?_); rintro e wz ⟨rfl, rfl⟩) | (go_at_call 119; (with_reducible refine (in_0_237_237 l hl k L HL.out _).mono ?_); rintro e wz ⟨rfl, rfl⟩) | (go_at_call 119; (with_reducible refine (in_0_240_240 l hl k L HL.out _).mono ?_); rintro e wz ⟨rfl, rfl⟩) | (go_at_call 119; (with_reducible refine (in_0_241_243 l hl k L HL.out _).mono ?_); rintro e wz ⟨rfl, rfl⟩) | (go_at_call 119; (with_reducible refine (in_0_244_244 l hl k L HL.out _).mono ?_); rintro e wz ⟨rfl, rfl⟩) | (go_at_call 119; (with_reducible refine (in_1_128_191 l hl k L HL.out _).mono ?_); rintro e wz ⟨rfl, rfl⟩) | (go_at_call 119; (with_reducible refine (in_1_160_191 l hl k L HL.out _).mono ?_); rintro e wz ⟨rfl, rfl⟩) | (go_at_call 119; (with_reducible refine (in_1_128_159 l hl k L HL.out _).mono ?_); rintro e wz ⟨rfl, rfl⟩) | (go_at_call 119; (with_reducible refine (in_1_144_191 l hl k L HL.out _).mono ?_); rintro e wz ⟨rfl, rfl⟩) | (go_at_call 119; (with_reducible refine (in_1_128_143 l hl k L HL.out _).mono ?_); rintro e wz ⟨rfl, rfl⟩) | (go_at_call 119; (with_reducible refine (in_2_128_191 l hl k L HL.out _).mono ?_); rintro e wz ⟨rfl, rfl⟩) | (go_at_call 119; (with_reducible refine (in_3_128_191 l hl k L HL.out _).mono ?_); rintro e wz ⟨rfl, rfl⟩))
      go_ret
      exact ⟨ret_int (by rw [HV.out]; rfl), rfl⟩
     | true =>
      obtain ⟨v, hv⟩ : ∃ v, sgn L = v := ⟨_, rfl⟩
      have hv2 := hv
      unfold sgn at hv2
      simp [*] at hv2
      subst hv2
      have HV := Lib.hid hv
      clear hv
      go_enter Tryz.func82, Tryz.ntmps82
      go_wp2_with (first | (go_at_call 119; (with_reducible refine (in_0_0_127 l hl k L HL.out _).mono ?_); rintro e wz ⟨rfl, rfl⟩) | (go_at_call 119; (with_reducible refine (in_0_194_223 l hl k L HL.out _).mono ?_); rintro e wz ⟨rfl, rfl⟩) | (go_at_call 119; (with_reducible refine (in_0_224_224 l hl k L HL.out _).mono ?_); rintro e wz ⟨rfl, rfl⟩) | (go_at_call 119; (with_reducible refine (in_0_225_236 l hl k L HL.out _).mono ?_); rintro e wz ⟨rfl, rfl⟩) | (go_at_call 119; (with_reducible refine (in_0_238_239 l hl k L HL.out _).mono ?_); rintro e wz ⟨rfl, rfl⟩) | (go_at_call 119; (with_reducible refine (in_0_237_237 l hl k L HL.out _).mono ?_); rintro e wz ⟨rfl, rfl⟩) | (go_at_call 119; (with_reducible refine (in_0_240_240 l hl k L HL.out _).mono ?_); rintro e wz ⟨rfl, rfl⟩) | (go_at_call 119; (with_reducible refine (in_0_241_243 l hl k L HL.out _).mono ?_); rintro e wz ⟨rfl, rfl⟩) | (go_at_call 119; (with_reducible refine (in_0_244_244 l hl k L HL.out _).mono ?_); rintro e wz ⟨rfl, rfl⟩) | (go_at_call 119; (with_reducible refine (in_1_128_191 l hl k L HL.out _).mono ?_); rintro e wz ⟨rfl, rfl⟩) | (go_at_call 119; (with_reducible refine (in_1_160_191 l hl k L HL.out _).mono ?_); rintro e wz ⟨rfl, rfl⟩) | (go_at_call 119; (with_reducible refine (in_1_128_159 l hl k L HL.out _).mono ?_); rintro e wz ⟨rfl, rfl⟩) | (go_at_call 119; (with_reducible refine (in_1_144_191 l hl k L HL.out _).mono ?_); rintro e wz ⟨rfl, rfl⟩) | (go_at_call 119; (with_reducible refine (in_1_128_143 l hl k L HL.out _).mono ?_); rintro e wz ⟨rfl, rfl⟩) | (go_at_call 119; (with_reducible refine (in_2_128_191 l hl k L HL.out _).mono ?_); rintro e wz ⟨rfl, rfl⟩) | (go_at_call 119; (with_reducible refine (in_3_128_191 l hl k L HL.out _).mono ?_); rintro e wz ⟨rfl, rfl⟩))
      go_ret
      exact ⟨ret_int (by rw [HV.out]; rfl), rfl⟩
  ·have z0 := off 0 127 (by omega)
   have z1 := off 194 223 (by omega)
   have z2 := off 224 224 (by omega)
   have z3 := off 225 236 (by omega)
   have z4 := off 238 239 (by omega)
   have z5 := off 237 237 (by omega)
   have z6 := off 240 240 (by omega)
   have z7 := off 241 243 (by omega)
   have z8 := off 244 244 (by omega)
   clear on off h1 hbb h0
   cases y2 : inr L 2 128 191 with
   | false =>
    obtain ⟨v, hv⟩ : ∃ v, sgn L = v := ⟨_, rfl⟩
    have hv2 := hv
    unfold sgn at hv2
    simp [*] at hv2
    subst hv2
    have HV := Lib.hid hv
    clear hv
    go_enter Tryz.func82, Tryz.ntmps82
    go_wp2_with (first | (go_at_call 119; (with_reducible refine (in_0_0_127 l hl k L HL.out _).mono ?_); rintro e wz ⟨rfl, rfl⟩) | (go_at_call 119; (with_reducible refine (in_0_194_223 l hl k L HL.out _).mono ?_); rintro e wz ⟨rfl, rfl⟩) | (go_at_call 119; (with_reducible refine (in_0_224_224 l hl k L HL.out _).mono ?_); rintro e wz ⟨rfl, rfl⟩) | (go_at_call 119; (with_reducible refine (in_0_225_236 l hl k L HL.out _).mono ?_); rintro e wz ⟨rfl, rfl⟩) | (go_at_call 119; (with_reducible refine (in_0_238_239 l hl k L HL.out _).mono ?_); rintro e wz ⟨rfl, rfl⟩) | (go_at_call 119; (with_reducible refine (in_0_237_237 l hl k L HL.out _).mono ?_); rintro e wz ⟨rfl, rfl⟩) | (go_at_call 119; (with_reducible refine (in_0_240_240 l hl k L HL.out _).mono ?_); rintro e wz ⟨rfl, rfl⟩) | (go_at_call 119; (with_reducible refine (in_0_241_243 l hl k L HL.out _).mono ?_); rintro e wz ⟨rfl, rfl⟩) | (go_at_call 119; (with_reducible refine (in_0_244_244 l hl k L HL.out _).mono ?_); rintro e wz ⟨rfl, rfl⟩) | (go_at_call 119; (with_reducible refine (in_1_128_191 l hl k L HL.out _).mono ?_); rintro e wz ⟨rfl, rfl⟩) | (go_at_call 119; (with_reducible refine (in_1_160_191 l hl k L HL.out _).mono ?_); rintro e wz ⟨rfl, rfl⟩) | (go_at_call 119; (with_reducible refine (in_1_128_159 l hl k L HL.out _).mono ?_); rintro e wz ⟨rfl, rfl⟩) | (go_at_call 119; (with_reducible refine (in_1_144_191 l hl k L HL.out _).mono ?_); rintro e wz ⟨rfl, rfl⟩) | (go_at_call 119; (with_reducible refine (in_1_128_143 l hl k L HL.out _).mono ?_); rintro e wz ⟨rfl, rfl⟩) | (go_at_call 119; (with_reducible refine (in_2_128_191 l hl k L HL.out _).mono ?_); rintro e wz ⟨rfl, rfl⟩) | (go_at_call 119; (with_reducible refine (in_3_128_191 l hl k L HL.out _).mono ?_); rintro e wz ⟨rfl, rfl⟩))
    go_ret
    exact ⟨ret_int (by rw [HV.out]; rfl), rfl⟩
   | true =>
    cases y3 : inr L 3 128 191 with
    | false =>
     obtain ⟨v, hv⟩ : ∃ v, sgn L = v := ⟨_, rfl⟩
     have hv2 := hv
     unfold sgn at hv2
     simp [*] at hv2
     subst hv2
     have HV := Lib.hid hv
     clear hv
     go_enter Tryz.func82, Tryz.ntmps82
     go_wp2_with (first | (go_at_call 119; (with_reducible refine (in_0_0_127 l hl k L HL.out _).mono ?_); rintro e wz ⟨rfl, rfl⟩) | (go_at_call 119; (with_reducible refine (in_0_194_223 l hl k L HL.out _).mono ?_); rintro e wz ⟨rfl, rfl⟩) | (go_at_call 119; (with_reducible refine (in_0_224_224 l hl k L HL.out _).mono ?_); rintro e wz ⟨rfl, rfl⟩) | (go_at_call 119; (with_reducible refine (in_0_225_236 l hl k L HL.out _).mono ?_); rintro e wz ⟨rfl, rfl⟩) | (go_at_call 119; (with_reducible refine (in_0_238_239 l hl k L HL.out _).mono ?_); rintro e wz ⟨rfl, rfl⟩) | (go_at_call 119; (with_reducible refine (in_0_237_237 l hl k L HL.out _).mono ?_); rintro e wz ⟨rfl, rfl⟩) | (go_at_call 119; (with_reducible refine (in_0_240_240 l hl k L HL.out _).mono ?_); rintro e wz ⟨rfl, rfl⟩) | (go_at_call 119; (with_reducible refine (in_0_241_243 l hl k L HL.out _).mono ?_); rintro e wz ⟨rfl, rfl⟩) | (go_at_call 119; (with_reducible refine (in_0_244_244 l hl k L HL.out _).mono ?_); rintro e wz ⟨rfl, rfl⟩) | (go_at_call 119; (with_reducible refine (in_1_128_191 l hl k L HL.out _).mono ?_); rintro e wz ⟨rfl, rfl⟩) | (go_at_call 119; (with_reducible refine (in_1_160_191 l hl k L HL.out _).mono ?_); rintro e wz ⟨rfl, rfl⟩) | (go_at_call 119; (with_reducible refine (in_1_128_159 l hl k L HL.out _).mono ?_); rintro e wz ⟨rfl, rfl⟩) | (go_at_call 119; (with_reducible refine (in_1_144_191 l hl k L HL.out _).mono ?_); rintro e wz ⟨rfl, rfl⟩) | (go_at_call 119; (with_reducible refine (in_1_128_143 l hl k L HL.out _).mono ?_); rintro e wz ⟨rfl, rfl⟩) | (go_at_call 119; (with_reducible refine (in_2_128_191 l hl k L HL.out _).mono ?_); rintro e wz ⟨rfl, rfl⟩) | (go_at_call 119; (with_reducible refine (in_3_128_191 l hl k L HL.out _).mono ?_); rintro e wz ⟨rfl, rfl⟩))
     go_ret
     exact ⟨ret_int (by rw [HV.out]; rfl), rfl⟩
    | true =>
     obtain ⟨v, hv⟩ : ∃ v, sgn L = v := ⟨_, rfl⟩
     have hv2 := hv
     unfold sgn at hv2
     simp [*] at hv2
     subst hv2
     have HV := Lib.hid hv
     clear hv
     go_enter Tryz.func82, Tryz.ntmps82
     go_wp2_with (first | (go_at_call 119; (with_reducible refine (in_0_0_127 l hl k L HL.out _).mono ?_); rintro e wz ⟨rfl, rfl⟩) | (go_at_call 119; (with_reducible refine (in_0_194_223 l hl k L HL.out _).mono ?_); rintro e wz ⟨rfl, rfl⟩) | (go_at_call 119; (with_reducible refine (in_0_224_224 l hl k L HL.out _).mono ?_); rintro e wz ⟨rfl, rfl⟩) | (go_at_call 119; (with_reducible refine (in_0_225_236 l hl k L HL.out _).mono ?_); rintro e wz ⟨rfl, rfl⟩) | (go_at_call 119; (with_reducible refine (in_0_238_239 l hl k L HL.out _).mono ?_); rintro e wz ⟨rfl, rfl⟩) | (go_at_call 119; (with_reducible refine (in_0_237_237 l hl k L HL.out _).mono ?_); rintro e wz ⟨rfl, rfl⟩) | (go_at_call 119; (with_reducible refine (in_0_240_240 l hl k L HL.out _).mono ?_); rintro e wz ⟨rfl, rfl⟩) | (go_at_call 119; (with_reducible refine (in_0_241_243 l hl k L HL.out _).mono ?_); rintro e wz ⟨rfl, rfl⟩) | (go_at_call 119; (with_reducible refine (in_0_244_244 l hl k L HL.out _).mono ?_); rintro e wz ⟨rfl, rfl⟩) | (go_at_call 119; (with_reducible refine (in_1_128_191 l hl k L HL.out _).mono ?_); rintro e wz ⟨rfl, rfl⟩) | (go_at_call 119; (with_reducible refine (in_1_160_191 l hl k L HL.out _).mono ?_); rintro e wz ⟨rfl, rfl⟩) | (go_at_call 119; (with_reducible refine (in_1_128_159 l hl k L HL.out _).mono ?_); rintro e wz ⟨rfl, rfl⟩) | (go_at_call 119; (with_reducible refine (in_1_144_191 l hl k L HL.out _).mono ?_); rintro e wz ⟨rfl, rfl⟩) | (go_at_call 119; (with_reducible refine (in_1_128_143 l hl k L HL.out _).mono ?_); rintro e wz ⟨rfl, rfl⟩) | (go_at_call 119; (with_reducible refine (in_2_128_191 l hl k L HL.out _).mono ?_); rintro e wz ⟨rfl, rfl⟩) | (go_at_call 119; (with_reducible refine (in_3_128_191 l hl k L HL.out _).mono ?_); rintro e wz ⟨rfl, rfl⟩))
     go_ret
     exact ⟨ret_int (by rw [HV.out]; rfl), rfl⟩
end Go.Proofs.YtkobmnbjeppnaaaGreat
end
section
namespace Go.Proofs.YtkobmnbjeppnaaaGreat
open Go.RowKit
open Wd
set_option maxRecDepth 100000
theorem rFirst_c (l : List UInt8) (hl : l.length ≤ 140737488351232) (w : World) :
  Calls Tryz.prog 59 #[.string (ba l)] w fun e w' => e = .returned (.tuple #[.int .i64 (fstV l : Int), .bool (!valid l)]) ∧ w = w' := by
 have hs := ba_size l
 go_enter Tryz.func59, Tryz.ntmps59
 go_wp2_with fail
 go_loop [4, 5] (fun a _ => ∃ k : Nat, a = .int .i64 (k : Int) ∧ k ≤ l.length ∧ k + ends (l.drop k) = ends l) (fun a _ => l.length - (intOf a).toNat)
 case atStart => exact ⟨0, rfl, Nat.zero_le _, by simp⟩
 case round =>
  obtain ⟨k, rfl, hk, he⟩ := hrel
  have HE := Lib.hid he
  clear he
  by_cases hlt : k < l.length
  ·obtain ⟨n, hn⟩ : ∃ n, n = sgn (l.drop k) := ⟨_, rfl⟩
   have hle := sgn_le (l.drop k)
   rw [← hn, List.length_drop] at hle
   have HN := Lib.hid hn
   clear hn
   by_cases h0 : n = 0
   ·have ht : ((n : Int) == 0) = true := by simp; omega
    have hstop := (ends_stop (HN.out.symm.trans h0)).1
    have hke : k = ends l := by have := HE.out; omega
    have hnv : ¬ valid l = true := fun hv => by have := valid_iff.1 hv; omega
    have HF : Hid ((k : Int) = (fstV l : Int) ∧ (!valid l) = true) := by unfold Hid fstV; rw [if_neg hnv]; exact ⟨by omega, by simpa using hnv⟩
    clear h0 hstop hke hnv
    go_wp2_with (go_at_call 82; refine (sign_c l hl k hk _).mono ?_; rintro e wz ⟨rfl, rfl⟩; rw [← HN.out])
    go_ret2
    exact ⟨ret_ib (by rw [HF.out.1]) (by rw [HF.out.2]), rfl⟩
   ·have ht : ((n : Int) == 0) = false := by simp; omega
    have hst := (ends_step HN.out.symm (by omega)).1
    rw [List.drop_drop] at hst
    have HS := Lib.hid hst
    have hn1 : 1 ≤ n := by omega
    clear h0 hst
    go_wp2_with (go_at_call 82; refine (sign_c l hl k hk _).mono ?_; rintro e wz ⟨rfl, rfl⟩; rw [← HN.out])
    go_round
    case rel => exact ⟨k + n, by go_num, by omega, by have := HE.out; rw [HS.out] at this; omega⟩
    case measure => simp only [intOf]; omega
  ·have hv : valid l = true := by
    rw [valid_iff, ← HE.out, List.drop_eq_nil_of_le (by omega), ends_nil]; omega
   have HF : Hid (fstV l = 0 ∧ (!valid l) = false) := by unfold Hid fstV; rw [if_pos hv, hv]; exact ⟨rfl, rfl⟩
   clear hv
   go_wp2_with fail
   go_ret2
   exact ⟨ret_ib (by rw [HF.out.1]; rfl) (by rw [HF.out.2]), rfl⟩
theorem rValid_c (l : List UInt8) (hl : l.length ≤ 140737488351232) (w : World) :
  Calls Tryz.prog 36 #[.string (ba l)] w fun e w' => e = .returned (.bool (valid l)) ∧ w = w' := by
 go_enter Tryz.func36, Tryz.ntmps36
 go_wp2_with (go_at_call 59; refine (rFirst_c l hl _).mono ?_; rintro e wz ⟨rfl, rfl⟩)
 go_ret
 exact ⟨ret_bool (by simp), rfl⟩
end Go.Proofs.YtkobmnbjeppnaaaGreat
end
