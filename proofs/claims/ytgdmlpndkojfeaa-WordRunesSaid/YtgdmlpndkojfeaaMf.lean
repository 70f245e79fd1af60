/-
  Mathematics of WordRunes: what the model decodes of signs, and of bytes that are none.
-/
import Derived.Test.YtgdmlpndkojfeaaMd
import Derived.Lib.DecodeN
namespace Go.Proofs.Ytgdmlpndkojfeaa.Wd
open Go.Lib (decodeN)
set_option maxRecDepth 100000

/-- a byte at a place; 0 behind the end -/
def gb (l : List UInt8) (k : Nat) : Nat := ((⟨l.toArray⟩ : ByteArray).get! k).toNat
theorem gb_some {l : List UInt8} {k : Nat} {b : UInt8} (h : l[k]? = some b) : gb l k = b.toNat := by
  unfold gb
  simp [ByteArray.get!, h]
theorem gb_none {l : List UInt8} {k : Nat} (h : l[k]? = none) : gb l k = 0 := by
  unfold gb
  simp [ByteArray.get!, h]
  rfl
theorem gb_drop (l : List UInt8) (k j : Nat) : gb (l.drop k) j = gb l (k + j) := by
  cases h : l[k + j]? with
  | none => rw [gb_none h, gb_none (by rw [List.getElem?_drop]; exact h)]
  | some b => rw [gb_some h, gb_some (by rw [List.getElem?_drop]; exact h)]

def dN (L : List UInt8) : Nat × Nat := decodeN L.length (gb L 0) (gb L 1) (gb L 2) (gb L 3)
theorem decode_drop (l : List UInt8) (k : Nat) : Utf8.decode ⟨l.toArray⟩ k = dN (l.drop k) := by
  rw [Go.Lib.decode_at]
  unfold dN
  rw [gb_drop, gb_drop, gb_drop, gb_drop, List.length_drop]
  simp [gb, ByteArray.size]

/-- a rune's bytes -/
def enc (c : Nat) : List UInt8 := (Utf8.encode (c : Int)).data.toList
theorem byte_of {x : Nat} {b : UInt8} (h : x = b.toNat) : UInt8.ofNat x = b := by subst h; simp
theorem uvalid_of {c : Nat} (h : c < 55296 ∨ (57344 ≤ c ∧ c ≤ 1114111)) : Utf8.valid (c : Int) = true := by
  unfold Utf8.valid
  simp only [Bool.or_eq_true, Bool.and_eq_true, decide_eq_true_eq]
  omega
theorem enc_one {c : Nat} (h : c < 128) : enc c = [UInt8.ofNat c] := by
  unfold enc Utf8.encode
  rw [if_pos (uvalid_of (.inl (by omega)))]
  simp only [Int.toNat_natCast]
  rw [if_pos h]
theorem enc_two {c : Nat} (h : 128 ≤ c) (h2 : c < 2048) : enc c = [UInt8.ofNat (192 + c / 64), UInt8.ofNat (128 + c % 64)] := by
  unfold enc Utf8.encode
  rw [if_pos (uvalid_of (.inl (by omega)))]
  simp only [Int.toNat_natCast]
  rw [if_neg (by omega), if_pos h2]
theorem enc_three {c : Nat} (hv : c < 55296 ∨ (57344 ≤ c ∧ c ≤ 1114111)) (h : 2048 ≤ c) (h2 : c < 65536) : enc c = [UInt8.ofNat (224 + c / 4096), UInt8.ofNat (128 + c / 64 % 64), UInt8.ofNat (128 + c % 64)] := by
  unfold enc Utf8.encode
  rw [if_pos (uvalid_of hv)]
  simp only [Int.toNat_natCast]
  rw [if_neg (by omega), if_neg (by omega), if_pos h2]
theorem enc_four {c : Nat} (hv : c ≤ 1114111) (h : 65536 ≤ c) : enc c = [UInt8.ofNat (240 + c / 262144), UInt8.ofNat (128 + c / 4096 % 64), UInt8.ofNat (128 + c / 64 % 64), UInt8.ofNat (128 + c % 64)] := by
  unfold enc Utf8.encode
  rw [if_pos (uvalid_of (.inr (by omega)))]
  simp only [Int.toNat_natCast]
  rw [if_neg (by omega), if_neg (by omega), if_neg (by omega)]

theorem inr_at {l : List UInt8} {k lo hi : Nat} {b : UInt8} (hb : l[k]? = some b) : inr l k lo hi = true ↔ lo ≤ b.toNat ∧ b.toNat ≤ hi := by
  rw [inr_some hb]; simp

/-- of a sign its rune, whose bytes are it -/
theorem dec_sign {L : List UInt8} {n : Nat} (h : Sg L n) : ∃ c, dN L = (c, n) ∧ enc c = L.take n := by
  cases h with
  | one h =>
    match L, inr_lt h with
    | b0 :: r, _ =>
      rw [inr_at (b := b0) rfl] at h
      refine ⟨b0.toNat, ?_, ?_⟩
      · unfold dN decodeN
        rw [gb_some (b := b0) rfl, if_pos (by omega)]
      · rw [enc_one (by omega), byte_of rfl]; rfl
  | two h0 h1 =>
    match L, inr_lt h1 with
    | b0 :: b1 :: r, _ =>
      rw [inr_at (b := b0) rfl] at h0
      rw [inr_at (b := b1) rfl] at h1
      refine ⟨b0.toNat % 32 * 64 + b1.toNat % 64, ?_, ?_⟩
      · unfold dN decodeN
        rw [gb_some (k := 0) (b := b0) rfl, gb_some (k := 1) (b := b1) rfl, if_neg (by omega), if_pos ⟨by omega, by simp, by omega⟩, if_pos (by omega)]
      · rw [enc_two (by omega) (by omega), byte_of (b := b0) (by omega), byte_of (b := b1) (by omega)]; rfl
  | three a b c d h2 h0 h1 hm =>
    match L, inr_lt h2 with
    | b0 :: b1 :: b2 :: r, _ =>
      rw [inr_at (b := b0) rfl] at h0
      rw [inr_at (b := b1) rfl] at h1
      rw [inr_at (b := b2) rfl] at h2
      have hb1 := b1.toNat_lt
      have hx : b0.toNat / 16 = 14 ∧ b1.toNat / 64 = 2 ∧ 2048 ≤ b0.toNat % 16 * 4096 + b1.toNat % 64 * 64 + b2.toNat % 64 ∧ (b0.toNat % 16 * 4096 + b1.toNat % 64 * 64 + b2.toNat % 64 < 55296 ∨ (57344 ≤ b0.toNat % 16 * 4096 + b1.toNat % 64 * 64 + b2.toNat % 64 ∧ b0.toNat % 16 * 4096 + b1.toNat % 64 * 64 + b2.toNat % 64 ≤ 1114111)) := by
        simp only [List.mem_cons, Prod.mk.injEq, List.not_mem_nil, or_false] at hm
        rcases hm with ⟨rfl, rfl, rfl, rfl⟩ | ⟨rfl, rfl, rfl, rfl⟩ | ⟨rfl, rfl, rfl, rfl⟩ | ⟨rfl, rfl, rfl, rfl⟩ <;> omega
      obtain ⟨x1, x2, x3, x4⟩ := hx
      refine ⟨b0.toNat % 16 * 4096 + b1.toNat % 64 * 64 + b2.toNat % 64, ?_, ?_⟩
      · unfold dN decodeN
        rw [gb_some (k := 0) (b := b0) rfl, gb_some (k := 1) (b := b1) rfl, gb_some (k := 2) (b := b2) rfl, if_neg (by omega), if_neg (by omega), if_pos ⟨x1, ⟨by simp, x2⟩, by simp, by omega⟩, if_pos ⟨x3, x4⟩]
      · rw [enc_three x4 x3 (by omega), byte_of (b := b0) (by omega), byte_of (b := b1) (by omega), byte_of (b := b2) (by omega)]; rfl
  | four a b c d h2 h3 h0 h1 hm =>
    match L, inr_lt h3 with
    | b0 :: b1 :: b2 :: b3 :: r, _ =>
      rw [inr_at (b := b0) rfl] at h0
      rw [inr_at (b := b1) rfl] at h1
      rw [inr_at (b := b2) rfl] at h2
      rw [inr_at (b := b3) rfl] at h3
      have hx : b0.toNat / 8 = 30 ∧ b1.toNat / 64 = 2 ∧ 65536 ≤ b0.toNat % 8 * 262144 + b1.toNat % 64 * 4096 + b2.toNat % 64 * 64 + b3.toNat % 64 ∧ b0.toNat % 8 * 262144 + b1.toNat % 64 * 4096 + b2.toNat % 64 * 64 + b3.toNat % 64 ≤ 1114111 := by
        simp only [List.mem_cons, Prod.mk.injEq, List.not_mem_nil, or_false] at hm
        rcases hm with ⟨rfl, rfl, rfl, rfl⟩ | ⟨rfl, rfl, rfl, rfl⟩ | ⟨rfl, rfl, rfl, rfl⟩ <;> omega
      obtain ⟨x1, x2, x3, x4⟩ := hx
      refine ⟨b0.toNat % 8 * 262144 + b1.toNat % 64 * 4096 + b2.toNat % 64 * 64 + b3.toNat % 64, ?_, ?_⟩
      · unfold dN decodeN
        rw [gb_some (k := 0) (b := b0) rfl, gb_some (k := 1) (b := b1) rfl, gb_some (k := 2) (b := b2) rfl, gb_some (k := 3) (b := b3) rfl, if_neg (by omega), if_neg (by omega), if_neg (by omega),
          if_pos ⟨x1, ⟨by simp, x2⟩, ⟨by simp, by omega⟩, by simp, by omega⟩, if_pos ⟨x3, .inr ⟨by omega, x4⟩⟩]
      · rw [enc_four x4 x3, byte_of (b := b0) (by omega), byte_of (b := b1) (by omega), byte_of (b := b2) (by omega), byte_of (b := b3) (by omega)]; rfl

theorem decN_cases (n b0 b1 b2 b3 : Nat) (h1 : b1 < 256) (h2 : b2 < 256) (h3 : b3 < 256) : decodeN n b0 b1 b2 b3 = (65533, 1) ∨ b0 < 128 ∨ (194 ≤ b0 ∧ b0 ≤ 223 ∧ 1 < n ∧ 128 ≤ b1 ∧ b1 ≤ 191) ∨
    (2 < n ∧ 128 ≤ b2 ∧ b2 ≤ 191 ∧ ((b0 = 224 ∧ 160 ≤ b1 ∧ b1 ≤ 191) ∨ (225 ≤ b0 ∧ b0 ≤ 236 ∧ 128 ≤ b1 ∧ b1 ≤ 191) ∨ (238 ≤ b0 ∧ b0 ≤ 239 ∧ 128 ≤ b1 ∧ b1 ≤ 191) ∨ (b0 = 237 ∧ 128 ≤ b1 ∧ b1 ≤ 159))) ∨
    (3 < n ∧ 128 ≤ b2 ∧ b2 ≤ 191 ∧ 128 ≤ b3 ∧ b3 ≤ 191 ∧ ((b0 = 240 ∧ 144 ≤ b1 ∧ b1 ≤ 191) ∨ (241 ≤ b0 ∧ b0 ≤ 243 ∧ 128 ≤ b1 ∧ b1 ≤ 191) ∨ (b0 = 244 ∧ 128 ≤ b1 ∧ b1 ≤ 143))) := by
  by_cases c1 : b0 < 128
  · exact .inr (.inl c1)
  · by_cases c2 : b0 / 32 = 6 ∧ (1 < n ∧ b1 / 64 = 2)
    · by_cases c3 : b0 % 32 * 64 + b1 % 64 ≥ 128
      · exact .inr (.inr (.inl (by omega)))
      · exact .inl (by unfold decodeN; rw [if_neg c1, if_pos c2, if_neg c3])
    · by_cases c3 : b0 / 16 = 14 ∧ (1 < n ∧ b1 / 64 = 2) ∧ (2 < n ∧ b2 / 64 = 2)
      · by_cases c4 : b0 % 16 * 4096 + b1 % 64 * 64 + b2 % 64 ≥ 2048 ∧ (b0 % 16 * 4096 + b1 % 64 * 64 + b2 % 64 < 55296 ∨ (57344 ≤ b0 % 16 * 4096 + b1 % 64 * 64 + b2 % 64 ∧ b0 % 16 * 4096 + b1 % 64 * 64 + b2 % 64 ≤ 1114111))
        · refine .inr (.inr (.inr (.inl ⟨c3.2.2.1, by omega, by omega, ?_⟩)))
          have hc : b0 = 224 ∨ (225 ≤ b0 ∧ b0 ≤ 236) ∨ (238 ≤ b0 ∧ b0 ≤ 239) ∨ b0 = 237 := by omega
          rcases hc with hc | hc | hc | hc
          · exact .inl (by omega)
          · exact .inr (.inl (by omega))
          · exact .inr (.inr (.inl (by omega)))
          · exact .inr (.inr (.inr (by omega)))
        · exact .inl (by unfold decodeN; rw [if_neg c1, if_neg c2, if_pos c3, if_neg c4])
      · by_cases c4 : b0 / 8 = 30 ∧ (1 < n ∧ b1 / 64 = 2) ∧ (2 < n ∧ b2 / 64 = 2) ∧ (3 < n ∧ b3 / 64 = 2)
        · by_cases c5 : b0 % 8 * 262144 + b1 % 64 * 4096 + b2 % 64 * 64 + b3 % 64 ≥ 65536 ∧ (b0 % 8 * 262144 + b1 % 64 * 4096 + b2 % 64 * 64 + b3 % 64 < 55296 ∨ (57344 ≤ b0 % 8 * 262144 + b1 % 64 * 4096 + b2 % 64 * 64 + b3 % 64 ∧ b0 % 8 * 262144 + b1 % 64 * 4096 + b2 % 64 * 64 + b3 % 64 ≤ 1114111))
          · refine .inr (.inr (.inr (.inr ⟨c4.2.2.2.1, by omega, by omega, by omega, by omega, ?_⟩)))
            have hc : b0 = 240 ∨ (241 ≤ b0 ∧ b0 ≤ 243) ∨ b0 = 244 := by omega
            rcases hc with hc | hc | hc
            · exact .inl (by omega)
            · exact .inr (.inl (by omega))
            · exact .inr (.inr (by omega))
          · exact .inl (by unfold decodeN; rw [if_neg c1, if_neg c2, if_neg c3, if_pos c4, if_neg c5])
        · exact .inl (by unfold decodeN; rw [if_neg c1, if_neg c2, if_neg c3, if_neg c4])

theorem inr_gb {L : List UInt8} {k lo hi : Nat} (hk : k < L.length) (h1 : lo ≤ gb L k) (h2 : gb L k ≤ hi) : inr L k lo hi = true := by
  have hb : L[k]? = some L[k] := List.getElem?_eq_getElem hk
  rw [gb_some hb] at h1 h2
  exact (inr_at hb).2 ⟨h1, h2⟩
theorem gb_lt (L : List UInt8) (k : Nat) : gb L k < 256 := by
  cases h : L[k]? with
  | none => rw [gb_none h]; omega
  | some b => rw [gb_some h]; exact b.toNat_lt
/-- of bytes that begin with no sign: the rune that stands for what is none, and one byte -/
theorem dec_bad {L : List UInt8} (hne : L ≠ []) (h : sgn L = 0) : dN L = (65533, 1) := by
  have hp : 0 < L.length := List.length_pos_iff.2 hne
  have no : ∀ n, Sg L n → False := fun n hs => by
    have := sgn_of hs
    have := (sg_len hs).1
    omega
  rcases decN_cases L.length (gb L 0) (gb L 1) (gb L 2) (gb L 3) (gb_lt L 1) (gb_lt L 2) (gb_lt L 3) with c | c | ⟨c1, c2, c3, c4, c5⟩ | ⟨c1, c2, c3, c⟩ | ⟨c1, c2, c3, c4, c5, c⟩
  · exact c
  · exact (no 1 (.one (inr_gb hp (by omega) (by omega)))).elim
  · exact (no 2 (.two (inr_gb hp c1 c2) (inr_gb c3 c4 c5))).elim
  · have i2 := inr_gb c1 c2 c3
    rcases c with ⟨d1, d2, d3⟩ | ⟨d0, d1, d2, d3⟩ | ⟨d0, d1, d2, d3⟩ | ⟨d1, d2, d3⟩
    · exact (no 3 (.three 224 224 160 191 i2 (inr_gb hp (by omega) (by omega)) (inr_gb (by omega) d2 d3) (by simp))).elim
    · exact (no 3 (.three 225 236 128 191 i2 (inr_gb hp d0 d1) (inr_gb (by omega) d2 d3) (by simp))).elim
    · exact (no 3 (.three 238 239 128 191 i2 (inr_gb hp d0 d1) (inr_gb (by omega) d2 d3) (by simp))).elim
    · exact (no 3 (.three 237 237 128 159 i2 (inr_gb hp (by omega) (by omega)) (inr_gb (by omega) d2 d3) (by simp))).elim
  · have i2 : inr L 2 128 191 = true := inr_gb (by omega) c2 c3
    have i3 := inr_gb c1 c4 c5
    rcases c with ⟨d1, d2, d3⟩ | ⟨d0, d1, d2, d3⟩ | ⟨d1, d2, d3⟩
    · exact (no 4 (.four 240 240 144 191 i2 i3 (inr_gb hp (by omega) (by omega)) (inr_gb (by omega) d2 d3) (by simp))).elim
    · exact (no 4 (.four 241 243 128 191 i2 i3 (inr_gb hp d0 d1) (inr_gb (by omega) d2 d3) (by simp))).elim
    · exact (no 4 (.four 244 244 128 143 i2 i3 (inr_gb hp (by omega) (by omega)) (inr_gb (by omega) d2 d3) (by simp))).elim

/-- the runes of bytes -/
def rl (L : List UInt8) : List Nat := if _h : L = [] then [] else (dN L).1 :: rl (L.drop (max 1 (sgn L)))
termination_by L.length
decreasing_by
  rw [List.length_drop]
  have : 0 < L.length := List.length_pos_iff.2 _h
  omega
theorem rl_nil : rl [] = [] := by rw [rl, dif_pos rfl]
theorem rl_cons {L : List UInt8} (h : L ≠ []) : rl L = (dN L).1 :: rl (L.drop (max 1 (sgn L))) := by rw [rl, dif_neg h]
theorem dN_snd {L : List UInt8} (h : L ≠ []) : (dN L).2 = max 1 (sgn L) := by
  by_cases h0 : 0 < sgn L
  · obtain ⟨c, hc, _⟩ := dec_sign (sgn_pos h0)
    rw [hc]
    simp only
    omega
  · rw [dec_bad h (by omega)]
    simp only
    omega
def flat (cs : List Nat) : List UInt8 := cs.flatMap enc
theorem ne_of_sgn {L : List UInt8} (h : 0 < sgn L) : L ≠ [] := by rintro rfl; rw [sgn_nil] at h; omega
theorem rl_step {L : List UInt8} (h : 0 < sgn L) : flat (rl L) = L.take (sgn L) ++ flat (rl (L.drop (sgn L))) ∧ (rl L).length = 1 + (rl (L.drop (sgn L))).length := by
  obtain ⟨c, hc, he⟩ := dec_sign (sgn_pos h)
  rw [rl_cons (ne_of_sgn h), hc, show max 1 (sgn L) = sgn L by omega]
  constructor
  · unfold flat
    rw [List.flatMap_cons, he]
  · rw [List.length_cons]; omega
theorem rl_valid (L : List UInt8) : ends L = L.length → flat (rl L) = L ∧ (rl L).length = cnt L := by
  induction L using sign_ind with
  | h0 L h =>
    intro hv
    have : L = [] := List.eq_nil_of_length_eq_zero (by rw [← hv]; exact (ends_stop h).1)
    subst this
    rw [rl_nil, (ends_stop sgn_nil).2]
    exact ⟨rfl, rfl⟩
  | h1 L h ih =>
    intro hv
    obtain ⟨e1, e2⟩ := ends_step (l := L) rfl h
    have hle := sgn_le L
    obtain ⟨i1, i2⟩ := ih (by rw [List.length_drop]; omega)
    obtain ⟨r1, r2⟩ := rl_step h
    rw [r1, r2, i1, i2, e2, List.take_append_drop]
    exact ⟨rfl, rfl⟩
theorem enc_bad : enc 65533 = [239, 191, 189] := by decide +kernel
theorem rl_bad (L : List UInt8) : ends L ≠ L.length → flat (rl L) ≠ L := by
  induction L using sign_ind with
  | h0 L h =>
    intro hv he
    have hne : L ≠ [] := by rintro rfl; exact hv (by rw [ends_nil]; rfl)
    rw [rl_cons hne, dec_bad hne h] at he
    unfold flat at he
    rw [List.flatMap_cons, enc_bad] at he
    have hs : Sg L 3 := by
      rw [← he]
      exact .three 238 239 128 191 (by simp [inr]) (by simp [inr]) (by simp [inr]) (by simp)
    have := sgn_of hs
    omega
  | h1 L h ih =>
    intro hv he
    obtain ⟨e1, _⟩ := ends_step (l := L) rfl h
    have hle := sgn_le L
    obtain ⟨r1, _⟩ := rl_step h
    refine ih (by rw [List.length_drop]; omega) ?_
    have h2 : flat (rl L) = L.take (sgn L) ++ L.drop (sgn L) := by rw [he, List.take_append_drop]
    rw [r1] at h2
    exact List.append_cancel_left h2
theorem rl_len (L : List UInt8) : (rl L).length ≤ L.length := by
  induction hn : L.length using Nat.strongRecOn generalizing L with
  | _ n ih =>
    by_cases h : L = []
    · subst h; rw [rl_nil]; simp
    · have hp : 0 < L.length := List.length_pos_iff.2 h
      rw [rl_cons h, List.length_cons]
      have := ih (L.drop (max 1 (sgn L))).length (by rw [List.length_drop]; omega) (L.drop (max 1 (sgn L))) rfl
      rw [List.length_drop] at this
      omega
end Go.Proofs.Ytgdmlpndkojfeaa.Wd
