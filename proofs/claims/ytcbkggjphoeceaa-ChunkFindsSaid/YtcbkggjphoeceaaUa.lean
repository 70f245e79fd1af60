/-
  Plain mathematics of layer 11: a chunk's bytes; chunks that are joined, and split; chunks that are found. No Go.
-/
import Derived.Test.YtcbkggjphoeceaaMc
import Derived.Test.YtcbkggjphoeceaaKk
namespace Go.Proofs.Ytcbkggjphoeceaa.Ck
open Pk Cr

abbrev Chk := Int × List UInt8
def byt8 (k : Int) : UInt8 := UInt8.ofNat (k % 256).toNat
theorem byt8_nat (k : Int) : (byt8 k).toNat = (k % 256).toNat := ofNat_toNat_lt (by omega)
theorem byt8_int (k : Int) : ((byt8 k).toNat : Int) = k % 256 := by rw [byt8_nat]; omega
theorem byt8_in {k : Int} (h0 : 0 ≤ k) (h1 : k ≤ 255) : ((byt8 k).toNat : Int) = k := by rw [byt8_int]; omega
theorem byt8_of (b : UInt8) : byt8 (b.toNat : Int) = b := by
  have := b.toNat_lt
  refine UInt8.toNat_inj.1 ?_
  rw [byt8_nat]; omega
def front (c : Chk) : List UInt8 := byt8 c.1 :: put c.2.length
def stamp (c : Chk) : List UInt8 := fixed 4 (more 0 (bn (front c ++ c.2)))
def one (c : Chk) : List UInt8 := front c ++ c.2 ++ stamp c
theorem stamp_len (c : Chk) : (stamp c).length = 4 := fixed_len 4 _
theorem front_len (c : Chk) : (front c).length = 1 + (put c.2.length).length := by simp [front]; omega
theorem one_len (c : Chk) : (one c).length = 1 + (put c.2.length).length + c.2.length + 4 := by
  simp only [one, List.length_append, front_len, stamp_len]
def magic : List UInt8 := [66, 78, 83, 73]
def flat : List Chk → List UInt8
  | [] => []
  | c :: l => one c ++ flat l
theorem flat_append (a b : List Chk) : flat (a ++ b) = flat a ++ flat b := by
  induction a with
  | nil => rfl
  | cons c a ih => rw [List.cons_append, flat, flat, ih, List.append_assoc]
theorem flat_take {l : List Chk} {k : Nat} {c : Chk} (h : l[k]? = some c) : flat (l.take (k + 1)) = flat (l.take k) ++ one c := by
  rw [List.take_add_one, h, flat_append, Option.toList_some]
  simp [flat]
/-- the first error of chunks behind one of that kind -/
def bad : Int → List Chk → Int
  | _, [] => 0
  | last, c :: l => if c.1 ≤ last ∨ 255 < c.1 then 12 else if 1048576 < c.2.length then 10 else bad c.1 l
def joinE (v : Int) (l : List Chk) : Int := if v < 0 ∨ 255 < v then 1 else bad 0 l
def joinT (v : Int) (l : List Chk) : List UInt8 := if v < 0 ∨ 255 < v then [] else if bad 0 l = 0 then magic ++ (byt8 v :: flat l) else []
theorem bad_drop {l : List Chk} {k : Nat} {c : Chk} {last : Int} (h : l[k]? = some c) : bad last (l.drop k) = if c.1 ≤ last ∨ 255 < c.1 then 12 else if 1048576 < c.2.length then 10 else bad c.1 (l.drop (k + 1)) := by
  have hk := (List.getElem?_eq_some_iff.1 h).1
  have hc := (List.getElem?_eq_some_iff.1 h).2
  rw [List.drop_eq_getElem_cons hk, hc, bad]
theorem bad_ok {last : Int} {c : Chk} {l : List Chk} (h : bad last (c :: l) = 0) : last < c.1 ∧ c.1 ≤ 255 ∧ c.2.length ≤ 1048576 ∧ bad c.1 l = 0 := by
  rw [bad] at h
  split at h
  · omega
  · split at h
    · omega
    · exact ⟨by omega, by omega, by omega, h⟩
theorem bad_mk {last : Int} {c : Chk} {l : List Chk} (h1 : last < c.1) (h2 : c.1 ≤ 255) (h3 : c.2.length ≤ 1048576) (h4 : bad c.1 l = 0) : bad last (c :: l) = 0 := by
  rw [bad, if_neg (by omega), if_neg (by omega), h4]
theorem bad_mono {l : List Chk} {a b : Int} (h : bad b l = 0) (hab : a ≤ b) : bad a l = 0 := by
  cases l with
  | nil => rfl
  | cons c l => obtain ⟨h1, h2, h3, h4⟩ := bad_ok h; exact bad_mk (by omega) h2 h3 h4
theorem bad_less (a : List Chk) : ∀ (last : Int) (c : Chk) (b : List Chk), bad last (a ++ c :: b) = 0 → bad last (a ++ b) = 0 := by
  induction a with
  | nil => intro last c b h; obtain ⟨h1, _, _, h4⟩ := bad_ok h; exact bad_mono h4 (by omega)
  | cons x a ih => intro last c b h; obtain ⟨h1, h2, h3, h4⟩ := bad_ok h; exact bad_mk h1 h2 h3 (ih _ _ _ h4)
theorem bad_erase {l : List Chk} {i : Nat} (hi : i < l.length) (h : bad 0 l = 0) : bad 0 (l.take i ++ l.drop (i + 1)) = 0 := by
  refine bad_less (l.take i) 0 l[i] (l.drop (i + 1)) ?_
  rw [← List.drop_eq_getElem_cons hi, List.take_append_drop]
  exact h
theorem flat_erase {l : List Chk} {i : Nat} {c : Chk} (hi : l[i]? = some c) : (flat l).length = (flat (l.take i ++ l.drop (i + 1))).length + (one c).length := by
  have hk := (List.getElem?_eq_some_iff.1 hi).1
  have hc := (List.getElem?_eq_some_iff.1 hi).2
  have e : l = l.take i ++ c :: l.drop (i + 1) := by rw [← hc, ← List.drop_eq_getElem_cons hk, List.take_append_drop]
  have e2 : (flat l).length = (flat (l.take i ++ c :: l.drop (i + 1))).length := by rw [← e]
  rw [e2, flat_append, flat_append, flat]
  simp only [List.length_append]
  omega
theorem bad_mem {l : List Chk} : ∀ {last : Int}, bad last l = 0 → ∀ c ∈ l, last < c.1 ∧ c.1 ≤ 255 ∧ c.2.length ≤ 1048576 := by
  induction l with
  | nil => intro _ _ c hc; simp at hc
  | cons x l ih =>
    intro last h c hc
    obtain ⟨h1, h2, h3, h4⟩ := bad_ok h
    rcases List.mem_cons.1 hc with rfl | hc
    · exact ⟨h1, h2, h3⟩
    · obtain ⟨g1, g2, g3⟩ := ih h4 c hc; exact ⟨by omega, g2, g3⟩

/-- a chunk that is read behind its kind k: the error, the chunk, what is left -/
def cutE (k : UInt8) (r : List UInt8) : Int :=
  if (numS ⟨r, 0⟩).e ≠ 0 then (numS ⟨r, 0⟩).e else if 1048576 < numV ⟨r, 0⟩ then 10 else if (numS ⟨r, 0⟩).l.length < numV ⟨r, 0⟩ + 4 then 2
  else if ((numS ⟨r, 0⟩).l.drop (numV ⟨r, 0⟩)).take 4 ≠ stamp ((k.toNat : Int), (numS ⟨r, 0⟩).l.take (numV ⟨r, 0⟩)) then 6 else 0
def cutC (k : UInt8) (r : List UInt8) : Chk := ((k.toNat : Int), (numS ⟨r, 0⟩).l.take (numV ⟨r, 0⟩))
def cutR (r : List UInt8) : List UInt8 := (numS ⟨r, 0⟩).l.drop (numV ⟨r, 0⟩ + 4)
def cuts : Nat → Int → List Chk → List UInt8 → List Chk × Int
  | 0, _, out, _ => (out, 0)
  | _ + 1, _, out, [] => (out, 0)
  | f + 1, last, out, k :: r => if cutE k r ≠ 0 then ([], cutE k r) else if (k.toNat : Int) ≤ last then ([], 12) else cuts f (k.toNat : Int) (out ++ [cutC k r]) (cutR r)
theorem cuts_nil (f : Nat) (last : Int) (out : List Chk) : cuts f last out [] = (out, 0) := by cases f <;> rfl
def verE (s : List UInt8) : Int := if s.take 4 ≠ magic then 7 else if s.length < 5 then 2 else 0
def verV (s : List UInt8) : Int := if verE s = 0 then ((s.getD 4 0).toNat : Int) else 0
def splitP (s : List UInt8) : List Chk × Int := if verE s ≠ 0 then ([], verE s) else cuts s.length 0 [] (s.drop 5)
def splitV (s : List UInt8) : Int := if (splitP s).2 = 0 then verV s else 0

theorem cutR_len (r : List UInt8) : (cutR r).length ≤ r.length := by
  have := numS_len ⟨r, 0⟩
  unfold cutR
  rw [List.length_drop]
  simp only at this
  omega
theorem put_num {l : List UInt8} (h : (numS ⟨l, 0⟩).e = 0) : put (numV ⟨l, 0⟩) ++ (numS ⟨l, 0⟩).l = l := by
  cases hr : rd l with
  | cut => rw [(num_cut (s := ⟨l, 0⟩) rfl hr).2] at h; simp at h
  | long => rw [(num_long (s := ⟨l, 0⟩) rfl hr).2] at h; simp at h
  | ok n u =>
    obtain ⟨h1, h2⟩ := num_ok (s := ⟨l, 0⟩) rfl hr
    obtain ⟨g, _⟩ := rd_inv hr
    rw [h1, h2, ← g]
    exact List.take_append_drop _ _
theorem cut_one {c : Chk} (h0 : 0 ≤ c.1) (h1 : c.1 ≤ 255) (h2 : c.2.length ≤ 1048576) (R : List UInt8) :
    ∃ r, one c ++ R = byt8 c.1 :: r ∧ cutE (byt8 c.1) r = 0 ∧ cutC (byt8 c.1) r = c ∧ cutR r = R := by
  obtain ⟨k, b⟩ := c
  simp only at h0 h1 h2
  have hk := byt8_in h0 h1
  refine ⟨put b.length ++ (b ++ (stamp (k, b) ++ R)), by simp [one, front], ?_⟩
  obtain ⟨e1, e2⟩ := num_put (n := b.length) (by omega) (b ++ (stamp (k, b) ++ R))
  have hs := stamp_len (k, b)
  have t1 : (b ++ (stamp (k, b) ++ R)).take b.length = b := by simp
  have t2 : ((b ++ (stamp (k, b) ++ R)).drop b.length).take 4 = stamp (k, b) := by
    rw [List.drop_left, List.take_append_of_le_length (by omega), List.take_of_length_le (by omega)]
  have t3 : (b ++ (stamp (k, b) ++ R)).drop (b.length + 4) = R := by
    rw [← List.drop_drop, List.drop_left, List.drop_append, hs, List.drop_of_length_le (by omega)]
    simp
  refine ⟨?_, ?_, ?_⟩
  · unfold cutE
    rw [e1, e2]
    simp only [ne_eq, not_true_eq_false, if_false]
    rw [if_neg (by omega), if_neg (by simp only [List.length_append, hs]; omega), t1, t2, hk]
    simp
  · unfold cutC
    rw [e1, e2]
    simp only
    rw [t1, hk]
  · unfold cutR
    rw [e1, e2]
    exact t3
theorem cut_back {k : UInt8} {r : List UInt8} (h : cutE k r = 0) : k :: r = one (cutC k r) ++ cutR r ∧ (cutC k r).2.length ≤ 1048576 := by
  unfold cutE at h
  split at h
  · omega
  · rename_i he
    have he0 : (numS ⟨r, 0⟩).e = 0 := by omega
    have hp := put_num he0
    split at h
    · omega
    · split at h
      · omega
      · split at h
        · omega
        · rename_i hn hl hst
          have hst2 := Decidable.not_not.1 hst
          have hl2 : ((numS ⟨r, 0⟩).l.take (numV ⟨r, 0⟩)).length = numV ⟨r, 0⟩ := by rw [List.length_take]; omega
          refine ⟨?_, by show List.length (List.take _ _) ≤ _; omega⟩
          unfold one front cutC cutR
          simp only
          rw [byt8_of, hl2, ← hst2, List.cons_append, List.cons_append, List.cons_append]
          refine congrArg (List.cons k) ?_
          rw [← List.drop_drop, List.append_assoc, List.append_assoc, List.take_append_drop, List.take_append_drop]
          exact hp.symm
theorem cuts_flat (l : List Chk) : ∀ (f : Nat) (last : Int) (out : List Chk), 0 ≤ last → bad last l = 0 → (flat l).length ≤ f → cuts f last out (flat l) = (out ++ l, 0) := by
  induction l with
  | nil => intro f last out _ _ _; rw [flat, cuts_nil, List.append_nil]
  | cons c l ih =>
    intro f last out h0 hb hf
    obtain ⟨h1, h2, h3, h4⟩ := bad_ok hb
    obtain ⟨r, e1, e2, e3, e4⟩ := cut_one (c := c) (by omega) h2 h3 (flat l)
    rw [flat] at hf ⊢
    rw [e1] at hf ⊢
    cases f with
    | zero => simp at hf
    | succ f =>
      have hk := byt8_in (k := c.1) (by omega) h2
      rw [cuts, e2, if_neg (by simp), hk, if_neg (by omega), e3, e4, ih f c.1 _ (by omega) h4 ?_]
      · simp
      · have := cutR_len r
        rw [e4] at this
        simp only [List.length_cons] at hf
        omega
theorem cuts_err (f : Nat) : ∀ (last : Int) (out : List Chk) (l : List UInt8), (cuts f last out l).2 ≠ 0 → (cuts f last out l).1 = [] := by
  induction f with
  | zero => intro last out l h; simp [cuts] at h
  | succ f ih =>
    intro last out l h
    cases l with
    | nil => simp [cuts] at h
    | cons k r =>
      rw [cuts] at h ⊢
      split at h
      · rename_i g; rw [if_pos g]
      · rename_i g
        rw [if_neg g]
        split at h
        · rename_i g2; rw [if_pos g2]
        · rename_i g2; rw [if_neg g2]; exact ih _ _ _ h
theorem cuts_back (f : Nat) : ∀ (last : Int) (out : List Chk) (l : List UInt8), l.length ≤ f → (cuts f last out l).2 = 0 → ∃ m, (cuts f last out l).1 = out ++ m ∧ l = flat m ∧ bad last m = 0 := by
  induction f with
  | zero =>
    intro last out l hl _
    have : l = [] := List.eq_nil_of_length_eq_zero (by omega)
    subst this
    exact ⟨[], by simp [cuts], rfl, rfl⟩
  | succ f ih =>
    intro last out l hl h
    cases l with
    | nil => exact ⟨[], by simp [cuts], rfl, rfl⟩
    | cons k r =>
      rw [cuts] at h ⊢
      split at h
      · rename_i g; exact absurd h g
      · rename_i g
        rw [if_neg g]
        split at h
        · omega
        · rename_i g2
          rw [if_neg g2]
          obtain ⟨b1, b2⟩ := cut_back (Decidable.not_not.1 g)
          obtain ⟨m, m1, m2, m3⟩ := ih _ _ _ (by have := cutR_len r; simp only [List.length_cons] at hl; omega) h
          refine ⟨cutC k r :: m, by rw [m1]; simp, by rw [b1, flat, ← m2], bad_mk (by show last < (k.toNat : Int); omega) ?_ b2 m3⟩
          show (k.toNat : Int) ≤ 255
          have := k.toNat_lt
          omega
theorem ver_file (v : Int) (R : List UInt8) : verE (magic ++ (byt8 v :: R)) = 0 ∧ (0 ≤ v → v ≤ 255 → verV (magic ++ (byt8 v :: R)) = v) := by
  have h : verE (magic ++ (byt8 v :: R)) = 0 := by
    unfold verE
    rw [if_neg (by simp [magic]), if_neg (by simp [magic])]
  refine ⟨h, fun h0 h1 => ?_⟩
  unfold verV
  rw [if_pos h]
  exact byt8_in h0 h1
theorem ver_back {s : List UInt8} (h : verE s = 0) : s = magic ++ (byt8 (verV s) :: s.drop 5) ∧ 0 ≤ verV s ∧ verV s ≤ 255 := by
  have h0 := h
  unfold verE at h
  split at h
  · omega
  · split at h
    · omega
    · rename_i g1 g2
      have g := Decidable.not_not.1 g1
      obtain ⟨b, hb⟩ : ∃ b, s[4]? = some b := ⟨s[4], by simp⟩
      have hv : verV s = (b.toNat : Int) := by unfold verV; rw [if_pos h0, List.getD_eq_getElem?_getD, hb]; rfl
      rw [hv, byt8_of, ← g, ← Pk.drop_cons hb, List.take_append_drop]
      have := b.toNat_lt
      exact ⟨rfl, by omega, by omega⟩
/-- what is joined is split -/
theorem join_split {v : Int} {l : List Chk} (h : joinE v l = 0) : splitP (joinT v l) = (l, 0) ∧ splitV (joinT v l) = v ∧ joinT v l = magic ++ (byt8 v :: flat l) ∧ bad 0 l = 0 ∧ 0 ≤ v ∧ v ≤ 255 := by
  unfold joinE at h
  split at h
  · omega
  · rename_i g
    have ht : joinT v l = magic ++ (byt8 v :: flat l) := by unfold joinT; rw [if_neg g, if_pos h]
    obtain ⟨e1, e2⟩ := ver_file v (flat l)
    have hp : splitP (joinT v l) = (l, 0) := by
      unfold splitP
      rw [ht, e1, if_neg (by simp)]
      have hd : (magic ++ (byt8 v :: flat l)).drop 5 = flat l := by simp [magic]
      rw [hd, cuts_flat l _ 0 [] (by omega) h (by simp only [magic, List.cons_append, List.nil_append, List.length_cons]; omega)]
      rfl
    refine ⟨hp, ?_, ht, h, by omega, by omega⟩
    unfold splitV
    rw [hp, if_pos rfl, ht, e2 (by omega) (by omega)]
theorem join_err {v : Int} {l : List Chk} (h : joinE v l ≠ 0) : joinT v l = [] := by
  unfold joinE at h
  unfold joinT
  split
  · rfl
  · rename_i g
    rw [if_neg g] at h
    rw [if_neg h]
/-- what is split is what was joined -/
theorem split_join {s : List UInt8} (h : (splitP s).2 = 0) : joinE (splitV s) (splitP s).1 = 0 ∧ joinT (splitV s) (splitP s).1 = s := by
  have hv : splitV s = verV s := by unfold splitV; rw [if_pos h]
  unfold splitP at h
  split at h
  · rename_i g; exact absurd h g
  · rename_i g
    have g0 := Decidable.not_not.1 g
    obtain ⟨e1, e2, e3⟩ := ver_back g0
    obtain ⟨m, m1, m2, m3⟩ := cuts_back s.length 0 [] (s.drop 5) (by rw [List.length_drop]; omega) h
    have hp : (splitP s).1 = m := by unfold splitP; rw [if_neg g, m1]; rfl
    rw [hp, hv]
    refine ⟨by unfold joinE; rw [if_neg (by omega), m3], ?_⟩
    unfold joinT
    rw [if_neg (by omega), if_pos m3, ← m2, ← e1]
theorem split_err {s : List UInt8} (h : (splitP s).2 ≠ 0) : splitV s = 0 ∧ (splitP s).1 = [] := by
  refine ⟨by unfold splitV; rw [if_neg h], ?_⟩
  unfold splitP at h ⊢
  split at h
  · rename_i g; rw [if_pos g]
  · rename_i g; rw [if_neg g]; exact cuts_err _ _ _ _ h
theorem join_less {v : Int} {l : List Chk} {i : Nat} {c : Chk} (h : joinE v l = 0) (hi : l[i]? = some c) :
    joinE v (l.take i ++ l.drop (i + 1)) = 0 ∧ splitP (joinT v (l.take i ++ l.drop (i + 1))) = (l.take i ++ l.drop (i + 1), 0) ∧
      (joinT v l).length = (joinT v (l.take i ++ l.drop (i + 1))).length + (one c).length := by
  obtain ⟨_, _, h3, h4, h5, h6⟩ := join_split h
  have hb := bad_erase (List.getElem?_eq_some_iff.1 hi).1 h4
  have he : joinE v (l.take i ++ l.drop (i + 1)) = 0 := by unfold joinE; rw [if_neg (by omega), hb]
  obtain ⟨g1, _, g3, _⟩ := join_split he
  refine ⟨he, g1, ?_⟩
  rw [h3, g3]
  have := flat_erase hi
  simp only [List.length_append, List.length_cons]
  omega

/-- the body of the first chunk of that kind -/
def find (l : List Chk) (k : Int) : Option (List UInt8) := (l.find? fun c => c.1 == k).map (·.2)
theorem find_among (l : List Chk) (k : Int) : (find l k).isSome = l.any fun c => c.1 == k := by
  unfold find
  rw [Option.isSome_map, List.isSome_find?]
theorem find_at (l : List Chk) : ∀ (last : Int) (i : Nat) (c : Chk), bad last l = 0 → l[i]? = some c → find l c.1 = some c.2 := by
  induction l with
  | nil => intro _ i c _ h; simp at h
  | cons x l ih =>
    intro last i c hb h
    obtain ⟨h1, h2, h3, h4⟩ := bad_ok hb
    cases i with
    | zero => simp at h; subst h; simp [find]
    | succ i =>
      have hi : l[i]? = some c := by simpa using h
      have hm := bad_mem h4 c (List.mem_of_getElem? hi)
      have := ih x.1 i c h4 hi
      unfold find at this ⊢
      rw [List.find?_cons_of_neg (by simp; omega), this]

/-- of a file of one chunk: a burst of up to four bytes in its body or its sum -/
theorem spoil {c : Chk} (h0 : 1 ≤ c.1) (h1 : c.1 ≤ 255) (h2 : c.2.length ≤ 1048576) {x : List UInt8} {b u : List UInt8} (hb : b.length = c.2.length) (hu : u.length = 4)
    (hx : x = front c ++ b ++ u) (hd : more 0 (bn (one c)) ≠ more 0 (bn x)) : splitP (magic ++ (byt8 1 :: x)) = ([], 6) := by
  obtain ⟨e1, _⟩ := ver_file 1 x
  unfold splitP
  rw [e1, if_neg (by simp)]
  have hdr : (magic ++ (byt8 1 :: x)).drop 5 = x := by simp [magic]
  rw [hdr]
  obtain ⟨N, hN⟩ : ∃ N, (magic ++ (byt8 1 :: x)).length = N + 1 := ⟨x.length + 4, by simp [magic]⟩
  rw [hN]
  have hxc : x = byt8 c.1 :: (put c.2.length ++ (b ++ u)) := by rw [hx]; simp [front]
  obtain ⟨g1, g2⟩ := num_put (n := c.2.length) (by omega) (b ++ u)
  have hk := byt8_in (k := c.1) (by omega) h1
  have hE : cutE (byt8 c.1) (put c.2.length ++ (b ++ u)) = 6 := by
    unfold cutE
    rw [g1, g2]
    simp only [ne_eq, not_true_eq_false, if_false]
    rw [if_neg (by omega), if_neg (by simp only [List.length_append]; omega), if_pos]
    rw [← hb, List.take_left, List.drop_left, List.take_of_length_le (by omega), hk]
    intro hq
    refine hd ?_
    have hs : ∀ y : List UInt8, more 0 (bn (y ++ fixed 4 (more 0 (bn y)))) = 558161692 := fun y => by
      have hlt : more 0 (bn y) < 4294967296 := more_lt (by decide) (bn_lt y)
      have hf : bn (fixed 4 (more 0 (bn y))) = [more 0 (bn y) % 256, more 0 (bn y) / 256 % 256, more 0 (bn y) / 65536 % 256, more 0 (bn y) / 16777216] := by
        simp only [fixed, bn, List.map_cons, List.map_nil]
        rw [ofNat_toNat_lt (by omega), ofNat_toNat_lt (by omega), ofNat_toNat_lt (by omega), ofNat_toNat_lt (by omega)]
        simp only [Nat.div_div_eq_div_mul, Nat.reduceMul]
        have e5 : more 0 (List.map UInt8.toNat y) / 16777216 % 256 = more 0 (List.map UInt8.toNat y) / 16777216 := Nat.mod_eq_of_lt (by have : more 0 (List.map UInt8.toNat y) < 4294967296 := hlt; omega)
        rw [e5]
      rw [bn_append, hf]
      exact sealed _ hlt
    have ha : front (c.1, b) = front c := by unfold front; simp only [hb]
    have e3 : one c = (front c ++ c.2) ++ fixed 4 (more 0 (bn (front c ++ c.2))) := rfl
    have e4 : x = (front c ++ b) ++ fixed 4 (more 0 (bn (front c ++ b))) := by
      rw [hx, hq]
      unfold stamp
      rw [ha]
    rw [e3, e4, hs, hs]
  rw [hxc, cuts, hE, if_pos (by simp)]
end Go.Proofs.Ytcbkggjphoeceaa.Ck
