/-
  A file split into its chunks: the program's.
-/
import Derived.Test.YtcbkggjphoeceaaUh
import Derived.WalkMore
import Derived.Deep.LoopGhost
namespace Go.Proofs.Ytcbkggjphoeceaa
open Go.RowKit Go.IntWalk
open Pk Cr Ck
set_option maxRecDepth 100000
attribute [local go_sem] Oper.semAt_some

/-- append to a row of the call's own, as one step of a region that draws -/
theorem step_append_own {P : Program} {ops : Array Oper} {o : Oper} {a : Act} {w : World} {K : Act → World → Prop} {Q : Exit → Act → World → Prop} {E : Prop} (hgd : o.guard = none) (s x : Operand) (t : TypeId)
    (ho : o.op = .call { callee := .builtin .append, args := #[s, x], argTypes := #[t, t] })
    (base : Nat) (e : TypeId) (i : TypeInfo) (z : Value) (size bytes : Nat) (ht : P.underlying t = some (.slice e)) (hi : P.info? e = some i) (hz : i.zero = some z)
    (hsize : i.size = size) (hby : i.bytes = bytes) (hzs : z.cells.size = size) (hsz : 0 < size)
    (v : Value) (n : Nat) (xs : List Value) (hs : a.eval s = v) (hown : w.ownsRow base e size v n xs)
    (ad : Addr) (m c : Nat) (news : List Value) (hx : a.eval x = .slice (some ad) m c) (hl : news.length = m * size) (hnews : ∀ j u, news[j]? = some u → w.cell? (ad.add j) = some u) (h1 : ∀ u ∈ news, u.oneCell' = true)
    (h63 : n + m ≤ maxLen) (hbytes : (n + m) * bytes ≤ 140737488355328) (hbase : base ≤ w.heap.size)
    (h : ∀ v' w', w'.ownsRow base e size v' (n + m) (xs ++ news) → w.grownBy w' v.ownBlock → K (a.put o.dst v') w') :
    if Region.wanted o (yielded ops a.tmps) = true then Oper.wp P o a w K Q else E := by
  have hw : Region.wanted o (yielded ops a.tmps) = true := by simp [Region.wanted, hgd]
  rw [if_pos hw]
  exact wp_append_own w s x t ho base e i z size bytes ht hi hz hsize hby hzs hsz v n xs hs hown ad m c news hx hl hnews h1 h63 hbytes hbase fun v' w' h2 h3 _ => h v' w' h2 h3

def SplitEnd (s : List UInt8) (w : World) (e : Ending) (w' : World) : Prop :=
  ∃ A cap, e = .returned (.tuple #[.int .i64 (splitV s), .slice A (splitP s).1.length cap, .int .i64 (splitP s).2]) ∧ At w' w'.heap.size A (cvs (splitP s).1) ∧ Below w.heap.size w w'
theorem splitEnd_err {s : List UInt8} {x : Int} {w w' : World} (h : splitP s = ([], x)) (h0 : x ≠ 0) (hb : Below w.heap.size w w') : SplitEnd s w (.returned (.tuple #[.int .i64 0, .slice none 0 0, .int .i64 x])) w' := by
  refine ⟨none, 0, ?_, ?_, hb⟩
  · unfold splitV
    rw [h, if_neg h0]; rfl
  · rw [h]; exact At.nil _ _ _
theorem splitEnd_ok {s : List UInt8} {A : Option Addr} {n cap : Nat} {out : List Chk} {w w' : World} (h : splitP s = (out, 0)) (hn : n = out.length) (ha : At w' w'.heap.size A (cvs out)) (hb : Below w.heap.size w w') : SplitEnd s w (.returned (.tuple #[.int .i64 (verV s), .slice A n cap, .int .i64 0])) w' := by
  refine ⟨A, cap, ?_, ?_, hb⟩
  · unfold splitV
    rw [h, if_pos rfl, hn]
  · rw [h]; exact ha
theorem cuts_step {f : Nat} {a : Int} {out : List Chk} {k : UInt8} {r : List UInt8} {R : List Chk × Int} (h : cuts f a out (k :: r) = R) (hf : (k :: r).length ≤ f) :
    (cutE k r ≠ 0 → R = ([], cutE k r)) ∧ (cutE k r = 0 → (k.toNat : Int) ≤ a → R = ([], 12)) ∧ (cutE k r = 0 → ¬ (k.toNat : Int) ≤ a → cuts (f - 1) (k.toNat : Int) (out ++ [cutC k r]) (cutR r) = R) := by
  cases f with
  | zero => simp at hf
  | succ f =>
    rw [cuts] at h
    refine ⟨fun g => ?_, fun g g2 => ?_, fun g g2 => ?_⟩
    · rw [if_pos g] at h; exact h.symm
    · rw [if_neg (by simp [g]), if_pos g2] at h; exact h.symm
    · rw [if_neg (by simp [g]), if_neg g2] at h; exact h
theorem split_in {s : List UInt8} (h : verE s = 0) : splitP s = cuts s.length 0 [] (s.drop 5) := by unfold splitP; rw [if_neg (by simp [h])]
theorem version_k {s : List UInt8} (e v : Int) (he : verE s = e) (hv : verV s = v) (hs : s.length ≤ 9223372036854775807) (w : World) :
    Calls Try.prog 18 #[.string (ba s)] w fun e' w' => e' = .returned (.tuple #[.int .i64 v, .int .i64 e]) ∧ w = w' := by
  subst he hv
  exact version_c s hs w
theorem kept_other {w w' : World} {row : Option Nat} {p : Addr} {u : Value} (h : w.cell? p = some u) (hg : w.grownBy w' row) (hne : some p.block ≠ row) : w'.cell? p = some u :=
  (World.cell?_of_block (w := w) (hg.block p.block (lt_of_cell h) hne)).trans h

theorem own_drew {w : World} {base : Nat} {e : TypeId} {size : Nat} {v : Value} {n : Nat} {xs : List Value} (h : w.ownsRow base e size v n xs) : w.drew.ownsRow base e size v n xs := h
theorem cells_new2 (w : World) (o : Obj) (t : TypeId) (l : List Value) : ∀ (j : Nat) (u : Value), l[j]? = some u → ((w.alloc o).drew.alloc (.cells l.toArray t)).cell? ((⟨w.heap.size + 1, 0, none⟩ : Addr).add j) = some u := fun j u hj => by
  have := cells_new (w.alloc o).drew t l j u hj
  have e : (w.alloc o).drew.heap.size = w.heap.size + 1 := by simp
  rw [e] at this
  exact this
theorem undrew2 {w w' : World} {o : Obj} {r : Option Nat} (h : (w.drew.alloc o).grownBy w' r) : w.grownBy w' r :=
  ⟨h.os, h.tape, h.output, Nat.le_trans (by simp) h.size, fun i hi hne => (h.block i (by simp; omega) hne).trans (heap_alloc_old w o hi)⟩
set_option maxHeartbeats 8000000 in
theorem split_c (s : List UInt8) (hl : s.length ≤ 100000) (w : World) :
    Calls Try.prog 16 #[.string (ba s)] w (SplitEnd s w) := by
  have hz := ba_size s
  obtain ⟨i0, hi, hz0, hz1, hz2⟩ := info_parts Try.info32
  obtain ⟨v, hv⟩ : ∃ v, verV s = v := ⟨_, rfl⟩
  have hver : verE s = 7 ∨ verE s = 2 ∨ verE s = 0 := by
    unfold verE
    split
    · exact .inl rfl
    · split
      · exact .inr (.inl rfl)
      · exact .inr (.inr rfl)
  have HV := Lib.hid hv
  clear hv
  by_cases h0 : verE s = 0
  · have h5 : 5 ≤ s.length := by
      have := (ver_back h0).1
      have := congrArg List.length this
      simp only [List.length_append, List.length_cons, magic, List.length_nil] at this
      omega
    obtain ⟨R, hR⟩ : ∃ R, R = splitP s := ⟨_, rfl⟩
    have hspl := split_in h0
    rw [← hR] at hspl
    have H0 := Lib.hid h0
    have HR := Lib.hid hR
    have hx5 := extract_drop s 5
    have HS := Lib.hid hspl
    have h5i : (5 : Int) ≤ (s.length : Int) := by omega
    clear hver h0 hR hspl
    go_enter Try.func16, Try.ntmps16
    go_wp2_with fail
    go_step3
    go_wp2_with fail
    refine (version_k 0 v H0.out HV.out (by omega) _).mono ?_
    rintro e w1 ⟨rfl, rfl⟩
    go_wp2_with fail
    refine (new_c (s.drop 5) _).mono ?_
    rintro e w1 ⟨rfl, hr1, hw1⟩
    have hb1 : Below w.heap.size w w1 := by rw [hw1]; exact (Below.refl _ _).alloc (Nat.le_refl _) _
    have hs1 : w.heap.size + 1 ≤ w1.heap.size := by rw [hw1]; simp
    clear hw1 hx5
    go_wp2_with fail
    go_step3
    go_wp2_with fail
    go_loopg [7, 9] (s.length) (fun g sl a wr => ∃ (x : Int) (f : Nat) (A : Option Addr) (cap : Nat) (out : List Chk) (rest : List UInt8), a = .int .i64 x ∧ sl = .slice A out.length cap ∧ rest.length ≤ g ∧ cuts f x out rest = R ∧ rest.length ≤ f ∧ out.length + rest.length ≤ s.length ∧ Rdr wr w.heap.size ⟨rest, 0⟩ ∧ wr.ownsRow (w.heap.size + 1) 32 2 (.slice A out.length cap) out.length (cvs out) ∧ Below w.heap.size w wr ∧ w.heap.size + 1 ≤ wr.heap.size)
    case atStart => exact ⟨0, s.length, none, 0, [], s.drop 5, rfl, rfl, by rw [List.length_drop]; omega, HS.out.symm, by rw [List.length_drop]; omega, by rw [List.length_drop]; simp, hr1, World.ownsRow_nil _ _ _ _, hb1, hs1⟩
    case round =>
      clear hr1 hb1 hs1
      obtain ⟨x, f, A, cap, out, rest, rfl, rfl, hg, hsp, hrf, hor, hr, hown, hb, hsz⟩ := hrel
      have HSP := Lib.hid hsp
      clear hsp
      go_wp2_with fail
      refine (left_c _ _ _ hr).mono ?_
      rintro e wz ⟨rfl, rfl⟩
      cases rest with
      | nil =>
        have hout : splitP s = (out, 0) := by rw [← HR.out, ← HSP.out, cuts_nil]
        obtain ⟨A', cap', hv', hat, -, -⟩ := own_at hown
        cases hv'
        have HO := Lib.hid hout
        have HAT := Lib.hid hat
        clear hout hat hown hr
        rw [← HV.out]
        go_wp2_with fail
        try rw [Exit.noGoto_ret]
        go_ret3
        exact splitEnd_ok HO.out rfl HAT.out hb
      | cons k r =>
        obtain ⟨q1, q2, q3⟩ := cuts_step HSP.out hrf
        have hrl : r.length ≤ 100000 := by simp only [List.length_cons] at hor; omega
        have hlen0 : (0 : Int) < ((k :: r).length : Int) := by simp only [List.length_cons]; omega
        obtain ⟨ce, hce⟩ : ∃ ce, cutE k r = ce := ⟨_, rfl⟩
        rw [hce] at q1 q2 q3
        have Q1 := Lib.hid q1
        have Q2 := Lib.hid q2
        have Q3 := Lib.hid q3
        have hsq := is_lt hr
        clear q1 q2 q3
        go_wp2_with fail
        refine (read_c k r w.heap.size hrl wr hr).mono ?_
        unfold ReadEnd
        rw [hce]
        have HCE := Lib.hid hce
        have hr0 := hr
        clear hce hr
        rintro e w3 ⟨hg3, ⟨hne, rfl⟩ | ⟨h0, rfl, hr3⟩⟩
        · have hb3 := below_only hb hg3 hb.size (Nat.le_refl _)
          have hb4 := hb3.alloc hb3.size (.cells #[.int .i64 0, .string ⟨#[]⟩] 32)
          have hee : (ce != 0) = true := by simpa using hne
          have HNE := Lib.hid hne
          clear hne
          go_wp2_with fail
          try rw [Exit.noGoto_ret]
          go_ret3
          exact splitEnd_err (by rw [← HR.out]; exact Q1.out HNE.out) HNE.out hb4
        · subst h0
          obtain ⟨cb, hcb⟩ : ∃ cb, (cutC k r).2 = cb := ⟨_, rfl⟩
          rw [hcb]
          have HCB := Lib.hid hcb
          clear hcb
          have hb3 := below_only hb hg3 hb.size (Nat.le_refl _)
          have hb4 := hb3.alloc hb3.size (.cells #[.int .i64 (k.toNat : Int), .string (ba cb)] 32)
          by_cases hord : (k.toNat : Int) ≤ x
          · have hn : ¬ x < (k.toNat : Int) := by omega
            have HORD := Lib.hid hord
            clear hord
            go_wp2_with fail
            try rw [Exit.noGoto_ret]
            go_ret3
            exact splitEnd_err (by rw [← HR.out]; exact Q2.out (by first | trivial | rfl) HORD.out) (by decide) hb4
          · have hn : x < (k.toNat : Int) := by omega
            have HORD := Lib.hid hord
            clear hord
            go_wp2_with fail
            have hown3 : w3.ownsRow (w.heap.size + 1) 32 2 (.slice A out.length cap) out.length (cvs out) := hown.kept hg3 (Or.inr fun e => by have := (hown.lt _ e).1; omega)
            have hown4 := own_drew (hown3.alloc (.cells #[.int .i64 (k.toNat : Int), .string (ba cb)] 32))
            have hs3 : w.heap.size + 1 ≤ w3.heap.size := Nat.le_trans hsz hg3.size
            have hr4 := rdr_alloc hr3 (.cells #[.int .i64 (k.toNat : Int), .string (ba cb)] 32)
            have hpc := pair_new w3 (.int .i64 (k.toNat : Int)) (.string (ba cb)) 32
            have hc0 := hpc.1
            have hol : out.length ≤ 100000 := by omega
            have hne0 : some w3.heap.size ≠ (Value.slice A out.length cap).ownBlock := fun e => by have := (hown3.lt _ e.symm).2; omega
            have hne1 : some w.heap.size ≠ (Value.slice A out.length cap).ownBlock := fun e => by have := (hown3.lt _ e.symm).1; omega
            clear hpc
            go_region_law (refine step_append_own rfl _ _ 22 rfl (w.heap.size + 1) 32 i0 (.agg #[.int .i64 0, .string ByteArray.empty]) 2 24 Try.underlying22 hi hz0 hz1 hz2 rfl (by decide) _ _ _ rfl (hown4.alloc _) ⟨w3.heap.size + 1, 0, none⟩ 1 1 [.int .i64 (k.toNat : Int), .string (ba cb)] rfl rfl (cells_new2 w3 _ _ _) (by simp [Value.oneCell']) (by unfold maxLen; omega) (by omega) (by simp; omega) ?_; intro v' w5 hown' hgrow; have hcG := kept_other (p := ⟨w3.heap.size, 0, none⟩) hc0 (undrew2 hgrow) hne0)
            all_goals
              have hg5 : (w3.alloc (.cells #[.int .i64 (k.toNat : Int), .string (ba cb)] 32)).grownBy w5 (Value.slice A out.length cap).ownBlock := undrew2 (o := .cells #[.int .i64 (k.toNat : Int), .string (ba cb)] 32) hgrow
              have hb5 := hb4.grown hg5 hb4.size (fun j hj => by have := (hown3.lt _ hj).1; omega)
              have hr5 : Rdr w5 w.heap.size ⟨cutR r, 0⟩ := is_grown hr4 hg5 hne1
              have hs5 : w.heap.size + 1 ≤ w5.heap.size := by have := hg5.size; rw [World.size_alloc] at this; omega
              obtain ⟨A', cap', hv', -, -, -⟩ := own_at hown'
              subst hv'
              have hcc : cutC k r = ((k.toNat : Int), cb) := Prod.ext rfl HCB.out
              have hown6 : w5.ownsRow (w.heap.size + 1) 32 2 (.slice A' (out.length + 1) cap') (out ++ [cutC k r]).length (cvs (out ++ [cutC k r])) := by
                rw [hcc, cvs_snoc, List.length_append, List.length_singleton]
                exact hown'
              have hq3 : cuts (f - 1) (k.toNat : Int) (out ++ [cutC k r]) (cutR r) = R := Q3.out (by first | trivial | rfl) HORD.out
              have hcl := cutR_len r
              have H6 := Lib.hid hown6
              have H3 := Lib.hid hq3
              clear hown hown' hown6 hown3 hown4 hgrow hg5 hr3 hr4 hcc hq3 hb hb3 hb4 hg3
              go_wp2_with fail
              go_roundg (gk - 1)
              case measure => simp only [List.length_cons] at hg; omega
              case rel =>
                refine ⟨(k.toNat : Int), f - 1, A', cap', out ++ [cutC k r], cutR r, rfl, ?_, ?_, H3.out, ?_, ?_, hr5, ?_, hb5, hs5⟩
                · rw [List.length_append, List.length_singleton]
                · simp only [List.length_cons] at hg; omega
                · simp only [List.length_cons] at hrf; omega
                · simp only [List.length_append, List.length_cons, List.length_nil] at hor ⊢; omega
                · have := H6.out
                  rw [List.length_append, List.length_singleton] at this ⊢
                  exact this
  · have hx : verE s = 7 ∨ verE s = 2 := by rcases hver with h | h | h <;> simp_all
    clear hver
    obtain ⟨x, hxe⟩ : ∃ x, verE s = x := ⟨_, rfl⟩
    have hxn : (x != 0) = true := by rw [← hxe]; simpa using h0
    have hsp : splitP s = ([], x) := by unfold splitP; rw [if_pos h0, hxe]
    have hx0 : x ≠ 0 := by rw [← hxe]; exact h0
    have HXE := Lib.hid hxe
    have HSP := Lib.hid hsp
    have HX0 := Lib.hid hx0
    clear hx h0 hsp hx0 hxe
    go_enter Try.func16, Try.ntmps16
    go_wp2_with fail
    go_step3
    go_wp2_with fail
    refine (version_k x v HXE.out HV.out (by omega) _).mono ?_
    rintro e w1 ⟨rfl, rfl⟩
    go_wp2_with fail
    try rw [Exit.noGoto_ret]
    go_ret3
    exact splitEnd_err HSP.out HX0.out (Below.refl _ _)
end Go.Proofs.Ytcbkggjphoeceaa
