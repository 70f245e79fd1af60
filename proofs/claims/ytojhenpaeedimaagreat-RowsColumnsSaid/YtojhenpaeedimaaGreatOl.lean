/-
 takeRanks, that panics: the program's.
 takeRanks, that panics: the program's, its walk.
-/
import Derived.Test.YtojhenpaeedimaaGreatOj
import Derived.Laws.OwnMore
import Derived.Laws.MakeOwn
section
namespace Go.Proofs.YtojhenpaeedimaaGreat
open Go.RowKit Go.IntWalk
open Pk Rf Fl Wd Ol Dl Ru Fg Dt Rl
set_option maxRecDepth 100000
attribute [local go_sem] Oper.semAt_some
theorem containsF_c (A : Option Addr) (cap : Nat) (l : List Nat) (hl : l.length ≤ 100000) (hw : Re.Words l) (w : World) (hc : At w w.heap.size A (fvs l)) :
  Calls Tryz.prog 145 #[.slice A l.length cap, .func (.func 60) #[] #[]] w fun e w' => e = .returned (.bool (ixN l).isSome) ∧ Below w.heap.size w w' := by
 have hidx := indexF_c A cap l hl hw w hc
 unfold ixI at hidx
 cases hR : ixN l with
 | none =>
  rw [hR] at hidx
  simp only at hidx
  have HI := Lib.hid hidx
  clear hidx hR hc hw
  go_enter Tryz.func145, Tryz.ntmps145
  go_wp2_with fail
  refine HI.out.mono ?_
  rintro e w1 ⟨rfl, hb⟩
  go_wp2_with fail
  go_ret
  exact ⟨rfl, hb⟩
 | some i =>
  rw [hR] at hidx
  simp only at hidx
  have HI := Lib.hid hidx
  have hq : decide ((0 : Int) ≤ (i : Int)) = true := decide_eq_true (by omega)
  clear hidx hR hc hw
  go_enter Tryz.func145, Tryz.ntmps145
  go_wp2_with fail
  refine HI.out.mono ?_
  rintro e w1 ⟨rfl, hb⟩
  go_wp2_with fail
  go_ret
  exact ⟨rfl, hb⟩
theorem ixN_any : ∀ ys : List Nat, (ixN ys).isSome = (cbs ys).any (fun u => !nz u)
 | [] => rfl
 | y :: t => by
  have ih := ixN_any t
  unfold ixN
  unfold cbs at ih ⊢
  rw [List.map_cons, List.any_cons, ← ih]
  by_cases hy : nz (cb y) = false
  ·rw [if_pos hy, hy]; rfl
  ·rw [if_neg hy]
   have hy2 : nz (cb y) = true := by simpa using hy
   rw [hy2]
   cases ixN t <;> rfl
theorem mrg_snoc : ∀ (f : List Bool) (r : List Nat) (b : Bool) (y : Nat), (b = true → r[Fg.cnt f]? = some y) → mrg (f ++ [b]) r = mrg f r ++ [if b then y else 0]
 | [], r, false, y, _ => by simp [mrg]
 | [], r, true, y, h => by
  have h := h rfl
  cases r with
  | nil => simp at h
  | cons x t => simp [Fg.cnt] at h; subst h; simp [mrg]
 | false :: f, r, b, y, h => by
  have ih := mrg_snoc f r b y (fun hb => by simpa [Fg.cnt] using h hb)
  rw [List.cons_append]
  unfold mrg
  rw [ih, List.cons_append]
 | true :: f, [], b, y, h => by
  cases b with
  | true => have := h rfl; simp at this
  | false =>
   have ih := mrg_snoc f [] false y (fun hb => by cases hb)
   rw [List.cons_append]
   unfold mrg
   rw [ih, List.cons_append]
 | true :: f, x :: r, b, y, h => by
  have ih := mrg_snoc f r b y (fun hb => by simpa [Fg.cnt] using h hb)
  rw [List.cons_append]
  unfold mrg
  rw [ih, List.cons_append]
theorem cbs_mrg : ∀ (f : List Bool) (r : List Nat), cbs (mrg f r) = mrg f (cbs r)
 | [], _ => rfl
 | false :: f, r => by
  have h0 : cb 0 = 0 := by decide
  unfold mrg
  have ih := cbs_mrg f r
  unfold cbs at ih ⊢
  rw [List.map_cons, ih, h0]
 | true :: f, [] => by
  have h0 : cb 0 = 0 := by decide
  have ih := cbs_mrg f []
  unfold cbs at ih ⊢
  unfold mrg
  rw [List.map_cons, h0, ih]
  rfl
 | true :: f, x :: r => by
  have ih := cbs_mrg f r
  unfold cbs at ih ⊢
  rw [List.map_cons]
  unfold mrg
  rw [List.map_cons, ih]
theorem mrg_words : ∀ (f : List Bool) (r : List Nat), Re.Words r → Re.Words (mrg f r)
 | [], _, _, u, hu => by simp [mrg] at hu
 | false :: f, r, h, u, hu => by
  unfold mrg at hu
  rcases List.mem_cons.1 hu with rfl | hu
  ·decide
  ·exact mrg_words f r h u hu
 | true :: f, [], h, u, hu => by
  unfold mrg at hu
  rcases List.mem_cons.1 hu with rfl | hu
  ·decide
  ·exact mrg_words f [] h u hu
 | true :: f, x :: r, h, u, hu => by
  unfold mrg at hu
  rcases List.mem_cons.1 hu with rfl | hu
  ·exact h _ (List.mem_cons_self ..)
  ·exact mrg_words f r (fun y hy => h y (List.mem_cons_of_mem _ hy)) u hu
theorem make_floats (n : Nat) (hn : n ≤ 100000) (W : World) :
  (Instr.makeSlice 23 (.int .i64 (n : Int)) (.int .i64 (n : Int))).run Tryz.prog W = .ok (.slice (some ⟨W.heap.size, 0, none⟩) n n) (W.alloc (.cells (fvs (List.replicate n 0)).toArray 49)) := by
 obtain ⟨i0, hi, hz0, hz1, hz2⟩ := info_parts Tryz.info49
 have hr := run_make (P := Tryz.prog) W 23 49 i0 _ Tryz.underlying23 hi hz0 .i64 .i64 n n (by omega) (Int.le_refl _) (by rw [hz2]; omega) (by omega)
 simp only [Int.toNat_natCast, hz1, Nat.mul_one] at hr
 rw [hr]
 have hm : madeCells (Value.float .f64 0).cells n = (fvs (List.replicate n 0)).toArray := by
  have h := toList_madeCells_one (.float .f64 0) n
  apply Array.toList_inj.1
  rw [show (Value.float FloatKind.f64 0).cells = #[.float .f64 0] from rfl, h]
  simp [fvs]
 rw [hm]
end Go.Proofs.YtojhenpaeedimaaGreat
end
section
namespace Go.Proofs.YtojhenpaeedimaaGreat
open Go.RowKit Go.IntWalk
open Pk Rf Fl Wd Ol Dl Ru Fg Dt Rl
set_option maxRecDepth 100000
attribute [local go_sem] Oper.semAt_some
/-- how takeRanks ends -/
def TkEnd (r : List Nat × Int) (w : World) (e : Ending) (w' : World) : Prop :=
 Below w.heap.size w w' ∧ (if r.2 ≠ 0 then e = Pn r.2 else ∃ (A : Option Addr) (cap : Nat) (ys : List Nat), e = .returned (.slice A ys.length cap) ∧ cbs ys = r.1 ∧ Re.Words ys ∧ At w' w'.heap.size A (fvs ys) ∧ ys.length ≤ cap ∧ (A = none → cap = 0))
theorem tkEnd_no {r : List Nat × Int} {w w' : World} {x : Int} (h : r.2 = x) (hx : x ≠ 0) (hb : Below w.heap.size w w') : TkEnd r w (Pn x) w' := by
 unfold TkEnd; rw [h, if_pos hx]; exact ⟨hb, rfl⟩
/-- the loop of takeRanks, behind k flags: q ranks were taken -/
structure TkLi (w W : World) (AF : Option Addr) (L n : Nat) (f : List Bool) (ys : List Nat) (k : Nat) (A : Option Addr) (c : Nat) : Prop where
 row : Is W L 49 (fvs (mrg (f.take k) ys ++ List.replicate (n - k) 0))
 rest : At W L A (fvs (ys.drop (Fg.cnt (f.take k))))
 flag : At W L AF (bvs f)
 room : (ys.drop (Fg.cnt (f.take k))).length ≤ c
 own : Below w.heap.size w W
 wL : w.heap.size ≤ L
theorem mrg_len' (f : List Bool) (k : Nat) (ys : List Nat) (h : k ≤ f.length) : (mrg (f.take k) ys).length = k := by rw [mrg_len, List.length_take]; omega
theorem At.belowG {B : Nat} {w w' : World} {A : Option Addr} {xs : List Value} (h : At w B A xs) (hB : B ≤ w.heap.size) (hb : Below w.heap.size w w') : At w' B A xs := h.below (hb.mono hB)
theorem TkLi.below {w W W' : World} {L n k c : Nat} {f : List Bool} {ys : List Nat} {A AF : Option Addr} (h : TkLi w W AF L n f ys k A c) (hb : Below W.heap.size W W') : TkLi w W' AF L n f ys k A c :=
 ⟨is_below h.row hb (is_lt h.row), h.rest.belowG (Nat.le_of_lt (is_lt h.row)) hb, h.flag.belowG (Nat.le_of_lt (is_lt h.row)) hb, h.room, h.own.trans (hb.mono h.own.size), h.wL⟩
theorem cnt_step {f : List Bool} {k : Nat} {b : Bool} (h : f[k]? = some b) : Fg.cnt (f.take (k + 1)) = Fg.cnt (f.take k) + (if b then 1 else 0) := Fg.cnt_take h
theorem cnt_take_le (f : List Bool) (k : Nat) : Fg.cnt (f.take k) ≤ Fg.cnt f := by
 have h : Fg.cnt f = Fg.cnt (f.take k) + Fg.cnt (f.drop k) := by unfold Fg.cnt; rw [← List.count_append, List.take_append_drop]
 omega
theorem TkLi.skip {w W : World} {L n k c : Nat} {f : List Bool} {ys : List Nat} {A AF : Option Addr} (h : TkLi w W AF L n f ys k A c) (hk : k < n) (hf : f[k]? = some false) : TkLi w W AF L n f ys (k + 1) A c := by
 have hc := cnt_step hf
 simp only [Bool.false_eq_true, if_false, Nat.add_zero] at hc
 have hm := mrg_snoc (f.take k) ys false 0 (fun hb => by cases hb)
 obtain ⟨j, hj⟩ : ∃ j, n - k = j + 1 := ⟨n - k - 1, by omega⟩
 refine ⟨?_, by rw [hc]; exact h.rest, h.flag, by rw [hc]; exact h.room, h.own, h.wL⟩
 have hr := h.row
 rw [hj, List.replicate_succ] at hr
 rw [List.take_add_one, hf, show n - (k + 1) = j by omega]
 simp only [Option.toList_some]
 rw [hm, List.append_assoc]
 exact hr
theorem TkLi.put {w W : World} {L n k c c2 : Nat} {f : List Bool} {ys : List Nat} {A A2 AF : Option Addr} {y : Nat} (h : TkLi w W AF L n f ys k A c) (hk : k < n) (hkf : k ≤ f.length) (hf : f[k]? = some true) (hy : ys[Fg.cnt (f.take k)]? = some y)
  (hr : At W L A2 (fvs (ys.drop (Fg.cnt (f.take k) + 1)))) (hc2 : (ys.drop (Fg.cnt (f.take k) + 1)).length ≤ c2) : TkLi w (W.setCell ⟨L, k, none⟩ (.float .f64 y)) AF L n f ys (k + 1) A2 c2 := by
 have hc := cnt_step hf
 simp only [if_true] at hc
 have hm := mrg_snoc (f.take k) ys true y (fun _ => hy)
 obtain ⟨j, hj⟩ : ∃ j, n - k = j + 1 := ⟨n - k - 1, by omega⟩
 have hlt := is_lt h.row
 have hset : ∀ {A : Option Addr} {xs : List Value}, At W L A xs → At (W.setCell ⟨L, k, none⟩ (.float .f64 y)) L A xs := fun hr i v hv => by
  obtain ⟨b, o, e, hb, hcell⟩ := hr i v hv
  exact ⟨b, o, e, hb, (World.cell?_setCell_other _ _ _ _ (by intro e2; injection e2 with e2 _ _; omega)).trans hcell⟩
 refine ⟨?_, ?_, hset h.flag, by rw [hc]; exact hc2, h.own.setCell (p := ⟨L, k, none⟩) h.wL _, h.wL⟩
 ·have hr := is_set h.row k (.float .f64 y)
  rw [hj, List.replicate_succ, fvs_set] at hr
  rw [List.take_add_one, hf, show n - (k + 1) = j by omega]
  simp only [Option.toList_some]
  rw [hm, List.append_assoc]
  have hl := mrg_len' f k ys hkf
  rw [List.set_append_right _ _ (by omega), hl, Nat.sub_self] at hr
  exact hr
 ·rw [hc]
  exact hset hr
set_option maxHeartbeats 8000000 in
theorem tranks_c (s : List UInt8) (n : Int) (hs : s.length ≤ 90000) (hn1 : -9223372036854775808 ≤ n) (hn2 : n ≤ 9223372036854775807) (w : World) :
  Calls Tryz.prog 78 #[.string (ba s), .int .i64 n] w (TkEnd (takeU s n) w) := by
 obtain ⟨⟨a, b, e0⟩, hcut⟩ : ∃ q, cutP s = q := ⟨_, rfl⟩
 have hcl := cutP_len s
 rw [hcut] at hcl
 simp only at hcl
 have HCUT := Lib.hid hcut
 have hs9 : s.length ≤ 1000000000 := by omega
 have hal : a.length ≤ 90000 := by omega
 have hbl : b.length ≤ 100000 := by omega
 have htk : takeU s n = if e0 ≠ 0 then ([], e0) else if (decF a n).2 ≠ 0 then ([], (decF a n).2) else if (Re.decR b (Fg.cnt (decF a n).1 : Int)).2 ≠ 0 then ([], (Re.decR b (Fg.cnt (decF a n).1 : Int)).2)
   else if (Re.decR b (Fg.cnt (decF a n).1 : Int)).1.any (fun u => !nz u) = true then ([], 5) else (mrg (decF a n).1 (Re.decR b (Fg.cnt (decF a n).1 : Int)).1, 0) := by
  unfold takeU
  rw [hcut]
 have HTK := Lib.hid htk
 clear hcut hcl htk
 by_cases he0 : e0 = 0
 ·subst he0
  have htk2 := HTK.out
  rw [if_neg (show ¬ ((0 : Int) ≠ 0) by simp)] at htk2
  obtain ⟨⟨f, e1⟩, hf⟩ : ∃ q, decF a n = q := ⟨_, rfl⟩
  rw [hf] at htk2
  simp only at htk2
  have HF := Lib.hid hf
  have HT2 := Lib.hid htk2
  clear hf htk2 HTK
  go_enter Tryz.func78, Tryz.ntmps78
  go_wp2_with fail
  refine (tcut_y hs9 HCUT.out _).mono ?_
  rintro e w1 ⟨rfl, hb⟩
  have B1 := Lib.hid hb
  clear hb
  go_wp2_with fail
  refine (fdecode_k a n f e1 f.length HF.out rfl hn1 hn2 hal _).mono ?_
  rintro e w2 ⟨AF, cF, rfl, hat, hb⟩
  have B2 := Lib.hid (B1.out.trans (hb.mono B1.out.size))
  have F2 := Lib.hid hat
  clear hb hat
  by_cases he1 : e1 = 0
  ·subst he1
   have ht3 := HT2.out
   rw [if_neg (show ¬ ((0 : Int) ≠ 0) by simp)] at ht3
   obtain ⟨⟨us, e2⟩, hr⟩ : ∃ q, Re.decR b (Fg.cnt f : Int) = q := ⟨_, rfl⟩
   rw [hr] at ht3
   simp only at ht3
   have hfd := decF_dec (l := a) (n := n) (by rw [HF.out])
   rw [HF.out] at hfd
   have hfl : (f.length : Int) = n := hfd.2
   have hf4 : f.length ≤ 4096 := by
    by_cases hn4 : 4096 < n
    ·have h := decF_big (l := a) hn4
     rw [HF.out] at h
     injection h with _ h
     simp at h
    ·omega
   have hcn := cnt_le f
   have HR := Lib.hid hr
   have HT3 := Lib.hid ht3
   have HFL := Lib.hid hfl
   clear hr ht3 hfd hfl
   go_wp2_with fail
   refine (mustB_y _ _).mono ?_
   rintro e w3 ⟨rfl, hw3⟩
   subst hw3
   go_wp2_with fail
   refine (count_k f _ rfl rfl (by omega) F2.out).mono ?_
   rintro e w4 ⟨rfl, hw4⟩
   subst hw4
   go_wp2_with fail
   refine (decodeR_k b (Fg.cnt f : Int) us e2 rfl HR.out (by omega) (by omega) hbl _).mono ?_
   rintro e w5 ⟨AR, cR, ys, rfl, hcb, hwy, hyl, hat, hb, hroom⟩
   have B5 := Lib.hid (B2.out.trans (hb.mono B2.out.size))
   have F5 := Lib.hid (F2.out.keep hb)
   have R5 := Lib.hid hat
   have HCB := Lib.hid hcb
   have HWY := Lib.hid hwy
   have HYL := Lib.hid hyl
   have HROOM := Lib.hid hroom
   clear hb hat hcb hwy hyl hroom
   by_cases he2 : e2 = 0
   ·subst he2
    have hrd := Re.enc_decR (l := b) (n := (Fg.cnt f : Int)) (by rw [HR.out])
    rw [HR.out] at hrd
    have hul : us.length = Fg.cnt f := by have := hrd.1; simp only at this; omega
    have hyl : ys.length = Fg.cnt f := by rw [HYL.out, hul]
    have HY2 := Lib.hid hyl
    have hy4 : ys.length ≤ 100000 := by omega
    clear hrd hul hyl
    go_wp2_with fail
    refine (mustF_y _ _).mono ?_
    rintro e w6 ⟨rfl, hw6⟩
    subst hw6
    go_wp2_with fail
    refine (containsF_c AR cR ys hy4 HWY.out _ R5.out).mono ?_
    rintro e w7 ⟨rfl, hb⟩
    have B7 := Lib.hid (B5.out.trans (hb.mono B5.out.size))
    have F7 := Lib.hid (F5.out.keep hb)
    have R7 := Lib.hid (R5.out.keep hb)
    clear hb
    have hany := ixN_any ys
    rw [HCB.out] at hany
    cases hix : (ixN ys).isSome with
    | true =>
     rw [hix] at hany
     have HANY := Lib.hid hany
     clear hany hix
     go_wp2_with fail
     refine ⟨rfl, tkEnd_no ?_ (show (5 : Int) ≠ 0 by simp) B7.out⟩
     rw [HT3.out, if_neg (show ¬ ((0 : Int) ≠ 0) by simp), if_pos HANY.out.symm]
    | false =>
     rw [hix] at hany
     have hend : takeU s n = (mrg f us, 0) := by rw [HT3.out, if_neg (show ¬ ((0 : Int) ≠ 0) by simp), ← hany, if_neg (by simp)]
     have HEND := Lib.hid hend
     have hmk := make_floats f.length (by omega)
     rw [HFL.out] at hmk
     clear hany hix hend
     go_wp2_with fail
     obtain ⟨L, hL⟩ : ∃ L, w7.heap.size = L := ⟨_, rfl⟩
     obtain ⟨W8, hW8⟩ : ∃ W8, W8 = w7.alloc (.cells (fvs (List.replicate f.length 0)).toArray 49) := ⟨_, rfl⟩
     have m8 : TkLi w W8 AF L f.length f ys 0 AR cR := by
      refine ⟨?_, ?_, by rw [hW8, ← hL]; exact F7.out.below ((Below.refl _ _).alloc (Nat.le_refl _) _), by simpa [Fg.cnt] using HROOM.out, ?_, ?_⟩
      ·rw [hW8, ← hL]; exact is_new w7 49 _
      ·rw [hW8, ← hL]; simpa [Fg.cnt] using R7.out.below ((Below.refl _ _).alloc (Nat.le_refl _) _)
      ·rw [hW8]; exact B7.out.alloc B7.out.size _
      ·rw [← hL]; exact B7.out.size
     rw [← hW8, hL]
     have HM8 := Lib.hid m8
     clear m8 hW8 hL hmk
     go_loopw [8, 37] (fun o i wr => ∃ (k c : Nat) (A : Option Addr), i = .int .i64 (k : Int) ∧ o = .slice A (ys.drop (Fg.cnt (f.take k))).length c ∧ k ≤ f.length ∧ TkLi w wr AF L f.length f ys k A c) (fun _ i _ => f.length - (Go.RowKit.intOf i).toNat)
     case atStart => exact ⟨0, cR, AR, rfl, rfl, Nat.zero_le _, HM8.out⟩
     case round =>
      obtain ⟨k, c, A, rfl, rfl, hk, hli⟩ := hrel
      have HLI := Lib.hid hli
      clear hli
      obtain ⟨M, hM⟩ : ∃ M, (ys.drop (Fg.cnt (f.take k))).length = M := ⟨_, rfl⟩
      rw [hM]
      by_cases hlt : k < f.length
      ·have hki : (0 : Int) ≤ (k : Int) := by omega
       have hkl : (k : Int) < (f.length : Int) := by omega
       obtain ⟨x, hx⟩ := some_at hlt
       obtain ⟨bF, oF, eF, hbF, cF0⟩ := HLI.out.flag k (.bool x) (by simp [bvs, hx])
       subst eF
       cases x with
       | false =>
        have HX := Lib.hid hx
        have hcs := cnt_step hx
        simp only [Bool.false_eq_true, if_false, Nat.add_zero] at hcs
        have HCS := Lib.hid hcs
        have HM := Lib.hid hM
        clear hx hcs hM
        go_wp2_with fail
        go_roundw
        case rel => exact ⟨k + 1, c, A, by go_num, by rw [HCS.out, HM.out], by omega, HLI.out.skip hlt HX.out⟩
        case measure => simp only [Go.RowKit.intOf]; omega
       | true =>
        have hcs := cnt_step hx
        simp only [if_true] at hcs
        have hcl := cnt_take_le f (k + 1)
        obtain ⟨y, hy⟩ := some_at (show Fg.cnt (f.take k) < ys.length by have := HY2.out; omega)
        have hdr : ys.drop (Fg.cnt (f.take k)) = y :: ys.drop (Fg.cnt (f.take k) + 1) := drop_at_cons hy
        have hrest := HLI.out.rest
        rw [hdr] at hrest
        obtain ⟨bR, oR, eR, hbR, cR0⟩ := hrest 0 (.float .f64 y) rfl
        subst eR
        have hM1 : (ys.drop (Fg.cnt (f.take k) + 1)).length = M - 1 := by rw [← hM, hdr]; simp
        have hMp : 0 < M := by rw [← hM, hdr]; simp
        have hroom := HLI.out.room
        rw [hM] at hroom
        have hm1 : (1 : Int) ≤ (M : Int) := by omega
        have hm0 : (0 : Int) < (M : Int) := by omega
        have hmc : (M : Int) ≤ (c : Int) := by omega
        have hc1 : (1 : Int) ≤ (c : Int) := by omega
        have hrow := HLI.out.row
        have hl0 : wr.cell? ⟨L, k, none⟩ = some (.float .f64 0) := by
         rw [is_cell hrow k]
         have hl := mrg_len' f k ys hk
         unfold fvs
         rw [List.map_append, List.getElem?_append_right (by rw [List.length_map, hl]; exact Nat.le_refl _), List.length_map, hl, Nat.sub_self]
         obtain ⟨j, hj⟩ : ∃ j, f.length - k = j + 1 := ⟨f.length - k - 1, by omega⟩
         rw [hj]; rfl
        have hl1 := is_free hrow k
        rw [Nat.add_zero] at cR0
        have hrest1 : At wr L (some ⟨bR, oR + 1, none⟩) (fvs (ys.drop (Fg.cnt (f.take k) + 1))) := by
         have h := At.drop hrest 1
         exact h
        have HX := Lib.hid hx
        have HCS := Lib.hid hcs
        have HY := Lib.hid hy
        have HM1 := Lib.hid hM1
        have HR1 := Lib.hid hrest1
        have HRM := Lib.hid hroom
        clear hx hcs hcl hy hdr hrest hM hM1 hrow hrest1 hroom
        by_cases hcc : c = 1
        ·subst hcc
         have hM2 : M = 1 := by have := HRM.out; omega
         subst hM2
         have hz : ys.drop (Fg.cnt (f.take k) + 1) = [] := List.eq_nil_of_length_eq_zero HM1.out
         have HZ := Lib.hid hz
         clear hz
         go_wp2_with fail
         go_region_with fail
         all_goals (
          go_wp2_with fail
          go_roundw
          case rel => exact ⟨k + 1, 0, some ⟨bR, oR, none⟩, by go_num, by rw [HCS.out, HM1.out], by omega, (HLI.out.put hlt hk HX.out HY.out (by rw [HZ.out]; exact At.nil _ _ _) (by rw [HZ.out]; exact Nat.le_refl _)).below (Below.refl _ _).drew⟩
          case measure => simp only [Go.RowKit.intOf]; omega)
        ·have hc2 : (1 : Int) < (c : Int) := by omega
         go_wp2_with fail
         go_region_with fail
         all_goals (
          go_wp2_with fail
          go_roundw
          case rel => exact ⟨k + 1, c - 1, some ⟨bR, oR + 1, none⟩, by go_num, by rw [HCS.out, HM1.out], by omega, (HLI.out.put hlt hk HX.out HY.out HR1.out (by have := HRM.out; rw [HM1.out]; omega)).below (Below.refl _ _).drew⟩
          case measure => simp only [Go.RowKit.intOf]; omega)
      ·obtain rfl : k = f.length := by omega
       have hrow := HLI.out.row
       rw [List.take_length, Nat.sub_self, List.replicate_zero, List.append_nil] at hrow
       have HROW := Lib.hid hrow
       have hml : (mrg f ys).length = f.length := mrg_len f ys
       have HML := Lib.hid hml
       clear hrow hml hM
       go_wp2_with fail
       go_ret
       refine ⟨HLI.out.own, ?_⟩
       rw [HEND.out, if_neg (show ¬ ((0 : Int) ≠ 0) by simp)]
       refine ⟨some ⟨L, 0, none⟩, f.length, mrg f ys, by rw [HML.out]; rfl, by rw [cbs_mrg, HCB.out], mrg_words f ys HWY.out, fun i v hv => ⟨L, 0, rfl, is_lt HROW.out, ?_⟩, by rw [HML.out]; exact Nat.le_refl _, fun e => by cases e⟩
       rw [Nat.zero_add]
       exact (is_cell HROW.out i).trans hv
   ·have ht4 := HT3.out
    rw [if_pos he2] at ht4
    have HT4 := Lib.hid ht4
    clear ht4
    go_wp2_with fail
    refine (mustF_n _ he2 _).mono ?_
    rintro e w6 ⟨rfl, hw6⟩
    subst hw6
    go_wp2_with fail
    exact ⟨rfl, tkEnd_no (by rw [HT4.out]) he2 B5.out⟩
  ·have ht4 := HT2.out
   rw [if_pos he1] at ht4
   have HT4 := Lib.hid ht4
   clear ht4
   go_wp2_with fail
   refine (mustB_n _ he1 _).mono ?_
   rintro e w3 ⟨rfl, hw3⟩
   subst hw3
   go_wp2_with fail
   exact ⟨rfl, tkEnd_no (by rw [HT4.out]) he1 B2.out⟩
 ·have htk2 := HTK.out
  rw [if_pos he0] at htk2
  have HT2 := Lib.hid htk2
  clear htk2
  go_enter Tryz.func78, Tryz.ntmps78
  go_wp2_with fail
  refine (tcut_n hs9 HCUT.out he0 _).mono ?_
  rintro e w1 ⟨rfl, hb⟩
  go_wp2_with fail
  exact ⟨rfl, tkEnd_no (by rw [HT2.out]) he0 hb⟩
end Go.Proofs.YtojhenpaeedimaaGreat
end
