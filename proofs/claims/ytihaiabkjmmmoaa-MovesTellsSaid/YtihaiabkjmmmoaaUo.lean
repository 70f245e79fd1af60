/-
  'live' of layer 13's statements: some answers that are written out.
-/
import Derived.Test.YtihaiabkjmmmoaaUx
import Derived.Deep.RegionHeld3
import Derived.Deep.RegionWith
import Derived.Test.YtihaiabkjmmmoaaOa
namespace Go.Proofs.Ytihaiabkjmmmoaa
open Go.RowKit Go.IntWalk
open Wd Fl
set_option maxRecDepth 100000
attribute [local go_sem] Oper.semAt_some

/-- the moves of 'live' -/
abbrev mk (c r : Int) : Mv := (c, r, 5, 0, [97], 0)
abbrev l0 : List Mv := [mk 1 2, mk 3 1]
abbrev m0 : List Mv := [mk 1 2, mk 2 9, mk 3 1]
theorem liveF_c (c r : Int) (w : World) :
    Calls Try.prog 49 #[.int .i64 c, .int .i64 r] w fun e w' => e = .returned (.agg #[.int .i64 c, .int .i64 r, .int .i64 0, .int .i64 5, .string (ba [97]), .float .f64 0]) ∧ Below w.heap.size w w' := by
  go_enter Try.func49, Try.ntmps49
  go_wp2
  refine bodyPost_ret (v := .agg #[.int .i64 c, .int .i64 r, .int .i64 0, .int .i64 5, .string (ba [97]), .float .f64 0]) (by simp [results, Try.f49, go_sem]; rfl) rfl ?_
  exact ⟨rfl, by go_grown⟩
theorem minsert_k {A : Option Addr} {cap n N : Nat} {c r k : Int} {b : Bool} (l L : List Mv) (h : insM l (mk c r) = (L, k.toNat, b)) (hk : 0 ≤ k) (hN : L.length = N) (hn : l.length = n) (hl : n ≤ 1000) (hA : A = none → cap = 0) (hcap : n ≤ cap) {w : World} (hc : At w w.heap.size A (mvs l)) :
    Calls Try.prog 29 #[.slice A n cap, .agg #[.int .i64 c, .int .i64 r, .int .i64 0, .int .i64 5, .string (ba [97]), .float .f64 0]] w fun e w' => ∃ A' cap', e = .returned (.tuple #[.slice A' N cap', .int .i64 k, .bool b]) ∧ At w' w'.heap.size A' (mvs L) ∧ (A' = none → cap' = 0) ∧ N ≤ cap' ∧ Below w.heap.size w w' := by
  subst hN hn
  have hi := minsert_c A cap l (mk c r) (by omega) hA hcap w hc
  rw [h] at hi
  refine hi.mono ?_
  rintro e w' ⟨A', cap', rfl, h1, h2, h3, h4⟩
  refine ⟨A', cap', ?_, h1, h2, h3, h4⟩
  show Ending.returned (.tuple #[.slice A' L.length cap', .int .i64 ((k.toNat : Nat) : Int), .bool b]) = _
  rw [Int.toNat_of_nonneg hk]
theorem mk_ok {l : List Mv} (h : ∀ m ∈ l, ∃ c r, m = mk c r) : Moves_ l ∧ ∀ m ∈ l, (nm (mw m)).length ≤ maxLen := by
  refine ⟨fun m hm => ?_, fun m hm => ?_⟩
  · obtain ⟨c, r, rfl⟩ := h m hm
    exact ⟨by show 0 < _; omega, by show 1 ≤ maxLen; unfold maxLen; omega⟩
  · obtain ⟨c, r, rfl⟩ := h m hm
    show 1 ≤ maxLen
    unfold maxLen; omega
theorem mk_l0 : ∀ m ∈ l0, ∃ c r, m = mk c r := fun m hm => by
  simp only [List.mem_cons, List.not_mem_nil, or_false] at hm
  rcases hm with rfl | rfl <;> exact ⟨_, _, rfl⟩
theorem mk_m0 : ∀ m ∈ m0, ∃ c r, m = mk c r := fun m hm => by
  simp only [List.mem_cons, List.not_mem_nil, or_false] at hm
  rcases hm with rfl | rfl | rfl <;> exact ⟨_, _, rfl⟩
theorem mk_t0 : ∀ m ∈ [mk 2 9, mk 1 2], ∃ c r, m = mk c r := fun m hm => by
  simp only [List.mem_cons, List.not_mem_nil, or_false] at hm
  rcases hm with rfl | rfl <;> exact ⟨_, _, rfl⟩
theorem mone_t {c r : Int} {b : Bool} (h : oneM (mk c r) = b) (w : World) :
    Calls Try.prog 16 #[.agg #[.int .i64 c, .int .i64 r, .int .i64 0, .int .i64 5, .string (ba [97]), .float .f64 0]] w fun e w' => e = .returned (.bool b) ∧ Below w.heap.size w w' := by
  subst h
  exact mone_c (mk c r) (by show 1 ≤ maxLen; unfold maxLen; omega) w
theorem mone_z (w : World) :
    Calls Try.prog 16 #[.agg #[.int .i64 0, .int .i64 0, .int .i64 0, .int .i64 0, .string ByteArray.empty, .float .f64 0]] w fun e w' => e = .returned (.bool false) ∧ Below w.heap.size w w' :=
  mone_c (0, 0, 0, 0, [], 0) (by show 0 ≤ maxLen; omega) w
theorem mrow_t (c r : Int) (w : World) :
    Calls Try.prog 19 #[.agg #[.int .i64 c, .int .i64 r, .int .i64 0, .int .i64 5, .string (ba [97]), .float .f64 0]] w fun e w' => e = .returned (.agg #[.int .i64 5, .int .i64 0, .string (ba [97]), .float .f64 0]) ∧ Below w.heap.size w w' :=
  mrow_c (mk c r) w
theorem cells_at {w : World} {B b o k : Nat} {l : List Mv} {c r : Int} (h : At w B (some ⟨b, o, none⟩) (mvs l)) (hk : l[k]? = some (mk c r)) :
    w.cell? ⟨b, o + k * 6, none⟩ = some (.int .i64 c) ∧ w.cell? ⟨b, o + k * 6 + 1, none⟩ = some (.int .i64 r) ∧ w.cell? ⟨b, o + k * 6 + 2, none⟩ = some (.int .i64 0) ∧ w.cell? ⟨b, o + k * 6 + 3, none⟩ = some (.int .i64 5) ∧ w.cell? ⟨b, o + k * 6 + 4, none⟩ = some (.string (ba [97])) ∧ w.cell? ⟨b, o + k * 6 + 5, none⟩ = some (.float .f64 0) := by
  obtain ⟨b9, o9, e9, -, h0, h1, h2, h3, h4, h5⟩ := move_cells h hk
  cases e9
  exact ⟨h0, h1, h2, h3, h4, h5⟩
theorem some_addr {w : World} {B : Nat} {A : Option Addr} {l : List Mv} {m : Mv} (h : At w B A (mvs (m :: l))) : ∃ b o, A = some ⟨b, o, none⟩ := by
  obtain ⟨b, o, e, _⟩ := move_cells (k := 0) h rfl
  exact ⟨b, o, e⟩

theorem f_same1 : sameM l0 l0 = true := sameM_refl l0
theorem f_same2 : sameM l0 m0 = false := sameM_len (by decide)
theorem v97 : valid [97] = true := valid_iff.2 (by rw [(ends_step (l := [97]) (n := 1) (by decide) (by omega)).1]; show 1 + ends [] = 1; rw [ends_nil])
theorem f_row : oneP (5, 0, [97], 0) = true := by
  unfold oneP
  rw [v97]
  decide
theorem f_one {c r : Int} (h1 : 1 ≤ c) (h2 : c ≤ 4611686018427387903) (h3 : 1 ≤ r) (h4 : r ≤ 255) : oneM (mk c r) = true := by
  unfold oneM
  rw [decide_eq_true h1, decide_eq_true h2, decide_eq_true h3, decide_eq_true h4, f_row]
  rfl
theorem f_may1 : mayM m0 = true := mayM_iff.2 ⟨by decide, fun m hm => by
  simp only [List.mem_cons, List.not_mem_nil, or_false] at hm
  rcases hm with rfl | rfl | rfl <;> exact f_one (by decide) (by decide) (by decide) (by decide), by simp [MLt]; decide⟩
theorem f_may2 : mayM [mk 2 9, mk 1 2] = false := by
  rw [Bool.eq_false_iff]
  intro h
  have := (mayM_iff.1 h).2.2
  simp [MLt] at this
  revert this
  decide
theorem f_uni : uniM l0 [mk 3 1, mk 2 1] = [mk 1 2, mk 2 1, mk 3 1] := by rfl
theorem f_sin : sinM m0 1 2 = [mk 2 9, mk 3 1] := by rfl
theorem f_ins1 : insM l0 (mk 2 9) = (m0, (1 : Int).toNat, true) := by rfl
theorem f_ins2 : insM m0 (mk 3 1) = (m0, (2 : Int).toNat, false) := by rfl
theorem f_ins3 : insM m0 (mk 3 2) = (m0 ++ [mk 3 2], (3 : Int).toNat, true) := by rfl
theorem field5 (w : World) : (Instr.field 33 (Value.agg #[Value.int IntKind.i64 5, Value.int IntKind.i64 0, Value.string (ba [97]), Value.float FloatKind.f64 0]) 0).run Try.prog w = .ok (.int .i64 5) w := by kernel_rfl
attribute [local go_sem] field5
theorem at_al {w : World} {A : Option Addr} {xs : List Value} {o : Obj} (h : At w w.heap.size A xs) : At (w.alloc o) (w.alloc o).heap.size A xs := h.keep ((Below.refl _ _).alloc (Nat.le_refl _) _)
/-- what holds throughout the last region: both lists lie where they were -/
def S13 (w : World) (b2 bm om : Nat) (w' : World) : Prop := At w' w'.heap.size (some ⟨b2, 0, none⟩) (mvs l0) ∧ At w' w'.heap.size (some ⟨bm, om, none⟩) (mvs m0) ∧ Below w.heap.size w w'
theorem keep13 {w w1 w3 : World} {b2 bm om : Nat} (h : S13 w b2 bm om w1) (hb : Below w1.heap.size w1 w3) : S13 w b2 bm om w3 := ⟨h.1.keep hb, h.2.1.keep hb, h.2.2.trans (hb.mono h.2.2.size)⟩
theorem s13_l {w w1 : World} {b2 bm om : Nat} (h : S13 w b2 bm om w1) : At w1 w1.heap.size (some ⟨b2, 0, none⟩) (mvs l0) := h.1
theorem s13_m {w w1 : World} {b2 bm om : Nat} (h : S13 w b2 bm om w1) : At w1 w1.heap.size (some ⟨bm, om, none⟩) (mvs m0) := h.2.1
theorem s13_b {w w1 : World} {b2 bm om : Nat} (h : S13 w b2 bm om w1) : Below w.heap.size w w1 := h.2.2
set_option maxHeartbeats 16000000 in
theorem live13_c (w : World) :
    Calls Try.prog 15 #[] w fun e w' => e = .returned (.bool true) ∧ Below w.heap.size w w' := by
  go_enter Try.func15, Try.ntmps15
  go_wp2_with fail
  refine (liveF_c 1 2 _).mono ?_
  rintro e w1 ⟨rfl, hb1⟩
  go_wp2_with fail
  refine (liveF_c 3 1 _).mono ?_
  rintro e w2 ⟨rfl, hb2⟩
  have hbw2 := hb1.trans (hb2.mono hb1.size)
  have hL : Below w.heap.size w (w2.alloc (.cells (mvs l0).toArray 30)) := hbw2.alloc hbw2.size _
  have hl0 := at_lit w2 30 (mvs l0)
  have HL0 := Lib.hid hl0
  have HL := Lib.hid hL
  clear hb1 hb2 hbw2 hl0 hL
  go_wp2_with fail
  refine (liveF_c 2 9 _).mono ?_
  rintro e w3 ⟨rfl, hb3⟩
  have hbw3 : Below w.heap.size w w3 := HL.out.trans (hb3.mono HL.out.size)
  have HL3 := Lib.hid (HL0.out.keep hb3)
  clear hb3
  go_wp2_with fail
  refine (minsert_k (N := 3) (k := 1) (b := true) l0 m0 f_ins1 (by decide) rfl rfl (by decide) (fun h => by cases h) (by decide) HL3.out).mono ?_
  rintro e w4 ⟨Am, cm, rfl, ham, hnm, hcm, hb4⟩
  obtain ⟨bm, om, rfl⟩ := some_addr ham
  have hbw4 := hbw3.trans (hb4.mono hbw3.size)
  have HL4 := Lib.hid (HL3.out.keep hb4)
  have HM4 := Lib.hid ham
  have HCM := Lib.hid hcm
  clear ham hnm hb4 hcm
  go_wp2_with fail
  refine (liveF_c 3 1 _).mono ?_
  rintro e w5 ⟨rfl, hb5⟩
  have hbw5 := hbw4.trans (hb5.mono hbw4.size)
  have HL5 := Lib.hid (HL4.out.keep hb5)
  have HM5 := Lib.hid (HM4.out.keep hb5)
  clear hb5
  go_wp2_with fail
  refine (minsert_k (N := 3) (k := 2) (b := false) m0 m0 f_ins2 (by decide) rfl rfl (by decide) (fun h => by cases h) HCM.out HM5.out).mono ?_
  rintro e w6 ⟨An, cn, rfl, han, hnn, hcn, hb6⟩
  have hbw6 := hbw5.trans (hb6.mono hbw5.size)
  have HL6 := Lib.hid (HL5.out.keep hb6)
  have HM6 := Lib.hid (HM5.out.keep hb6)
  clear han hnn hb6 hcn
  go_wp2_with fail
  refine (liveF_c 3 2 _).mono ?_
  rintro e w7 ⟨rfl, hb7⟩
  have hbw7 := hbw6.trans (hb7.mono hbw6.size)
  have HL7 := Lib.hid (HL6.out.keep hb7)
  have HM7 := Lib.hid (HM6.out.keep hb7)
  clear hb7
  go_wp2_with fail
  refine (minsert_k (N := 4) (k := 3) (b := true) m0 (m0 ++ [mk 3 2]) f_ins3 (by decide) rfl rfl (by decide) (fun h => by cases h) HCM.out HM7.out).mono ?_
  rintro e w8 ⟨Ae, ce, rfl, hae, hne, hce, hb8⟩
  have hbw8 := hbw7.trans (hb8.mono hbw7.size)
  have HL8 := Lib.hid (HL7.out.keep hb8)
  have HM8 := Lib.hid (HM7.out.keep hb8)
  obtain ⟨b2, hb2⟩ : ∃ b2, b2 = w2.heap.size := ⟨_, rfl⟩
  have hs8 : S13 w b2 bm om w8.drew := by rw [hb2]; exact ⟨HL8.out, HM8.out, hbw8.drew⟩
  have HB2 := Lib.hid hb2
  have HS := Lib.hid hs8
  clear hae hne hb8 hce HL0 HL HL3 HL4 HM4 HL5 HM5 HL6 HM6 HL7 HM7 HL8 HM8 hbw3 hbw4 hbw5 hbw6 hbw7 hbw8 hs8 hb2
  go_wp2_with fail
  rw [← HB2.out]
  dsimp only [List.append]
  refine wp_region_pre (by kernel_rfl) ?_
  show wpAny _ .any _ _ 102 (lst 102 0) _ w8.drew
  generalize w8.drew = w9 at HS ⊢
  obtain ⟨y0, y1, y2, y3, y4, y5⟩ := cells_at (k := 1) HS.out.2.1 rfl
  refine wpAny_pref (m' := 2305843009213693951) ([0, 1, 2] ++ ([3, 4, 5] ++ ([6, 7, 8] ++ ([9, 10, 11] ++ ([12, 13, 14] ++ ([15, 16, 17] ++ ([18, 19, 20] ++ ([21, 22, 23] ++ ([24, 25, 26] ++ ([27, 28, 29] ++ ([30, 31, 32] ++ ([33, 34, 35] ++ ([36, 37, 38] ++ ([39, 40, 41] ++ ([42, 43, 44] ++ ([45, 46, 47] ++ ([49, 48, 50] ++ ([51, 52, 53] ++ ([54, 55, 56] ++ ([57, 58, 59] ++ ([60]))))))))))))))))))))) 102 41 (by rfl) ?hsA ?hcA ?hqA ?_
  case hsA => as_aux_lemma => kernel_rfl
  case hqA =>
    intro c a d v w' h
    cases d <;> exact h
  case hcA =>
    refine chunk_app (is := [0, 1, 2]) (m1 := 7) (by as_aux_lemma => kernel_rfl) ?_
    refine chunk_app (is := [3, 4, 5]) (m1 := 63) (by as_aux_lemma => kernel_rfl) ?_
    refine chunk_app (is := [6, 7, 8]) (m1 := 511) (by as_aux_lemma => kernel_rfl) ?_
    refine chunk_app (is := [9, 10, 11]) (m1 := 4095) (by as_aux_lemma => kernel_rfl) ?_
    refine chunk_app (is := [12, 13, 14]) (m1 := 32767) (by as_aux_lemma => kernel_rfl) ?_
    refine chunk_app (is := [15, 16, 17]) (m1 := 262143) (by as_aux_lemma => kernel_rfl) ?_
    refine chunk_app (is := [18, 19, 20]) (m1 := 2097151) (by as_aux_lemma => kernel_rfl) ?_
    refine chunk_app (is := [21, 22, 23]) (m1 := 16777215) (by as_aux_lemma => kernel_rfl) ?_
    refine chunk_app (is := [24, 25, 26]) (m1 := 134217727) (by as_aux_lemma => kernel_rfl) ?_
    refine chunk_app (is := [27, 28, 29]) (m1 := 1073741823) (by as_aux_lemma => kernel_rfl) ?_
    refine chunk_app (is := [30, 31, 32]) (m1 := 8589934591) (by as_aux_lemma => kernel_rfl) ?_
    refine chunk_app (is := [33, 34, 35]) (m1 := 68719476735) (by as_aux_lemma => kernel_rfl) ?_
    refine chunk_app (is := [36, 37, 38]) (m1 := 549755813887) (by as_aux_lemma => kernel_rfl) ?_
    refine chunk_app (is := [39, 40, 41]) (m1 := 4398046511103) (by as_aux_lemma => kernel_rfl) ?_
    refine chunk_app (is := [42, 43, 44]) (m1 := 35184372088831) (by as_aux_lemma => kernel_rfl) ?_
    refine chunk_app (is := [45, 46, 47]) (m1 := 281474976710655) (by as_aux_lemma => kernel_rfl) ?_
    refine chunk_app (is := [49, 48, 50]) (m1 := 2251799813685247) (by as_aux_lemma => kernel_rfl) ?_
    refine chunk_app (is := [51, 52, 53]) (m1 := 18014398509481983) (by as_aux_lemma => kernel_rfl) ?_
    refine chunk_app (is := [54, 55, 56]) (m1 := 144115188075855871) (by as_aux_lemma => kernel_rfl) ?_
    refine chunk_app (is := [57, 58, 59]) (m1 := 1152921504606846975) (by as_aux_lemma => kernel_rfl) ?_
    as_aux_lemma => kernel_rfl
  simp only [ordL, List.cons_append, List.nil_append, List.getElem?_toArray, List.getElem?_cons_zero, List.getElem?_cons_succ]
  generalize hQ2 : Exit.then _ _ = Q2
  have HQ2 := Lib.hid hQ2
  clear hQ2
  go_wp2_with fail
  refine (msince_k (N := 2) (c := 1) (r := 2) m0 [mk 2 9, mk 3 1] f_sin rfl rfl (by decide) (s13_m HS.out)).mono ?_
  rintro e w10 ⟨As, cs, rfl, -, -, -, hbn⟩
  have HS1 := Lib.hid (keep13 HS.out hbn)
  clear hbn y0 y1 y2 y3 y4 y5 HS
  go_wp2_with fail
  refine (liveF_c 3 1 _).mono ?_
  rintro e w11 ⟨rfl, hbn⟩
  have HS2 := Lib.hid (keep13 HS1.out hbn)
  clear hbn HS1
  go_wp2_with fail
  refine (liveF_c 2 1 _).mono ?_
  rintro e w12 ⟨rfl, hbn⟩
  have HS3 := Lib.hid (keep13 HS2.out hbn)
  clear hbn HS2
  go_wp2_with fail
  have hal := keep13 HS3.out ((Below.refl _ _).alloc (Nat.le_refl _) (.cells (mvs [mk 3 1, mk 2 1]).toArray 30))
  refine (muni_k (N := 3) l0 [mk 3 1, mk 2 1] [mk 1 2, mk 2 1, mk 3 1] f_uni rfl rfl rfl (by decide) (fun h => by cases h) (by decide) (s13_l hal) (at_lit _ 30 (mvs [mk 3 1, mk 2 1]))).mono ?_
  rintro e w13 ⟨Au, cu, rfl, -, -, -, hbn⟩
  have HS4 := Lib.hid (keep13 hal hbn)
  clear hbn hal HS3
  go_wp2_with fail
  refine (mmay_k (b := true) m0 f_may1 rfl (by decide) (mk_ok mk_m0).2 (s13_m HS4.out)).mono ?_
  rintro e w14 ⟨rfl, hbn⟩
  have HS := Lib.hid (keep13 HS4.out hbn)
  clear hbn HS4
  go_wp2_with fail
  rw [← HQ2.out]
  clear HQ2
  show wpAny _ .any _ _ (40 + 1) (lst 102 2305843009213693951) _ w14
  refine wpAny_free (i := 61) (oi := { dst := some 102, op := Op.move (Operand.tmp 3), type := 22, pos := "law.go:21", after := #[{ on := 60, ground := Ground.guard }], guard := some (60, true) }) (v := .slice (some ⟨bm, om, none⟩) 3 cm) rfl ?q1 (fun _ _ _ h => h) (.inl ⟨by rfl, ?q2⟩) ?_
  case q1 => as_aux_lemma => kernel_rfl
  case q2 =>
    intro w'
    go_simp
    try rfl
  simp only [Act.put, List.setIfInBounds_toArray, List.set_cons_zero, List.set_cons_succ]
  show wpAny _ .any _ _ (39 + 1) (lst 102 4611686018427387903) _ w14
  refine wpAny_free (i := 64) (oi := { dst := some 105, op := Op.move (Operand.tmp 3), type := 22, pos := "law.go:21", after := #[{ on := 60, ground := Ground.guard }], guard := some (60, true) }) (v := .slice (some ⟨bm, om, none⟩) 3 cm) rfl ?q1 (fun _ _ _ h => h) (.inl ⟨by rfl, ?q2⟩) ?_
  case q1 => as_aux_lemma => kernel_rfl
  case q2 =>
    intro w'
    go_simp
    try rfl
  simp only [Act.put, List.setIfInBounds_toArray, List.set_cons_zero, List.set_cons_succ]
  show wpAny _ .any _ _ (38 + 1) (lst 102 23058430092136939519) _ w14
  refine wpAny_free (i := 62) (oi := { dst := some 103, op := Op.indexAddr 22 (Operand.tmp 102) (Operand.const (Value.int IntKind.i64 1)), type := 0, pos := "law.go:21", after := #[{ on := 61, ground := Ground.data }, { on := 60, ground := Ground.guard }], guard := some (60, true) }) (v := .pointer (some ⟨bm, om + 1 * 6, none⟩)) rfl ?q1 (fun _ _ _ h => h) (.inl ⟨by rfl, ?q2⟩) ?_
  case q1 => as_aux_lemma => kernel_rfl
  case q2 =>
    intro w'
    go_simp
    try rfl
  simp only [Act.put, List.setIfInBounds_toArray, List.set_cons_zero, List.set_cons_succ]
  show wpAny _ .any _ _ (37 + 1) (lst 102 27670116110564327423) _ w14
  refine wpAny_free (i := 65) (oi := { dst := some 106, op := Op.indexAddr 22 (Operand.tmp 105) (Operand.const (Value.int IntKind.i64 0)), type := 0, pos := "law.go:21", after := #[{ on := 64, ground := Ground.data }, { on := 60, ground := Ground.guard }], guard := some (60, true) }) (v := .pointer (some ⟨bm, om, none⟩)) rfl ?q1 (fun _ _ _ h => h) (.inl ⟨by rfl, ?q2⟩) ?_
  case q1 => as_aux_lemma => kernel_rfl
  case q2 =>
    intro w'
    go_simp
    try rfl
  simp only [Act.put, List.setIfInBounds_toArray, List.set_cons_zero, List.set_cons_succ]
  obtain ⟨x0, x1, x2, x3, x4, x5⟩ := cells_at (k := 1) HS.out.2.1 rfl
  obtain ⟨z0, z1, z2, z3, z4, z5⟩ := cells_at (k := 0) HS.out.2.1 rfl
  rw [Nat.zero_mul, Nat.add_zero] at z0 z1 z2 z3 z4 z5
  show wpAny _ .any _ _ (35 + 2) (lst 102 64563604257983430655) _ w14
  refine wpAny_two (i := 63) (j := 66) (oi := { dst := some 104, op := Op.load 30 (Operand.tmp 103), type := 30, pos := "law.go:21", after := #[{ on := 62, ground := Ground.data }, { on := 60, ground := Ground.guard }], guard := some (60, true) }) (oj := { dst := some 107, op := Op.load 30 (Operand.tmp 106), type := 30, pos := "law.go:21", after := #[{ on := 65, ground := Ground.data }, { on := 60, ground := Ground.guard }], guard := some (60, true) }) (vi := .agg #[.int .i64 2, .int .i64 9, .int .i64 0, .int .i64 5, .string (ba [97]), .float .f64 0]) (vj := .agg #[.int .i64 1, .int .i64 2, .int .i64 0, .int .i64 5, .string (ba [97]), .float .f64 0]) rfl rfl ?r0 (by rfl) (by rfl) (by rfl) (by rfl) ?r1 ?r2 ?r3 ?r4 (by rfl) (by rfl) ?_
  case r0 => as_aux_lemma => kernel_rfl
  case r1 => go_simp
  case r2 =>
    simp only [Act.put, List.setIfInBounds_toArray, List.set_cons_zero, List.set_cons_succ]
    go_simp
  case r3 => go_simp
  case r4 =>
    simp only [Act.put, List.setIfInBounds_toArray, List.set_cons_zero, List.set_cons_succ]
    go_simp
  simp only [Act.put, List.setIfInBounds_toArray, List.set_cons_zero, List.set_cons_succ]
  clear x0 x1 x2 x3 x4 x5 z0 z1 z2 z3 z4 z5
  show wpAny _ .any _ _ 35 (lst 102 147573952589676412927) _ w14
  refine wpAny_pref (m' := 5070602400912917605986812821503) ([67, 68, 69] ++ ([70, 71, 72] ++ ([73, 74, 75] ++ ([76, 77, 78] ++ ([79, 80, 81] ++ ([82, 83, 84] ++ ([85, 86, 87] ++ ([88, 89, 90] ++ ([91, 92, 93] ++ ([94, 95, 96] ++ ([97, 98, 99] ++ ([100, 101])))))))))))) 35 0 (by rfl) ?hsC ?hcC ?hqC ?_
  case hsC => as_aux_lemma => kernel_rfl
  case hqC =>
    intro c a d v w' h
    cases d <;> exact h
  case hcC =>
    refine chunk_app (is := [67, 68, 69]) (m1 := 1180591620717411303423) (by as_aux_lemma => kernel_rfl) ?_
    refine chunk_app (is := [70, 71, 72]) (m1 := 9444732965739290427391) (by as_aux_lemma => kernel_rfl) ?_
    refine chunk_app (is := [73, 74, 75]) (m1 := 75557863725914323419135) (by as_aux_lemma => kernel_rfl) ?_
    refine chunk_app (is := [76, 77, 78]) (m1 := 604462909807314587353087) (by as_aux_lemma => kernel_rfl) ?_
    refine chunk_app (is := [79, 80, 81]) (m1 := 4835703278458516698824703) (by as_aux_lemma => kernel_rfl) ?_
    refine chunk_app (is := [82, 83, 84]) (m1 := 38685626227668133590597631) (by as_aux_lemma => kernel_rfl) ?_
    refine chunk_app (is := [85, 86, 87]) (m1 := 309485009821345068724781055) (by as_aux_lemma => kernel_rfl) ?_
    refine chunk_app (is := [88, 89, 90]) (m1 := 2475880078570760549798248447) (by as_aux_lemma => kernel_rfl) ?_
    refine chunk_app (is := [91, 92, 93]) (m1 := 19807040628566084398385987583) (by as_aux_lemma => kernel_rfl) ?_
    refine chunk_app (is := [94, 95, 96]) (m1 := 158456325028528675187087900671) (by as_aux_lemma => kernel_rfl) ?_
    refine chunk_app (is := [97, 98, 99]) (m1 := 1267650600228229401496703205375) (by as_aux_lemma => kernel_rfl) ?_
    as_aux_lemma => kernel_rfl
  simp only [ordL, List.cons_append, List.nil_append, List.getElem?_toArray, List.getElem?_cons_zero, List.getElem?_cons_succ]
  generalize hQ2 : Exit.then _ _ = Q2
  have HQ2 := Lib.hid hQ2
  clear hQ2
  go_wp2_with fail
  have hal := keep13 HS.out ((Below.refl _ _).alloc (Nat.le_refl _) (.cells (mvs [mk 2 9, mk 1 2]).toArray 30))
  refine (mmay_k (b := false) [mk 2 9, mk 1 2] f_may2 rfl (by decide) (mk_ok mk_t0).2 (at_lit _ 30 (mvs [mk 2 9, mk 1 2]))).mono ?_
  rintro e w15 ⟨rfl, hbn⟩
  have HS1 := Lib.hid (keep13 hal hbn)
  clear hbn hal HS
  obtain ⟨x0, x1, x2, x3, x4, x5⟩ := cells_at (k := 0) HS1.out.1 rfl
  rw [Nat.zero_add] at x0 x1 x2 x3 x4 x5
  go_wp2_with fail
  clear x0 x1 x2 x3 x4 x5
  refine (mone_t (c := 1) (r := 2) (b := true) (f_one (by decide) (by decide) (by decide) (by decide)) _).mono ?_
  rintro e w16 ⟨rfl, hbn⟩
  have HS2 := Lib.hid (keep13 HS1.out hbn)
  clear hbn HS1
  go_wp2_with fail
  refine (mone_z _).mono ?_
  rintro e w17 ⟨rfl, hbn⟩
  have HS3 := Lib.hid (keep13 HS2.out hbn)
  clear hbn HS2
  obtain ⟨x0, x1, x2, x3, x4, x5⟩ := cells_at (k := 0) HS3.out.1 rfl
  rw [Nat.zero_add] at x0 x1 x2 x3 x4 x5
  go_wp2_with fail
  clear x0 x1 x2 x3 x4 x5
  refine (mrow_t 1 2 _).mono ?_
  rintro e w18 ⟨rfl, hbn⟩
  have HS4 := Lib.hid (keep13 HS3.out hbn)
  clear hbn HS3
  go_wp2_with fail
  refine (mmsame_k (q := true) l0 l0 f_same1 rfl rfl (by decide) (by decide) (mk_ok mk_l0).1 (mk_ok mk_l0).1 (s13_l HS4.out) (s13_l HS4.out)).mono ?_
  rintro e w19 ⟨rfl, hbn⟩
  have HS5 := Lib.hid (keep13 HS4.out hbn)
  clear hbn HS4
  go_wp2_with fail
  refine (mmsame_k (q := false) l0 m0 f_same2 rfl rfl (by decide) (by decide) (mk_ok mk_l0).1 (mk_ok mk_m0).1 (s13_l HS5.out) (s13_m HS5.out)).mono ?_
  rintro e w20 ⟨rfl, hbn⟩
  have HS6 := Lib.hid (keep13 HS5.out hbn)
  clear hbn HS5
  go_wp2_with fail
  rw [← HQ2.out]
  clear HQ2
  refine ⟨?hend, ?_⟩
  case hend => as_aux_lemma => kernel_rfl
  go_wp2_with fail
  go_ret
  exact ⟨rfl, HS6.out.2.2⟩
end Go.Proofs.Ytihaiabkjmmmoaa
