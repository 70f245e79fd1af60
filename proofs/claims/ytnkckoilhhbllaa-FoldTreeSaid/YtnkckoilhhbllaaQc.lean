/-
  fold.Nodes.
-/
import Derived.Test.YtnkckoilhhbllaaQa
import Derived.Test.YtnkckoilhhbllaaPe
import Derived.Stop.RegionWithIn
namespace Go.Proofs.Ytnkckoilhhbllaa
open Go.RowKit Go.IntWalk Go.Maps
set_option maxRecDepth 100000
attribute [local go_sem] Oper.semAt_some

def namR (l : List Rw) : List Int := l.flatMap fun r => [ch r, pa r]
def namM (l : List Mv) : List Int := l.flatMap fun m => [ch (mw m), pa (mw m)]
def nodP (l : List Rw) (ms : List Mv) : List Int := putsI [0] (namR l ++ namM ms)
theorem namR_take {l : List Rw} {k : Nat} {r : Rw} (h : l[k]? = some r) : namR (l.take (k + 1)) = namR (l.take k) ++ [ch r] ++ [pa r] := by
  unfold namR
  rw [List.take_add_one, h]
  simp
theorem namM_take {l : List Mv} {k : Nat} {m : Mv} (h : l[k]? = some m) : namM (l.take (k + 1)) = namM (l.take k) ++ [ch (mw m)] ++ [pa (mw m)] := by
  unfold namM
  rw [List.take_add_one, h]
  simp

noncomputable abbrev RB : Value → Option (DataW Unit × List MemPlace) := plainElem Try.prog 4
theorem rb_true : RB (.bool true) = some (.lit (.bool true), []) := plainElem_bool Try.underlying4 true
/-- one more key -/
theorem put_key {w : World} {b n : Nat} {D : DataW Unit} {S : List Int} {x : Int} (hown : w.ownsMap Try.prog 3 RB b n D) (hS : Kok D S) (hn : n < 100000) (hx : In64 x) :
    ∃ w' D', (Instr.mapUpdate 41 (.map (some b)) (.int .i64 x) (.bool true)).run Try.prog w = .ok () w' ∧ w'.ownsMap Try.prog 3 RB b (n + 1) D' ∧ Kok D' (S ++ [x]) ∧ w.grownBy w' (some b) := by
  obtain ⟨w', hrun, hown', hg⟩ := hown.update keyed_int Try.underlying41 (by unfold maxLen; omega) (key_int hx) rb_true
  exact ⟨w', _, hrun, hown', kok_put hown.isMap hS, hg⟩

set_option maxHeartbeats 4000000 in
theorem nodes_in (A A2 : Option Addr) (cap cap2 : Nat) (l : List Rw) (ms : List Mv) (hl : l.length ≤ 1000) (hm : ms.length ≤ 1000) (hi : ∀ x ∈ namR l ++ namM ms, In64 x) (w : World) (hc : At w w.heap.size A (tvs l)) (hc2 : At w w.heap.size A2 (mvs ms)) :
    CallsIn Fence.wide 6 Try.prog 28 #[.slice A l.length cap, .slice A2 ms.length cap2] w fun e w' => ∃ v, e = .returned v ∧ w'.ownsRow w.heap.size 3 1 v (nodP l ms).length (ivs (nodP l ms)) ∧ Below w.heap.size w w' := by
  have HC := Lib.hid hc
  have HC2 := Lib.hid hc2
  have HI := Lib.hid hi
  clear hc hc2 hi
  have hmm := @run_makeMap Try.prog
  obtain ⟨w1, D1, hrun1, hown1, hk1, hg1⟩ := put_key (World.ownsMap_made w Try.prog 3 RB) kok_nil (by decide) (show In64 0 by unfold In64; omega)
  obtain ⟨b, hb⟩ : ∃ b, b = w.heap.size := ⟨_, rfl⟩
  have hb1 : Below w.heap.size w w1 := ((Below.refl _ w).alloc (Nat.le_refl _) _).grown hg1 (by simp) (fun k e => by cases e; exact Nat.le_refl _)
  refine callsIn_of_wp Try.func28 rfl trivial ?_ rfl
  simp only [Try.ntmps28, List.size_toArray, List.length_cons, List.length_nil, Nat.reduceAdd, Nat.reduceSub, Array.replicate_succ, Array.replicate_zero, List.push_toArray, List.append_toArray, List.nil_append, List.cons_append]
  have HH1 := Lib.hid (And.intro hown1 hk1)
  have HG1 := Lib.hid hg1
  gi_wp2
  clear hrun1 hown1 hk1 hg1 hmm
  rw [← hb]
  have HB := Lib.hid hb
  have hbs : w.heap.size ≤ b := by omega
  clear hb
  gi_loopw [14] (fun i wr => ∃ (k : Nat) (D : DataW Unit), i = .int .i64 (k : Int) ∧ k ≤ l.length ∧ wr.ownsMap Try.prog 3 RB b (1 + 2 * k) D ∧ Kok D ([0] ++ namR (l.take k)) ∧ Below w.heap.size w wr)
    (fun i _ => l.length - (intOf i).toNat)
  case atStart => exact ⟨0, D1, rfl, Nat.zero_le _, by rw [HB.out]; exact HH1.out.1, HH1.out.2, hb1⟩
  case round =>
    rename World => wr
    obtain ⟨k, D, rfl, hk, hmap, hD, hbw⟩ := hrel
    have HBW := Lib.hid hbw
    have HM := Lib.hid (And.intro hmap hD)
    clear hmap hD hbw
    by_cases hlt : k < l.length
    · obtain ⟨r, hr⟩ := some_at hlt
      obtain ⟨b0, o0, rfl, -, e0, e1, e2, e3⟩ := row_cells (HC.out.keep HBW.out) hr
      have hk0 : (0 : Int) ≤ (k : Int) := by omega
      have hkl : (k : Int) < (l.length : Int) := by omega
      have hch : In64 (ch r) := HI.out _ (List.mem_append_left _ (by unfold namR; exact List.mem_flatMap.2 ⟨r, mem_at hr, by simp⟩))
      have hpa : In64 (pa r) := HI.out _ (List.mem_append_left _ (by unfold namR; exact List.mem_flatMap.2 ⟨r, mem_at hr, by simp⟩))
      obtain ⟨W3, hW3⟩ : ∃ W3, W3 = wr.alloc (.cells #[.int .i64 (ch r), .int .i64 (pa r), .string (ba (nm r)), .float .f64 (rk r)] 43) := ⟨_, rfl⟩
      have hmap3 : W3.drew.ownsMap Try.prog 3 RB b (1 + 2 * k) D := by rw [hW3]; exact (HM.out.1.alloc _).drew
      obtain ⟨wa, Da, hra, hma, hka, hga⟩ := put_key hmap3 HM.out.2 (by omega) hch
      obtain ⟨wb, Db, hrb, hmb, hkb, hgb⟩ := put_key hma hka (by omega) hpa
      obtain ⟨g, hg⟩ : ∃ g, g = wr.heap.size := ⟨_, rfl⟩
      have hlt3 : g < W3.heap.size := by rw [hW3, hg]; simp
      have hIs : Is W3 g 43 [.int .i64 (ch r), .int .i64 (pa r), .string (ba (nm r)), .float .f64 (rk r)] := by rw [hW3, hg]; exact is_new wr 43 [.int .i64 (ch r), .int .i64 (pa r), .string (ba (nm r)), .float .f64 (rk r)]
      have hgb' : g ≠ b := by have := HM.out.1.lt; omega
      have c0 : W3.drew.cell? ⟨g, 0, none⟩ = some (.int .i64 (ch r)) := is_cell hIs 0
      have c1 : W3.drew.cell? ⟨g, 1, none⟩ = some (.int .i64 (pa r)) := is_cell hIs 1
      have d1 : wa.cell? ⟨g, 1, none⟩ = some (.int .i64 (pa r)) := (World.cell?_of_block (hga.block g hlt3 (fun e => hgb' (by injection e)))).trans c1
      have hbw3 : Below w.heap.size w W3 := by rw [hW3]; exact HBW.out.alloc HBW.out.size _
      have hbb : Below w.heap.size w wb := ((below_drewN hbw3 1).grown hga hbw3.size (fun k e => by cases e; exact hbs)).grown hgb (Nat.le_trans hbw3.size hga.size) (fun k e => by cases e; exact hbs)
      have hS : [0] ++ namR (l.take k) ++ [ch r] ++ [pa r] = [0] ++ namR (l.take (k + 1)) := by rw [namR_take hr]; simp
      rw [hS] at hkb
      have HE := Lib.hid (And.intro hmb (And.intro hkb hbb))
      have HW3 := Lib.hid hW3
      have HG := Lib.hid hg
      clear hmap3 hma hka hga hmb hkb hgb hW3 hIs hgb' hbw3 hbb hS hg hlt3 hch hpa hr
      gi_wp2_with fail
      rw [← HW3.out, ← HG.out]
      gi_region
      all_goals
        gi_wp2_with fail
        go_roundw
        case rel => exact ⟨k + 1, Db, by simp, by omega, by rw [show 1 + 2 * (k + 1) = 1 + 2 * k + 1 + 1 by omega]; exact HE.out.1, HE.out.2.1, HE.out.2.2⟩
        case measure => simp only [intOf]; omega
    · obtain rfl : k = l.length := by omega
      have hD := HM.out.2
      rw [List.take_length] at hD
      have HM0 := Lib.hid (And.intro HM.out.1 hD)
      clear HM hD
      gi_wp2_with fail
      gi_loopw [27] (fun i wr => ∃ (k : Nat) (D : DataW Unit), i = .int .i64 (k : Int) ∧ k ≤ ms.length ∧ wr.ownsMap Try.prog 3 RB b (1 + 2 * l.length + 2 * k) D ∧ Kok D ([0] ++ namR l ++ namM (ms.take k)) ∧ Below w.heap.size w wr)
        (fun i _ => ms.length - (intOf i).toNat)
      case atStart => exact ⟨0, D, rfl, Nat.zero_le _, HM0.out.1, by rw [show namM (ms.take 0) = [] from rfl, List.append_nil]; exact HM0.out.2, HBW.out⟩
      case round =>
        rename World => wr
        obtain ⟨k, D, rfl, hk, hmap, hD, hbw⟩ := hrel
        have HBW := Lib.hid hbw
        have HM := Lib.hid (And.intro hmap hD)
        clear hmap hD hbw
        by_cases hlt : k < ms.length
        · obtain ⟨m, hr⟩ := some_at hlt
          obtain ⟨b0, o0, rfl, -, e0, e1, e2, e3, e4, e5⟩ := move_cells (HC2.out.keep HBW.out) hr
          have hk0 : (0 : Int) ≤ (k : Int) := by omega
          have hkl : (k : Int) < (ms.length : Int) := by omega
          have hch : In64 (ch (mw m)) := HI.out _ (List.mem_append_right _ (by unfold namM; exact List.mem_flatMap.2 ⟨m, mem_at hr, by simp⟩))
          have hpa : In64 (pa (mw m)) := HI.out _ (List.mem_append_right _ (by unfold namM; exact List.mem_flatMap.2 ⟨m, mem_at hr, by simp⟩))
          obtain ⟨W3, hW3⟩ : ∃ W3, W3 = wr.alloc (.cells #[.int .i64 (mc m), .int .i64 (mr m), .int .i64 (pa (mw m)), .int .i64 (ch (mw m)), .string (ba (nm (mw m))), .float .f64 (rk (mw m))] 27) := ⟨_, rfl⟩
          have hmap3 : W3.drew.ownsMap Try.prog 3 RB b (1 + 2 * l.length + 2 * k) D := by rw [hW3]; exact (HM.out.1.alloc _).drew
          obtain ⟨wa, Da, hra, hma, hka, hga⟩ := put_key hmap3 HM.out.2 (by omega) hch
          obtain ⟨wb, Db, hrb, hmb, hkb, hgb⟩ := put_key hma hka (by omega) hpa
          obtain ⟨g, hg⟩ : ∃ g, g = wr.heap.size := ⟨_, rfl⟩
          have hlt3 : g < W3.heap.size := by rw [hW3, hg]; simp
          have hIs : Is W3 g 27 [.int .i64 (mc m), .int .i64 (mr m), .int .i64 (pa (mw m)), .int .i64 (ch (mw m)), .string (ba (nm (mw m))), .float .f64 (rk (mw m))] := by rw [hW3, hg]; exact is_new wr 27 [.int .i64 (mc m), .int .i64 (mr m), .int .i64 (pa (mw m)), .int .i64 (ch (mw m)), .string (ba (nm (mw m))), .float .f64 (rk (mw m))]
          have hgb' : g ≠ b := by have := HM.out.1.lt; omega
          have c0 : W3.drew.cell? ⟨g, 3, none⟩ = some (.int .i64 (ch (mw m))) := is_cell hIs 3
          have c1 : W3.drew.cell? ⟨g, 2, none⟩ = some (.int .i64 (pa (mw m))) := is_cell hIs 2
          have d1 : wa.cell? ⟨g, 2, none⟩ = some (.int .i64 (pa (mw m))) := (World.cell?_of_block (hga.block g hlt3 (fun e => hgb' (by injection e)))).trans c1
          have hbw3 : Below w.heap.size w W3 := by rw [hW3]; exact HBW.out.alloc HBW.out.size _
          have hbb : Below w.heap.size w wb := ((below_drewN hbw3 1).grown hga hbw3.size (fun k e => by cases e; exact hbs)).grown hgb (Nat.le_trans hbw3.size hga.size) (fun k e => by cases e; exact hbs)
          have hS : [0] ++ namR l ++ namM (ms.take k) ++ [ch (mw m)] ++ [pa (mw m)] = [0] ++ namR l ++ namM (ms.take (k + 1)) := by rw [namM_take hr]; simp
          rw [hS] at hkb
          have HE := Lib.hid (And.intro hmb (And.intro hkb hbb))
          have HW3 := Lib.hid hW3
          have HG := Lib.hid hg
          clear hmap3 hma hka hga hmb hkb hgb hW3 hIs hgb' hbw3 hbb hS hg hlt3 hch hpa hr
          gi_wp2_with fail
          rw [← HW3.out, ← HG.out]
          gi_region
          all_goals
            gi_wp2_with fail
            go_roundw
            case rel => exact ⟨k + 1, Db, by simp, by omega, by rw [show 1 + 2 * l.length + 2 * (k + 1) = 1 + 2 * l.length + 2 * k + 1 + 1 by omega]; exact HE.out.1, HE.out.2.1, HE.out.2.2⟩
            case measure => simp only [intOf]; omega
        · obtain rfl : k = ms.length := by omega
          have hD := HM.out.2
          rw [List.take_length] at hD
          have hmap := HM.out.1
          obtain ⟨hnd, hmem⟩ := ikeys hmap
          have hsz : Maps.size D ≤ 100000 := by
            obtain ⟨es, clock, _, _, hs, rfl⟩ := hmap
            show List.length _ ≤ _
            rw [length_sorted, List.length_map, Array.length_toList]
            omega
          have hb8 := (Below.refl wr.heap.size wr).alloc (Nat.le_refl _) (.cells #[.map (some b)] 41)
          have HQ := Lib.hid (sorted_k b (1 + 2 * l.length + 2 * ms.length) wr.heap.size D (wr.alloc (.cells #[.map (some b)] 41)) (by simp) (by simp) (hmap.alloc _) hsz)
          have HN := Lib.hid (And.intro hnd (And.intro hmem hD))
          have HB8 := Lib.hid hb8
          clear HM hD hmap hnd hmem hsz hb8
          gi_wp2_with fail
          refine ⟨trivial, (keys_k 5 (some b) _).mono ?_⟩
          rintro e w8 ⟨rfl, rfl⟩
          gi_wp2_with fail
          refine ⟨trivial, HQ.out.mono ?_⟩
          rintro e w9 ⟨v, ss, rfl, hp, hrow, -, hb9⟩
          have he : ss.mergeSort (fun x y => decide (x ≤ y)) = nodP l ms := sort_keys (S := [0] ++ namR l ++ namM ms) hp HN.out.1 (fun x => by rw [HN.out.2.1, HN.out.2.2]; simp) (by simp) (fun x => by simp)
          have hlen : ss.length = (nodP l ms).length := by rw [← he, List.length_mergeSort]
          rw [he, hlen] at hrow
          have hb10 := HBW.out.trans ((HB8.out.trans (hb9.mono HB8.out.size)).mono HBW.out.size)
          have hbs2 := HBW.out.size
          clear HQ HN HB8 he hlen hp hb9
          gi_wp2_with fail
          go_ret
          exact ⟨v, rfl, ownsRow_base_a hrow (by simp only [World.size_alloc]; omega), hb10⟩

theorem nodes_c (A A2 : Option Addr) (cap cap2 : Nat) (l : List Rw) (ms : List Mv) (hl : l.length ≤ 1000) (hm : ms.length ≤ 1000) (hi : ∀ x ∈ namR l ++ namM ms, In64 x) (w : World) (hc : At w w.heap.size A (tvs l)) (hc2 : At w w.heap.size A2 (mvs ms)) :
    Calls Try.prog 28 #[.slice A l.length cap, .slice A2 ms.length cap2] w fun e w' => ∃ A' cap', e = .returned (.slice A' (nodP l ms).length cap') ∧ At w' w'.heap.size A' (ivs (nodP l ms)) ∧ Below w.heap.size w w' := by
  refine ((callsIn_wide (n := 6)).1 (nodes_in A A2 cap cap2 l ms hl hm hi w hc hc2)).mono ?_
  rintro e w' ⟨v, rfl, hown, hb⟩
  obtain ⟨A', cap', rfl, ha, hfr, hcp⟩ := own_at hown
  exact ⟨A', cap', rfl, ha, hb⟩
end Go.Proofs.Ytnkckoilhhbllaa
