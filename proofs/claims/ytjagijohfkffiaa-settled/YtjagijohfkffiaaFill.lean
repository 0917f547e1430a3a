/- The walk of fill. -/
import Derived.Test.YtjagijohfkffiaaSweep
import Derived.Deep.RegionWith
namespace Go.Proofs.Ytjagijohfkffiaa
open Go.RowKit
set_option linter.unusedVariables false

theorem flatP_set1 (ps : List (Nat × Nat)) (i : Nat) (hi : i < ps.length) (S : Nat) : (flatP ps).set (i * 2 + 1) (.int .i64 S) = flatP (ps.set i (letAt ps i, S)) := by
  have h := flatP_set ps i hi (letAt ps i) S
  rw [← h]
  have e := (flatP_get ps i hi).1
  obtain ⟨hlt, e2⟩ := List.getElem?_eq_some_iff.1 e
  rw [show (flatP ps).set (i * 2) (.int .i64 (letAt ps i)) = flatP ps from by rw [← e2]; exact List.set_getElem_self hlt]

theorem sweep_any (T back k : Nat) (n : Nd) (ps : List (Nat × Nat)) (w : World) (ht : Tb w T back ps) (hf : Fine ps) (hb : back < ps.length) (hlen : ps.length ≤ 80) (hk : k < 8) (hl : n.l < 8) (hr : n.r < 8) :
    Calls Try.prog 107 #[.pointer (some ⟨T, 0, none⟩), .agg #[.int .u8 n.op, .int .i64 n.l, .int .i64 n.r], .int .i64 k] w fun e w' => e = .returned (.tuple #[]) ∧ Tb w' T back (sweepL n k (heldAt ps back) ps).1 ∧ Below T w w' ∧ KpT w w' :=
  sweep_core _ T back k n ps w rfl ht hf hb hlen hk hl hr

/-- What holds at a place is written. -/
theorem tb_put1 {w : World} {T back i g cap n S : Nat} {ps : List (Nat × Nat)} (ht : Tb w T back ps) (hi : i < ps.length) (hn : ps.length = n) (hc : w.cell? ⟨T, 0, none⟩ = some (.slice (some ⟨g, 0, none⟩) n cap)) :
    Tb (w.setCell ⟨g, i * 2 + 1, none⟩ (.int .i64 S)) T back (ps.set i (letAt ps i, S)) ∧ KpT w (w.setCell ⟨g, i * 2 + 1, none⟩ (.int .i64 S)) ∧ Below (T + 1) w (w.setCell ⟨g, i * 2 + 1, none⟩ (.int .i64 S)) := by
  subst hn
  obtain ⟨g', cap', c, own, hTg, _, _⟩ := ht.row (by omega)
  rw [hc] at c
  cases c
  have o2 := (own.stored (i * 2 + 1) (.int .i64 S)).1
  rw [flatP_set1 ps i hi] at o2
  have ne : ∀ j k, (⟨g, j, none⟩ : Addr) ≠ ⟨T, k, none⟩ := fun j k e => by have := congrArg Addr.block e; simp at this; omega
  have hrow : ∃ c z, w.heap[g]? = some (.cells c 121 z) := by
    rcases own.2 with ⟨e, _⟩ | ⟨g', cap', cur, e, _, hh, _⟩
    · cases e
    · cases e; exact ⟨_, _, hh⟩
  refine ⟨⟨⟨some ⟨g, 0, none⟩, cap, ?_, ?_⟩, ?_, ?_⟩, ?_, ?_⟩
  · rw [World.cell?_setCell_other _ _ _ _ (ne _ _), List.length_set]; exact hc
  · rw [List.length_set]; exact o2
  · rw [World.cell?_setCell_other _ _ _ _ (ne _ _)]; exact ht.c1
  · rw [World.frozen?_setCell]; exact ht.f0
  · exact (KpT.refl w).set (Or.inr hrow) _ _
  · exact (Below.refl _ _).setCell (p := ⟨g, i * 2 + 1, none⟩) hTg _

theorem start_step (n : Nd) (k : Nat) (ps : List (Nat × Nat)) (j : Nat) (hj : j < ps.length) :
    ((startL n k ps).take j ++ ps.drop j).set j (letAt ps j, wth (heldAt ps j) k (lastsB n.op)) = (startL n k ps).take (j + 1) ++ ps.drop (j + 1) := by
  have h1 : letAt ps j = ps[j].1 := by simp [letAt, List.getD, List.getElem?_eq_getElem hj]
  have h2 : heldAt ps j = ps[j].2 := by simp [heldAt, List.getD, List.getElem?_eq_getElem hj]
  have hl := startL_len n k ps
  rw [h1, h2, List.drop_eq_getElem_cons hj, List.take_succ_eq_append_getElem (by omega), List.append_assoc, List.set_append_right _ _ (by simp; omega)]
  simp [startL, show min j ps.length = j by omega]
  rw [List.drop_eq_getElem_cons hj]
  rfl
theorem start_cur (n : Nd) (k : Nat) (ps : List (Nat × Nat)) (j : Nat) (hj : j < ps.length) : letAt ((startL n k ps).take j ++ ps.drop j) j = letAt ps j ∧ heldAt ((startL n k ps).take j ++ ps.drop j) j = heldAt ps j := by
  have hl := startL_len n k ps
  simp only [letAt, heldAt, List.getD]
  rw [List.getElem?_append_right (by simp; omega)]
  simp [show min j ps.length = j by omega, hl]
theorem start_curlen (n : Nd) (k : Nat) (ps : List (Nat × Nat)) (j : Nat) (hj : j ≤ ps.length) : ((startL n k ps).take j ++ ps.drop j).length = ps.length := by
  have hl := startL_len n k ps
  simp; omega

set_option maxHeartbeats 1600000 in
theorem fill_any (T back k : Nat) (n : Nd) (ps : List (Nat × Nat)) (w : World) (ht : Tb w T back ps) (hf : Fine ps) (hb : back < ps.length) (hlen : ps.length ≤ 80) (hk : k < 8) (hl : n.l < 8) (hr : n.r < 8) :
    Calls Try.prog 78 #[.pointer (some ⟨T, 0, none⟩), .agg #[.int .u8 n.op, .int .i64 n.l, .int .i64 n.r], .int .i64 k] w fun e w' => e = .returned (.tuple #[]) ∧ Tb w' T back (fillL n k back ps) ∧ Below T w w' ∧ KpT w w' := by
  have hT := ht.lt
  have LA := fun W => lasts_any n W
  unfold ndV at LA
  go_enter Try.func78, Try.ntmps78
  go_wp2_with fail
  refine (LA _).mono ?_
  rintro e w1 ⟨rfl, hb1⟩
  clear LA
  have hb0 : Below w.heap.size w w1 := ((Below.refl _ _).alloc (Nat.le_refl _) _).trans (hb1.mono (by simp))
  have hbox : w1.heap[w.heap.size]? = some (.cells #[.int .u8 n.op, .int .i64 n.l, .int .i64 n.r] 123) := by
    rw [hb1.block _ (by simp)]; exact heap_alloc_new _ _
  have ht1 := ht.below hb0
  have hk1 := KpT.of_below hb0
  obtain ⟨g, cap, c0, own, hTg, hg, hcap⟩ := ht1.row (by omega)
  have HT1 := hid ht1
  have HK1 := hid hk1
  have HB0 := hid hb0
  clear hb1 own ht1 hk1 hb0
  go_wp2_with fail
  clear c0
  go_loopw [15] (fun i wr => ∃ j : Nat, j ≤ ps.length ∧ i = .int .i64 j ∧ Tb wr T back ((startL n k ps).take j ++ ps.drop j) ∧ Below T w wr ∧ KpT w wr ∧ wr.heap[w.heap.size]? = some (.cells #[.int .u8 n.op, .int .i64 n.l, .int .i64 n.r] 123)) (fun i _ => ps.length - (intOf i).toNat)
  case atStart =>
    exact ⟨0, Nat.zero_le _, rfl, by simpa using HT1.out, HB0.out.mono (by omega), HK1.out, hbox⟩
  case round =>
    obtain ⟨j, hj, rfl, htr, hbr, hkr, hbx⟩ := hrel
    have hcl := start_curlen n k ps j hj
    by_cases hlt : j < ps.length
    · obtain ⟨g1, cap1, d0, own1, hTg1, hg1, hcap1⟩ := htr.row (by omega)
      have ha := start_cur n k ps j hlt
      have y := flatP_get _ j (show j < ((startL n k ps).take j ++ ps.drop j).length by omega)
      rw [ha.1, ha.2] at y
      have y2 := (own1.cellAt (j * 2 + 1) (by omega)).trans y.2
      have z2 := own1.frozenAt (j * 2 + 1)
      rw [hcl] at d0 hcap1
      have HA := hid (start_step n k ps j hlt)
      have HAL := hid ha.1
      have hS := (hf j).2
      have htr2 := hid htr
      have HCL := hid hcl
      have hTw := htr.lt
      clear ha y own1 htr hcl
      generalize heldAt ps j = S at *
      generalize lastsB n.op = v at *
      go_wp2_with fail
      go_region_with (go_at_call 106; refine (with_any S k v _ hS hk).mono ?_; rintro e w' ⟨rfl, rfl⟩)
      all_goals
        go_wp2_with fail
        go_roundw
        case rel =>
          obtain ⟨t1, t2, t3⟩ := tb_put1 (i := j) (S := wth S k v) htr2.out (by rw [HCL.out]; omega) HCL.out (cap := cap1) (g := g1) d0
          rw [HAL.out, HA.out] at t1
          refine ⟨j + 1, by omega, by go_num, t1.drewN _, ?_, hkr.trans t2, t2 _ _ _ _ hbx (by decide)⟩
          exact below_drewN (hbr.trans (t3.mono (Nat.le_succ _))) _
        case measure => simp [intOf]; omega
    · have hj2 : j = ps.length := by omega
      subst hj2
      have e1 : (startL n k ps).take ps.length ++ ps.drop ps.length = startL n k ps := by
        rw [List.drop_length, List.append_nil, List.take_of_length_le (by rw [startL_len]; exact Nat.le_refl _)]
      rw [e1] at htr
      obtain ⟨b0, b1, b2⟩ : wr.cell? ⟨w.heap.size, 0, none⟩ = some (.int .u8 n.op) ∧ wr.cell? ⟨w.heap.size, 1, none⟩ = some (.int .i64 n.l) ∧ wr.cell? ⟨w.heap.size, 2, none⟩ = some (.int .i64 n.r) := by
        refine ⟨?_, ?_, ?_⟩ <;> (rw [cell_of_row wr _ _ _ _ _ hbx]; rfl)
      have sl := startL_len n k ps
      have S1 := fun W h => sweep_any T back k n (startL n k ps) W h (start_fine hk hf) (by omega) (by omega) hk hl hr
      have sl2 := sweepL_len n k (heldAt (startL n k ps) back) (startL n k ps)
      have S2 := fun W h => sweep_any T back k n (sweepL n k (heldAt (startL n k ps) back) (startL n k ps)).1 W h (sweepL_fine hk (start_fine hk hf)) (by omega) (by omega) hk hl hr
      clear e1 sl sl2 hcl
      have HTR := hid htr
      clear htr
      go_wp2_with fail
      refine (S1 _ HTR.out).mono ?_
      rintro e w2 ⟨rfl, ht2, hb2, hk2⟩
      have hbx2 := hk2 _ _ _ _ hbx (by decide)
      have HT2 := hid ht2
      clear b0 b1 b2 ht2
      obtain ⟨b0, b1, b2⟩ : w2.cell? ⟨w.heap.size, 0, none⟩ = some (.int .u8 n.op) ∧ w2.cell? ⟨w.heap.size, 1, none⟩ = some (.int .i64 n.l) ∧ w2.cell? ⟨w.heap.size, 2, none⟩ = some (.int .i64 n.r) := by
        refine ⟨?_, ?_, ?_⟩ <;> (rw [cell_of_row w2 _ _ _ _ _ hbx2]; rfl)
      go_wp2_with fail
      refine (S2 _ HT2.out).mono ?_
      rintro e w4 ⟨rfl, ht4, hb4, hk4⟩
      clear b0 b1 b2
      go_wp2_with fail
      go_end0
      exact ⟨rfl, ht4, (hbr.trans hb2).trans hb4, (hkr.trans hk2).trans hk4⟩

end Go.Proofs.Ytjagijohfkffiaa
