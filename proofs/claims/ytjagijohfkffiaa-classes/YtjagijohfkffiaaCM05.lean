import Derived.Test.YtjagijohfkffiaaCM02
import Derived.Test.YtjagijohfkffiaaCM04
import Derived.Deep.RegionWith
import Derived.Outline

/- The walk of fill. -/
namespace Go.Proofs.Ytjagijohfkffiaa
open Go.RowKit
set_option linter.unusedVariables false

theorem flatP_set1 (ps : List (Nat × Nat)) (i : Nat) (hi : i < ps.length) (S : Nat) : (flatP ps).set (i * 2 + 1) (.int .i64 S) = flatP (ps.set i (letAt ps i, S)) := by
  have h := flatP_set ps i hi (letAt ps i) S
  rw [← h]
  have e := (flatP_get ps i hi).1
  obtain ⟨hlt, e2⟩ := List.getElem?_eq_some_iff.1 e
  rw [show (flatP ps).set (i * 2) (.int .i64 (letAt ps i)) = flatP ps from by rw [← e2]; exact List.set_getElem_self hlt]

theorem sweep_any (T back k : Nat) (n : Nd) (ps : List (Nat × Nat)) (w : World) (ht : Tb w T back ps) (hf : Fine ps) (hb : back < ps.length) (hlen : ps.length ≤ 80) (hk : k < 8) (hl : n.l < 8) (hr : n.r < 8) :
    Calls Try.prog 107 #[.pointer (some ⟨T, 0, none⟩), .agg #[.int .u8 n.op, .int .i64 n.l, .int .i64 n.r], .int .i64 k] w fun e w' => e = .returned (.tuple #[]) ∧ Tb w' T back (sweepL n k (heldAt ps back) ps).1 ∧ Below T w w' ∧ KpT w w' :=
  sweep_core _ T back k n ps w rfl ht hf hb hlen hk hl hr

/-- What holds at a place is written. -/
theorem tb_put1 {w : World} {T back i g cap n S : Nat} {ps : List (Nat × Nat)} (ht : Tb w T back ps) (hi : i < ps.length) (hn : ps.length = n) (hc : w.cell? ⟨T, 0, none⟩ = some (.slice (some ⟨g, 0, none⟩) n cap)) :
    Tb (w.setCell ⟨g, i * 2 + 1, none⟩ (.int .i64 S)) T back (ps.set i (letAt ps i, S)) ∧ KpT w (w.setCell ⟨g, i * 2 + 1, none⟩ (.int .i64 S)) ∧ Below (T + 1) w (w.setCell ⟨g, i * 2 + 1, none⟩ (.int .i64 S)) := by
  subst hn
  obtain ⟨g', cap', c, own, hTg, _, _⟩ := ht.row (by omega)
  rw [hc] at c
  cases c
  have o2 := (own.stored (i * 2 + 1) (.int .i64 S)).1
  rw [flatP_set1 ps i hi] at o2
  have ne : ∀ j k, (⟨g, j, none⟩ : Addr) ≠ ⟨T, k, none⟩ := fun j k e => by have := congrArg Addr.block e; simp at this; omega
  have hrow : ∃ c z, w.heap[g]? = some (.cells c 121 z) := by
    rcases own.2 with ⟨e, _⟩ | ⟨g', cap', cur, e, _, hh, _⟩
    · cases e
    · cases e; exact ⟨_, _, hh⟩
  refine ⟨⟨⟨some ⟨g, 0, none⟩, cap, ?_, ?_⟩, ?_, ?_⟩, ?_, ?_⟩
  · rw [World.cell?_setCell_other _ _ _ _ (ne _ _), List.length_set]; exact hc
  · rw [List.length_set]; exact o2
  · rw [World.cell?_setCell_other _ _ _ _ (ne _ _)]; exact ht.c1
  · rw [World.frozen?_setCell]; exact ht.f0
  · exact (KpT.refl w).set (Or.inr hrow) _ _
  · exact (Below.refl _ _).setCell (p := ⟨g, i * 2 + 1, none⟩) hTg _

theorem start_step (n : Nd) (k : Nat) (ps : List (Nat × Nat)) (j : Nat) (hj : j < ps.length) :
    ((startL n k ps).take j ++ ps.drop j).set j (letAt ps j, wth (heldAt ps j) k (lastsB n.op)) = (startL n k ps).take (j + 1) ++ ps.drop (j + 1) := by
  have h1 : letAt ps j = ps[j].1 := by simp [letAt, List.getD, List.getElem?_eq_getElem hj]
  have h2 : heldAt ps j = ps[j].2 := by simp [heldAt, List.getD, List.getElem?_eq_getElem hj]
  have hl := startL_len n k ps
  rw [h1, h2, List.drop_eq_getElem_cons hj, List.take_succ_eq_append_getElem (by omega), List.append_assoc, List.set_append_right _ _ (by simp; omega)]
  simp [startL, show min j ps.length = j by omega]
  rw [List.drop_eq_getElem_cons hj]
  rfl
theorem start_cur (n : Nd) (k : Nat) (ps : List (Nat × Nat)) (j : Nat) (hj : j < ps.length) : letAt ((startL n k ps).take j ++ ps.drop j) j = letAt ps j ∧ heldAt ((startL n k ps).take j ++ ps.drop j) j = heldAt ps j := by
  have hl := startL_len n k ps
  simp only [letAt, heldAt, List.getD]
  rw [List.getElem?_append_right (by simp; omega)]
  simp [show min j ps.length = j by omega, hl]
theorem start_curlen (n : Nd) (k : Nat) (ps : List (Nat × Nat)) (j : Nat) (hj : j ≤ ps.length) : ((startL n k ps).take j ++ ps.drop j).length = ps.length := by
  have hl := startL_len n k ps
  simp; omega

set_option maxHeartbeats 1600000 in
theorem fill_any (T back k : Nat) (n : Nd) (ps : List (Nat × Nat)) (w : World) (ht : Tb w T back ps) (hf : Fine ps) (hb : back < ps.length) (hlen : ps.length ≤ 80) (hk : k < 8) (hl : n.l < 8) (hr : n.r < 8) :
    Calls Try.prog 78 #[.pointer (some ⟨T, 0, none⟩), .agg #[.int .u8 n.op, .int .i64 n.l, .int .i64 n.r], .int .i64 k] w fun e w' => e = .returned (.tuple #[]) ∧ Tb w' T back (fillL n k back ps) ∧ Below T w w' ∧ KpT w w' := by
  have hT := ht.lt
  have LA := fun W => lasts_any n W
  unfold ndV at LA
  go_enter Try.func78, Try.ntmps78
  go_wp2_with fail
  refine (LA _).mono ?_
  rintro e w1 ⟨rfl, hb1⟩
  clear LA
  have hb0 : Below w.heap.size w w1 := ((Below.refl _ _).alloc (Nat.le_refl _) _).trans (hb1.mono (by simp))
  have hbox : w1.heap[w.heap.size]? = some (.cells #[.int .u8 n.op, .int .i64 n.l, .int .i64 n.r] 123) := by
    rw [hb1.block _ (by simp)]; exact heap_alloc_new _ _
  have ht1 := ht.below hb0
  have hk1 := KpT.of_below hb0
  obtain ⟨g, cap, c0, own, hTg, hg, hcap⟩ := ht1.row (by omega)
  have HT1 := hid ht1
  have HK1 := hid hk1
  have HB0 := hid hb0
  clear hb1 own ht1 hk1 hb0
  go_wp2_with fail
  clear c0
  go_loopw [15] (fun i wr => ∃ j : Nat, j ≤ ps.length ∧ i = .int .i64 j ∧ Tb wr T back ((startL n k ps).take j ++ ps.drop j) ∧ Below T w wr ∧ KpT w wr ∧ wr.heap[w.heap.size]? = some (.cells #[.int .u8 n.op, .int .i64 n.l, .int .i64 n.r] 123)) (fun i _ => ps.length - (intOf i).toNat)
  case atStart =>
    exact ⟨0, Nat.zero_le _, rfl, by simpa using HT1.out, HB0.out.mono (by omega), HK1.out, hbox⟩
  case round =>
    obtain ⟨j, hj, rfl, htr, hbr, hkr, hbx⟩ := hrel
    have hcl := start_curlen n k ps j hj
    by_cases hlt : j < ps.length
    · obtain ⟨g1, cap1, d0, own1, hTg1, hg1, hcap1⟩ := htr.row (by omega)
      have ha := start_cur n k ps j hlt
      have y := flatP_get _ j (show j < ((startL n k ps).take j ++ ps.drop j).length by omega)
      rw [ha.1, ha.2] at y
      have y2 := (own1.cellAt (j * 2 + 1) (by omega)).trans y.2
      have z2 := own1.frozenAt (j * 2 + 1)
      rw [hcl] at d0 hcap1
      have HA := hid (start_step n k ps j hlt)
      have HAL := hid ha.1
      have hS := (hf j).2
      have htr2 := hid htr
      have HCL := hid hcl
      have hTw := htr.lt
      clear ha y own1 htr hcl
      generalize heldAt ps j = S at *
      generalize lastsB n.op = v at *
      go_wp2_with fail
      go_region_with (go_at_call 106; refine (with_any S k v _ hS hk).mono ?_; rintro e w' ⟨rfl, rfl⟩)
      all_goals
        go_wp2_with fail
        go_roundw
        case rel =>
          obtain ⟨t1, t2, t3⟩ := tb_put1 (i := j) (S := wth S k v) htr2.out (by rw [HCL.out]; omega) HCL.out (cap := cap1) (g := g1) d0
          rw [HAL.out, HA.out] at t1
          refine ⟨j + 1, by omega, by go_num, t1.drewN _, ?_, hkr.trans t2, t2 _ _ _ _ hbx (by decide)⟩
          exact below_drewN (hbr.trans (t3.mono (Nat.le_succ _))) _
        case measure => simp [intOf]; omega
    · have hj2 : j = ps.length := by omega
      subst hj2
      have e1 : (startL n k ps).take ps.length ++ ps.drop ps.length = startL n k ps := by
        rw [List.drop_length, List.append_nil, List.take_of_length_le (by rw [startL_len]; exact Nat.le_refl _)]
      rw [e1] at htr
      obtain ⟨b0, b1, b2⟩ : wr.cell? ⟨w.heap.size, 0, none⟩ = some (.int .u8 n.op) ∧ wr.cell? ⟨w.heap.size, 1, none⟩ = some (.int .i64 n.l) ∧ wr.cell? ⟨w.heap.size, 2, none⟩ = some (.int .i64 n.r) := by
        refine ⟨?_, ?_, ?_⟩ <;> (rw [cell_of_row wr _ _ _ _ _ hbx]; rfl)
      have sl := startL_len n k ps
      have S1 := fun W h => sweep_any T back k n (startL n k ps) W h (start_fine hk hf) (by omega) (by omega) hk hl hr
      have sl2 := sweepL_len n k (heldAt (startL n k ps) back) (startL n k ps)
      have S2 := fun W h => sweep_any T back k n (sweepL n k (heldAt (startL n k ps) back) (startL n k ps)).1 W h (sweepL_fine hk (start_fine hk hf)) (by omega) (by omega) hk hl hr
      clear e1 sl sl2 hcl
      have HTR := hid htr
      clear htr
      go_wp2_with fail
      refine (S1 _ HTR.out).mono ?_
      rintro e w2 ⟨rfl, ht2, hb2, hk2⟩
      have hbx2 := hk2 _ _ _ _ hbx (by decide)
      have HT2 := hid ht2
      clear b0 b1 b2 ht2
      obtain ⟨b0, b1, b2⟩ : w2.cell? ⟨w.heap.size, 0, none⟩ = some (.int .u8 n.op) ∧ w2.cell? ⟨w.heap.size, 1, none⟩ = some (.int .i64 n.l) ∧ w2.cell? ⟨w.heap.size, 2, none⟩ = some (.int .i64 n.r) := by
        refine ⟨?_, ?_, ?_⟩ <;> (rw [cell_of_row w2 _ _ _ _ _ hbx2]; rfl)
      go_wp2_with fail
      refine (S2 _ HT2.out).mono ?_
      rintro e w4 ⟨rfl, ht4, hb4, hk4⟩
      clear b0 b1 b2
      go_wp2_with fail
      go_end0
      exact ⟨rfl, ht4, (hbr.trans hb2).trans hb4, (hkr.trans hk2).trans hk4⟩

end Go.Proofs.Ytjagijohfkffiaa

/- The walks of AllLetters, IsLetter and the reference's word; slices of ints that are read. -/
namespace Go.Proofs.Ytjagijohfkffiaa
open Go.RowKit
set_option linter.unusedVariables false

/-- The slice value has the numbers zs. -/
structure Ints (w : World) (ao : Option Addr) (len cap : Nat) (zs : List Int) : Prop where
  hlen : zs.length = len
  hcap : len ≤ cap
  hmax : cap ≤ 9223372036854775807
  hnil : ao = none → len = 0 ∧ cap = 0
  hcell : 0 < len → ∃ b off, ao = some ⟨b, off, none⟩ ∧ b < w.heap.size ∧ ∀ i, i < len → w.cell? ⟨b, off + i, none⟩ = some (.int .i64 (zs.getD i 0))

theorem Ints.below {w w' : World} {ao : Option Addr} {len cap : Nat} {zs : List Int} (h : Ints w ao len cap zs) (hb : Below w.heap.size w w') : Ints w' ao len cap zs := by
  refine ⟨h.hlen, h.hcap, h.hmax, h.hnil, fun h0 => ?_⟩
  obtain ⟨b, off, e, hlt, hc⟩ := h.hcell h0
  exact ⟨b, off, e, Nat.lt_of_lt_of_le hlt hb.size, fun i hi => by rw [hb.cell (p := ⟨b, off + i, none⟩) hlt]; exact hc i hi⟩

def isL (z : Int) : Bool := decide (0 ≤ z) && decide (z < 8)
def allL (zs : List Int) : Bool := zs.all isL

theorem isL_iff {z : Int} : isL z = true ↔ 0 ≤ z ∧ z < 8 := by simp [isL]
theorem isL_no {z : Int} (h : z < 0 ∨ 7 < z) : isL z = false := by
  cases e : isL z with
  | false => rfl
  | true => rw [isL_iff] at e; omega

set_option maxHeartbeats 400000 in
theorem isLetter_any (z : Int) (w : World) : Calls Try.prog 81 #[.int .i64 z] w fun e w' => e = .returned (.bool (isL z)) ∧ w' = w := by
  by_cases h1 : 0 ≤ z
  · by_cases h2 : z < 8
    · have H : Hid (isL z = true) := hid (by simp [isL, h1, h2])
      go_enter Try.func81, Try.ntmps81
      go_wp2
      go_ret
      exact ⟨by rw [H.out]; rfl, rfl⟩
    · have H : Hid (isL z = false) := hid (by simp [isL]; omega)
      go_enter Try.func81, Try.ntmps81
      go_wp2
      go_ret
      exact ⟨by rw [H.out]; rfl, rfl⟩
  · have H : Hid (isL z = false) := hid (by simp [isL]; omega)
    go_enter Try.func81, Try.ntmps81
    go_wp2
    go_ret
    exact ⟨by rw [H.out]; rfl, rfl⟩

theorem all_take {zs : List Int} (h : ∀ m, m < zs.length → isL (zs.getD m 0) = true) : allL zs = true := by
  unfold allL
  rw [List.all_eq_true]
  intro x hx
  obtain ⟨i, hi, rfl⟩ := List.getElem_of_mem hx
  have := h i hi
  simpa [List.getD, List.getElem?_eq_getElem hi] using this
theorem all_not {zs : List Int} {m : Nat} (hm : m < zs.length) (h : isL (zs.getD m 0) = false) : allL zs = false := by
  unfold allL
  rw [List.all_eq_false]
  refine ⟨zs[m], List.getElem_mem hm, ?_⟩
  simpa [List.getD, List.getElem?_eq_getElem hm] using h

set_option maxHeartbeats 400000 in
theorem allLetters_any (ao : Option Addr) (len cap : Nat) (zs : List Int) (w : World) (h : Ints w ao len cap zs) : Calls Try.prog 54 #[.slice ao len cap] w fun e w' => e = .returned (.bool (allL zs)) ∧ w' = w := by
  have hl := h.hlen
  have hc := h.hcap
  have hm := h.hmax
  go_enter Try.func54, Try.ntmps54
  go_wp2_with fail
  go_loop [7] (fun i => ∃ j : Nat, j ≤ len ∧ i = .int .i64 j ∧ Hid (∀ m, m < j → isL (zs.getD m 0) = true)) (fun i => len - (intOf i).toNat)
  case atStart => exact ⟨0, Nat.zero_le _, rfl, hid (fun m hm => by omega)⟩
  case round =>
    obtain ⟨j, hj, rfl, HI⟩ := hrel
    by_cases hlt : j < len
    · obtain ⟨b, off, rfl, hb, hcell⟩ := h.hcell (by omega)
      have c := hcell j hlt
      clear hcell
      cases hz : isL (zs.getD j 0) with
      | true =>
        have HZ := hid hz
        clear hz
        generalize hx : zs.getD j 0 = x at *
        have HX := hid hx
        clear hx
        go_wp2_with fail
        refine (isLetter_any x w).mono ?_
        rintro e w' ⟨rfl, rfl⟩
        rw [HZ.out]
        go_wp2_with fail
        go_round
        case rel =>
          refine ⟨j + 1, by omega, by go_num, hid (fun m hm => ?_)⟩
          by_cases e : m < j
          · exact HI.out m e
          · rw [show m = j by omega, HX.out]; exact HZ.out
        case measure => simp [intOf]; omega
      | false =>
        have HN := hid (all_not (zs := zs) (m := j) (by omega) hz)
        have HZ := hid hz
        clear hz
        generalize zs.getD j 0 = x at *
        go_wp2_with fail
        refine (isLetter_any x w).mono ?_
        rintro e w' ⟨rfl, rfl⟩
        rw [HZ.out]
        go_wp2_with fail
        go_ret
        exact ⟨by rw [HN.out]; rfl, rfl⟩
    · have HA := hid (all_take (zs := zs) (fun m hm => HI.out m (by omega)))
      go_wp2_with fail
      go_ret
      exact ⟨by rw [HA.out]; rfl, rfl⟩

set_option maxHeartbeats 400000 in
theorem rword_any (ao : Option Addr) (len cap : Nat) (zs : List Int) (w : World) (h : Ints w ao len cap zs) : Calls Try.prog 51 #[.slice ao len cap] w fun e w' => e = .returned (.bool (allL zs)) ∧ w' = w := by
  have hl := h.hlen
  have hc := h.hcap
  have hm := h.hmax
  go_enter Try.func51, Try.ntmps51
  go_wp2_with fail
  go_loop [3] (fun i => ∃ j : Nat, j ≤ len ∧ i = .int .i64 j ∧ Hid (∀ m, m < j → isL (zs.getD m 0) = true)) (fun i => len - (intOf i).toNat)
  case atStart => exact ⟨0, Nat.zero_le _, rfl, hid (fun m hm => by omega)⟩
  case round =>
    obtain ⟨j, hj, rfl, HI⟩ := hrel
    by_cases hlt : j < len
    · obtain ⟨b, off, rfl, hb, hcell⟩ := h.hcell (by omega)
      have c := hcell j hlt
      clear hcell
      by_cases h1 : zs.getD j 0 < 0
      · have HN := hid (all_not (zs := zs) (m := j) (by omega) (isL_no (by omega)))
        generalize zs.getD j 0 = x at *
        go_wp2_with fail
        go_ret
        exact ⟨by rw [HN.out]; rfl, rfl⟩
      by_cases h2 : 7 < zs.getD j 0
      · have HN := hid (all_not (zs := zs) (m := j) (by omega) (isL_no (by omega)))
        generalize zs.getD j 0 = x at *
        go_wp2_with fail
        go_ret
        exact ⟨by rw [HN.out]; rfl, rfl⟩
      have HZ : Hid (isL (zs.getD j 0) = true) := hid (by rw [isL_iff]; omega)
      generalize hx : zs.getD j 0 = x at *
      have HX := hid hx
      clear hx
      go_wp2_with fail
      go_round
      case rel =>
        refine ⟨j + 1, by omega, by go_num, hid (fun m hm => ?_)⟩
        by_cases e : m < j
        · exact HI.out m e
        · rw [show m = j by omega, HX.out]; exact HZ.out
      case measure => simp [intOf]; omega
    · have HA := hid (all_take (zs := zs) (fun m hm => HI.out m (by omega)))
      go_wp2_with fail
      go_ret
      exact ⟨by rw [HA.out]; rfl, rfl⟩

end Go.Proofs.Ytjagijohfkffiaa

/- The walk of Join. -/
namespace Go.Proofs.Ytjagijohfkffiaa
open Go.RowKit
set_option linter.unusedVariables false

theorem Try.infoInt : (Try.prog.info? 3).map (fun i => (i.zero, i.size, i.bytes)) = some (some (.int .i64 0), 1, 8) := by kernel_rfl

theorem add_off (b off j : Nat) : (⟨b, off, none⟩ : Addr).add j = ⟨b, off + j, none⟩ := by simp [Addr.add]

theorem Ints.src {w : World} {ao : Option Addr} {len cap : Nat} {zs : List Int} (h : Ints w ao len cap zs) : ∀ ad, ao = some ad → ∀ j u, (zs.map (Value.int .i64))[j]? = some u → w.cell? (ad.add j) = some u := by
  intro ad e j u hj
  have hj2 := (List.getElem?_eq_some_iff.1 hj).1
  simp at hj2
  have hl := h.hlen
  obtain ⟨b, off, e2, _, hc⟩ := h.hcell (by omega)
  rw [e] at e2
  cases e2
  rw [add_off, hc j (by omega)]
  simp [List.getElem?_eq_getElem hj2] at hj
  simp [List.getD, List.getElem?_eq_getElem hj2, hj]

theorem int_one (zs : List Int) : ∀ u ∈ zs.map (Value.int .i64), u.oneCell' = true := by
  intro u hu
  obtain ⟨x, _, rfl⟩ := List.mem_map.1 hu
  rfl

/-- The error of a stem and a loop. -/
def joinErr (z1 z2 : List Int) : Nat := if z2.length = 0 then 4 else if 40 < z1.length ∨ 40 < z2.length then 5 else if allL z1 = true ∧ allL z2 = true then 0 else 6

def Joined (z1 z2 : List Int) (w : World) (e : Ending) (w' : World) : Prop :=
  Below w.heap.size w w' ∧
  ((joinErr z1 z2 ≠ 0 ∧ e = .returned (.tuple #[.agg #[.slice none 0 0, .int .i64 0], .int .i64 (joinErr z1 z2)])) ∨
   (joinErr z1 z2 = 0 ∧ ∃ g cap, e = .returned (.tuple #[.agg #[.slice (some ⟨g, 0, none⟩) (z1.length + z2.length) cap, .int .i64 z1.length], .int .i64 0]) ∧
     w'.ownsRow w.heap.size 3 1 (.slice (some ⟨g, 0, none⟩) (z1.length + z2.length) cap) (z1.length + z2.length) ((z1 ++ z2).map (Value.int .i64))))

section
variable (a1 a2 : Option Addr) (l1 c1 l2 c2 : Nat) (z1 z2 : List Int) (w : World)

set_option maxHeartbeats 400000 in
theorem join_loop (h1 : Ints w a1 l1 c1 z1) (h2 : Ints w a2 l2 c2 z2) (h : l2 = 0) : Calls Try.prog 49 #[.slice a1 l1 c1, .slice a2 l2 c2] w (Joined z1 z2 w) := by
  have E : Hid (joinErr z1 z2 = 4) := hid (by simp [joinErr, h2.hlen, h])
  subst h
  go_enter Try.func49, Try.ntmps49
  go_wp2_with fail
  refine bodyPost_ret (v := .tuple #[.agg #[.slice none 0 0, .int .i64 0], .int .i64 4]) (by simp [results, Try.results49, go_sem]) rfl ?_
  unfold Joined
  rw [E.out]
  exact ⟨(Below.refl _ _).alloc (Nat.le_refl _) _, Or.inl ⟨by decide, rfl⟩⟩

set_option maxHeartbeats 400000 in
theorem join_word (h1 : Ints w a1 l1 c1 z1) (h2 : Ints w a2 l2 c2 z2) (h : ¬ l2 = 0) (hw : 40 < l1 ∨ 40 < l2) : Calls Try.prog 49 #[.slice a1 l1 c1, .slice a2 l2 c2] w (Joined z1 z2 w) := by
  have E : Hid (joinErr z1 z2 = 5) := hid (by unfold joinErr; rw [h1.hlen, h2.hlen, if_neg h, if_pos hw])
  have k : ((l2 : Int) == 0) = false := beq_eq_false_iff_ne.2 (by omega)
  have m1 := h1.hmax
  have m2 := h2.hmax
  have m3 := h1.hcap
  have m4 := h2.hcap
  by_cases hc : 40 < l1
  · go_enter Try.func49, Try.ntmps49
    go_wp2_with fail
    refine bodyPost_ret (v := .tuple #[.agg #[.slice none 0 0, .int .i64 0], .int .i64 5]) (by simp [results, Try.results49, go_sem]) rfl ?_
    unfold Joined
    rw [E.out]
    exact ⟨(Below.refl _ _).alloc (Nat.le_refl _) _, Or.inl ⟨by decide, rfl⟩⟩
  · have hd : 40 < l2 := by omega
    go_enter Try.func49, Try.ntmps49
    go_wp2_with fail
    refine bodyPost_ret (v := .tuple #[.agg #[.slice none 0 0, .int .i64 0], .int .i64 5]) (by simp [results, Try.results49, go_sem]) rfl ?_
    unfold Joined
    rw [E.out]
    exact ⟨(Below.refl _ _).alloc (Nat.le_refl _) _, Or.inl ⟨by decide, rfl⟩⟩

set_option maxHeartbeats 400000 in
theorem join_letter (h1 : Ints w a1 l1 c1 z1) (h2 : Ints w a2 l2 c2 z2) (h : ¬ l2 = 0) (hw : ¬ (40 < l1 ∨ 40 < l2)) (hl : ¬ (allL z1 = true ∧ allL z2 = true)) : Calls Try.prog 49 #[.slice a1 l1 c1, .slice a2 l2 c2] w (Joined z1 z2 w) := by
  have E : Hid (joinErr z1 z2 = 6) := hid (by unfold joinErr; rw [h1.hlen, h2.hlen, if_neg h, if_neg hw, if_neg hl])
  have k : ((l2 : Int) == 0) = false := beq_eq_false_iff_ne.2 (by omega)
  have k1 : ¬ 40 < l1 := by omega
  have k2 : ¬ 40 < l2 := by omega
  have C1 := allLetters_any a1 l1 c1 z1 _ (h1.below ((Below.refl _ _).alloc (Nat.le_refl _) (.cells #[.slice none 0 0, .int .i64 0] 69)))
  have C2 := allLetters_any a2 l2 c2 z2 _ (h2.below ((Below.refl _ _).alloc (Nat.le_refl _) (.cells #[.slice none 0 0, .int .i64 0] 69)))
  cases e1 : allL z1 with
  | false =>
    have E1 := hid e1
    clear e1 hl hw
    go_enter Try.func49, Try.ntmps49
    go_wp2_with fail
    refine C1.mono ?_
    rintro e w' ⟨rfl, rfl⟩
    rw [E1.out]
    go_wp2_with fail
    refine C2.mono ?_
    rintro e w' ⟨rfl, rfl⟩
    go_wp2_with fail
    refine bodyPost_ret (v := .tuple #[.agg #[.slice none 0 0, .int .i64 0], .int .i64 6]) (by simp [results, Try.results49, go_sem]) rfl ?_
    unfold Joined
    rw [E.out]
    exact ⟨(Below.refl _ _).alloc (Nat.le_refl _) _, Or.inl ⟨by decide, rfl⟩⟩
  | true =>
    have e2 : allL z2 = false := by
      cases e2 : allL z2 with
      | false => rfl
      | true => exact absurd ⟨e1, e2⟩ hl
    have E1 := hid e1
    have E2 := hid e2
    clear e1 e2 hl hw
    go_enter Try.func49, Try.ntmps49
    go_wp2_with fail
    refine C1.mono ?_
    rintro e w' ⟨rfl, rfl⟩
    rw [E1.out]
    go_wp2_with fail
    refine C2.mono ?_
    rintro e w' ⟨rfl, rfl⟩
    rw [E2.out]
    go_wp2_with fail
    refine bodyPost_ret (v := .tuple #[.agg #[.slice none 0 0, .int .i64 0], .int .i64 6]) (by simp [results, Try.results49, go_sem]) rfl ?_
    unfold Joined
    rw [E.out]
    exact ⟨(Below.refl _ _).alloc (Nat.le_refl _) _, Or.inl ⟨by decide, rfl⟩⟩

set_option maxHeartbeats 800000 in
set_option maxRecDepth 100000 in
theorem join_ok (h1 : Ints w a1 l1 c1 z1) (h2 : Ints w a2 l2 c2 z2) (h : ¬ l2 = 0) (hw : ¬ (40 < l1 ∨ 40 < l2)) (hl : allL z1 = true ∧ allL z2 = true) : Calls Try.prog 49 #[.slice a1 l1 c1, .slice a2 l2 c2] w (Joined z1 z2 w) := by
  have E : Hid (joinErr z1 z2 = 0) := hid (by unfold joinErr; rw [h1.hlen, h2.hlen, if_neg h, if_neg hw, if_pos hl])
  have k : ((l2 : Int) == 0) = false := beq_eq_false_iff_ne.2 (by omega)
  have k1 : ¬ 40 < l1 := by omega
  have k2 : ¬ 40 < l2 := by omega
  have C1 := allLetters_any a1 l1 c1 z1 _ (h1.below ((Below.refl _ _).alloc (Nat.le_refl _) (.cells #[.slice none 0 0, .int .i64 0] 69)))
  have C2 := allLetters_any a2 l2 c2 z2 _ (h2.below ((Below.refl _ _).alloc (Nat.le_refl _) (.cells #[.slice none 0 0, .int .i64 0] 69)))
  have E1 := hid hl.1
  have E2 := hid hl.2
  have L1 := h1.hlen
  have L2 := h2.hlen
  obtain ⟨i0, hi, hz0, hz1, hz2⟩ := info_parts Try.infoInt
  clear hl hw
  go_enter Try.func49, Try.ntmps49
  go_wp2_with fail
  refine C1.mono ?_
  rintro e w' ⟨rfl, rfl⟩
  rw [E1.out]
  go_wp2_with fail
  refine C2.mono ?_
  rintro e w' ⟨rfl, rfl⟩
  rw [E2.out]
  clear C1 C2
  go_wp2_with (at_make; go_must (refine wpList_make_own _ rfl (.const (.int .i64 0)) (.tmp 37) 27 rfl (w.heap.size + 1) 3 i0 (.int .i64 0) 1 Try.underlying27 hi hz0 hz1 .i64 .i64 _ (l1 + l2) rfl rfl ?m1 ?m2 ?m3 ?m4 ?_))
  case m1 => omega
  case m2 => rw [hz2]; omega
  case m3 => unfold maxLen; omega
  case m4 => simp
  intro w1 own1 grow1
  try simp only [World.size_alloc] at own1
  have bw1 : Below (w.heap.size + 1) (w.alloc (.cells #[.slice none 0 0, .int .i64 0] 69)) w1 := (Below.refl _ _).grown grow1 (by simp) (fun k h => by cases h)
  have b0 : Below w.heap.size w w1 := ((Below.refl _ _).alloc (Nat.le_refl _) _).trans (bw1.mono (Nat.le_succ _))
  have s1 := (h1.below b0).src
  have N1 := (h1.below b0).hnil
  have HB0 := hid b0
  have HBW1 := hid bw1
  have hsz1 := b0.size
  clear b0 bw1 grow1
  go_wp2_with (at_builtin; go_must (refine wpList_append_fits_any _ rfl (.tmp 39) (.tmp 40) 27 rfl (w.heap.size + 1) 3 i0 1 Try.underlying27 hi hz1 (w.heap.size + 1) 0 (l1 + l2) [] rfl own1 a1 l1 c1 (z1.map (Value.int .i64)) rfl ?n1 N1 s1 (int_one z1) ?n2 ?_))
  case n1 => simp [L1]
  case n2 => omega
  intro w2 own2 grow2
  try simp only [Nat.zero_add, List.nil_append] at own2
  have b2 : Below w.heap.size w w2 := HB0.out.grown grow2 (by omega) (fun k h => by cases h; omega)
  have bw2 : Below (w.heap.size + 1) (w.alloc (.cells #[.slice none 0 0, .int .i64 0] 69)) w2 := HBW1.out.grown grow2 (by have := HBW1.out.size; simpa using this) (fun k h => by cases h; omega)
  have s2 := (h2.below b2).src
  have N2 := (h2.below b2).hnil
  have HB2 := hid b2
  have HBW2 := hid bw2
  have hsz2 := b2.size
  clear b2 bw2 grow2 s1 N1 own1
  go_wp2_with (at_builtin; go_must (refine wpList_append_fits_any _ rfl (.tmp 42) (.tmp 43) 27 rfl (w.heap.size + 1) 3 i0 1 Try.underlying27 hi hz1 (w.heap.size + 1) l1 (l1 + l2) (z1.map (Value.int .i64)) rfl own2 a2 l2 c2 (z2.map (Value.int .i64)) rfl ?n3 N2 s2 (int_one z2) ?n4 ?_))
  case n3 => simp [L2]
  case n4 => omega
  intro w3 own3 grow3
  rw [← List.map_append] at own3
  have b3 : Below w.heap.size w w3 := HB2.out.grown grow3 (by omega) (fun k h => by cases h; omega)
  have bw3 : Below (w.heap.size + 1) (w.alloc (.cells #[.slice none 0 0, .int .i64 0] 69)) w3 := HBW2.out.grown grow3 (by have := HBW2.out.size; simpa using this) (fun k h => by cases h; omega)
  have r0 := (bw3.cell (p := ⟨w.heap.size, 0, none⟩) (Nat.lt_succ_self _)).trans (World.cell?_alloc_new w _ _ 0)
  have r1 := (bw3.cell (p := ⟨w.heap.size, 1, none⟩) (Nat.lt_succ_self _)).trans (World.cell?_alloc_new w _ _ 1)
  have q0 := (bw3.frozen (p := ⟨w.heap.size, 0, none⟩) (Nat.lt_succ_self _)).trans (World.frozen?_alloc_new w _ _ 0)
  have q1 := (bw3.frozen (p := ⟨w.heap.size, 1, none⟩) (Nat.lt_succ_self _)).trans (World.frozen?_alloc_new w _ _ 1)
  simp at r0 r1
  have HB3 := hid b3
  have O3 := hid own3
  clear b3 bw3 grow3 own3 own2 s2 N2
  go_wp2_with fail
  refine bodyPost_ret (v := .tuple #[.agg #[.slice (some ⟨w.heap.size + 1, 0, none⟩) (l1 + l2) (l1 + l2), .int .i64 l1], .int .i64 0]) (by simp [results, Try.results49, go_sem, r0, r1]) rfl ?_
  unfold Joined
  rw [E.out, L1, L2]
  refine ⟨(HB3.out.setCell (p := ⟨w.heap.size, 0, none⟩) (Nat.le_refl _) _).setCell (p := ⟨w.heap.size, 1, none⟩) (Nat.le_refl _) _, Or.inr ⟨rfl, w.heap.size + 1, l1 + l2, rfl, ?_⟩⟩
  exact own_mono (ownsRow_setCell_below (ownsRow_setCell_below O3.out (a := ⟨w.heap.size, 0, none⟩) (Nat.lt_succ_self _) _) (a := ⟨w.heap.size, 1, none⟩) (Nat.lt_succ_self _) _) (Nat.le_succ _)

theorem join_any (h1 : Ints w a1 l1 c1 z1) (h2 : Ints w a2 l2 c2 z2) : Calls Try.prog 49 #[.slice a1 l1 c1, .slice a2 l2 c2] w (Joined z1 z2 w) := by
  by_cases h : l2 = 0
  · exact join_loop a1 a2 l1 c1 l2 c2 z1 z2 w h1 h2 h
  by_cases hw : 40 < l1 ∨ 40 < l2
  · exact join_word a1 a2 l1 c1 l2 c2 z1 z2 w h1 h2 h hw
  by_cases hl : allL z1 = true ∧ allL z2 = true
  · exact join_ok a1 a2 l1 c1 l2 c2 z1 z2 w h1 h2 h hw hl
  · exact join_letter a1 a2 l1 c1 l2 c2 z1 z2 w h1 h2 h hw hl
end

end Go.Proofs.Ytjagijohfkffiaa
